/-
  The laws' awake.
-/
import Derived.Test.YtoifcaogcphfhaaOrA
namespace Go.Proofs.Ytoifcaogcphfhaa
open Go.ChangeShapes Go.WideShapes Go.ChangeAt Go.RowKit Go.Maps
theorem byts_of {w wx : World} {g : Nat} {fr : Nat × Nat} {bs : List Nat} (h : w.heap[g]? = some (.cells (bs.map bV).toArray 5 fr)) (hx : New w wx) (h256 : ∀ x ∈ bs, x < 256) (hb : bs.length ≤ 140737488355328) : Byts wx (· < wx.heap.size) (.slice (some ⟨g, 0, none⟩) bs.length bs.length) bs := by
  have hl : g < w.heap.size := lt_of_block h
  exact (Byts.of_mark ((hx.block g hl fun f => f).trans h) h256 hb).mono fun k hk => by rw [hk]; exact Nat.lt_of_lt_of_le hl hx.size
theorem Lists.two {w : World} {F : Nat → Prop} {g : Nat} {t : TypeId} {v1 v2 : Value} {b1 b2 : List Nat} (hg : Has w g t #[v1, v2]) (h1 : Byts w F v1 b1) (h2 : Byts w F v2 b2) : Lists w (fun k => F k ∨ k = g) (some ⟨g, 0, none⟩) [b1, b2] :=
  Lists.of_has (vs := [v1, v2]) hg rfl fun i hi => by
    match i, hi with
    | 0, _ => exact h1
    | 1, _ => exact h2
/-- a row of one slice: the letters a and b -/
theorem lists_ab (w : World) : ∃ F, (∀ k, F k → k < ((w.alloc (.cells #[.int .u8 97, .int .u8 98] 5 (2, 3))).alloc (.cells #[.slice (some ⟨w.heap.size, 0, none⟩) 2 2] 37)).heap.size) ∧ Lists ((w.alloc (.cells #[.int .u8 97, .int .u8 98] 5 (2, 3))).alloc (.cells #[.slice (some ⟨w.heap.size, 0, none⟩) 2 2] 37)) F (some ⟨w.heap.size + 1, 0, none⟩) [[97, 98]] := by
  have h1 := heap_alloc_new w (.cells (([97, 98] : List Nat).map bV).toArray 5 (2, 3))
  have h2 := Has.new_at (w.alloc (.cells #[.int .u8 97, .int .u8 98] 5 (2, 3))) 37 #[.slice (some ⟨w.heap.size, 0, none⟩) 2 2] (w.heap.size + 1) (by simp)
  refine ⟨_, fun k hk => ?_, Lists.one h2 (byts_of (bs := [97, 98]) h1 ((Chg.refl _ _).alloc _) (by decide) (by decide))⟩
  rcases hk with hk | hk
  · exact hk
  · rw [hk]; exact h2.lt
/-- a row of two slices: the letter a, the letter b -/
theorem lists_a_b (w : World) : ∃ F, (∀ k, F k → k < (((w.alloc (.cells #[.int .u8 97] 5 (1, 2))).alloc (.cells #[.int .u8 98] 5 (1, 2))).alloc (.cells #[.slice (some ⟨w.heap.size, 0, none⟩) 1 1, .slice (some ⟨w.heap.size + 1, 0, none⟩) 1 1] 37)).heap.size) ∧ Lists (((w.alloc (.cells #[.int .u8 97] 5 (1, 2))).alloc (.cells #[.int .u8 98] 5 (1, 2))).alloc (.cells #[.slice (some ⟨w.heap.size, 0, none⟩) 1 1, .slice (some ⟨w.heap.size + 1, 0, none⟩) 1 1] 37)) F (some ⟨w.heap.size + 2, 0, none⟩) [[97], [98]] := by
  have h1 := heap_alloc_new w (.cells (([97] : List Nat).map bV).toArray 5 (1, 2))
  have h2 : ((w.alloc (.cells #[.int .u8 97] 5 (1, 2))).alloc (.cells #[.int .u8 98] 5 (1, 2))).heap[w.heap.size + 1]? = some (.cells (([98] : List Nat).map bV).toArray 5 (1, 2)) := by
    have := heap_alloc_new (w.alloc (.cells #[.int .u8 97] 5 (1, 2))) (.cells (([98] : List Nat).map bV).toArray 5 (1, 2))
    rw [World.size_alloc] at this
    exact this
  have h3 := Has.new_at ((w.alloc (.cells #[.int .u8 97] 5 (1, 2))).alloc (.cells #[.int .u8 98] 5 (1, 2))) 37 #[.slice (some ⟨w.heap.size, 0, none⟩) 1 1, .slice (some ⟨w.heap.size + 1, 0, none⟩) 1 1] (w.heap.size + 2) (by simp)
  refine ⟨_, fun k hk => ?_, Lists.two h3 (byts_of (bs := [97]) h1 (((Chg.refl _ _).alloc _).alloc _) (by decide) (by decide)) (byts_of (bs := [98]) h2 ((Chg.refl _ _).alloc _) (by decide) (by decide))⟩
  rcases hk with hk | hk
  · exact hk
  · rw [hk]; exact h3.lt
theorem cv2 (w : World) : (convert 37 37 (.slice (some ⟨w.heap.size, 0, none⟩) 2 2)).run Try.prog (w.alloc (.cells #[.int .u8 97, .int .u8 98] 5)) = .ok (.slice (some ⟨w.heap.size, 0, none⟩) 2 2) (w.alloc (.cells #[.int .u8 97, .int .u8 98] 5 (2, 3))) :=
  Joins.run_convert_bytes_const_at (P := Try.prog) w 37 5 #[.int .u8 97, .int .u8 98] 2 2 w.heap.size rfl Try.underlying37 Try.underlying5
theorem cv1 (w : World) (x : Value) (g : Nat) (hg : g = w.heap.size) : (convert 37 37 (.slice (some ⟨g, 0, none⟩) 1 1)).run Try.prog (w.alloc (.cells #[x] 5)) = .ok (.slice (some ⟨g, 0, none⟩) 1 1) (w.alloc (.cells #[x] 5 (1, 2))) :=
  Joins.run_convert_bytes_const_at (P := Try.prog) w 37 5 #[x] 1 1 g hg Try.underlying37 Try.underlying5
theorem not_OS {w : World} {base k : Nat} {t : TypeId} {cs : Array Value} (h : Has w k t cs) (h1 : t ≠ 28) (h2 : t ≠ 53) : ¬ OS base w k := by
  unfold Has at h
  rintro ⟨_, ⟨es, c, e⟩ | ⟨cs', m, e⟩ | ⟨cs', m, e⟩⟩
  · rw [h] at e; cases e
  · rw [h] at e; cases e; exact h1 rfl
  · rw [h] at e; cases e; exact h2 rfl
theorem OS.of_new {base : Nat} {w w1 w2 : World} (h : New w w1) (k : Chg (OS base w1) w1 w2) : Chg (OS base w) w w2 := OS.trans (Chg.of_new h) k
theorem mint_lit (base g : Nat) (M : List Sl) (v : Int) (hv : (Lit.int .i64 v).wf = true) (w : World) (hM : Orc w base g M) (hm : M.length ≤ 1000) :
    Calls Try.prog 11 #[.pointer (some ⟨g, 0, none⟩), .agg #[.int .i64 1, .int .i64 0, .int .i64 0, .int .i64 v], .slice (some ⟨w.heap.size + 1, 0, none⟩) 1 1] ((w.alloc (.cells #[.int .u8 97, .int .u8 98] 5 (2, 3))).alloc (.cells #[.slice (some ⟨w.heap.size, 0, none⟩) 2 2] 37)) fun e w' => e = .returned (.int .i64 (mintN M ⟨1, 0, 0, v, bstr [97, 98]⟩ : Nat)) ∧ Orc w' base g (mintL M ⟨1, 0, 0, v, bstr [97, 98]⟩) ∧ Chg (OS base w) w w' := by
  have hN : New w ((w.alloc (.cells #[.int .u8 97, .int .u8 98] 5 (2, 3))).alloc (.cells #[.slice (some ⟨w.heap.size, 0, none⟩) 2 2] 37)) := ((Chg.refl _ _).alloc _).alloc _
  obtain ⟨F, hF, hL⟩ := lists_ab w
  exact (Mint_orc base g M 1 0 0 v (by decide) (by decide) (by decide) hv _ 1 1 F [[97, 98]] _ (hM.new hN) hm hL hF rfl (by omega) (by omega) (by decide)).mono fun e w' h => ⟨h.1, h.2.1, OS.of_new hN h.2.2⟩
theorem mint_lit2 (base g : Nat) (M : List Sl) (w : World) (hM : Orc w base g M) (hm : M.length ≤ 1000) :
    Calls Try.prog 11 #[.pointer (some ⟨g, 0, none⟩), .agg #[.int .i64 1, .int .i64 0, .int .i64 0, .int .i64 1], .slice (some ⟨w.heap.size + 2, 0, none⟩) 2 2] (((w.alloc (.cells #[.int .u8 97] 5 (1, 2))).alloc (.cells #[.int .u8 98] 5 (1, 2))).alloc (.cells #[.slice (some ⟨w.heap.size, 0, none⟩) 1 1, .slice (some ⟨w.heap.size + 1, 0, none⟩) 1 1] 37)) fun e w' => e = .returned (.int .i64 (mintN M aX : Nat)) ∧ Orc w' base g (mintL M aX) ∧ Chg (OS base w) w w' := by
  have hN : New w (((w.alloc (.cells #[.int .u8 97] 5 (1, 2))).alloc (.cells #[.int .u8 98] 5 (1, 2))).alloc (.cells #[.slice (some ⟨w.heap.size, 0, none⟩) 1 1, .slice (some ⟨w.heap.size + 1, 0, none⟩) 1 1] 37)) := (((Chg.refl _ _).alloc _).alloc _).alloc _
  obtain ⟨F, hF, hL⟩ := lists_a_b w
  exact (Mint_orc base g M 1 0 0 1 (by decide) (by decide) (by decide) (by decide) _ 2 2 F [[97], [98]] _ (hM.new hN) hm hL hF rfl (by omega) (by omega) (by decide)).mono fun e w' h => ⟨h.1, h.2.1, OS.of_new hN h.2.2⟩
theorem holds_lit (base g : Nat) (M : List Sl) (t : Int) (w : World) (hM : Orc w base g M) :
    Calls Try.prog 9 #[.pointer (some ⟨g, 0, none⟩), .int .i64 t, .agg #[.int .i64 1, .int .i64 0, .int .i64 0, .int .i64 1], .slice (some ⟨w.heap.size + 1, 0, none⟩) 1 1] ((w.alloc (.cells #[.int .u8 97, .int .u8 98] 5 (2, 3))).alloc (.cells #[.slice (some ⟨w.heap.size, 0, none⟩) 2 2] 37)) fun e w' => e = .returned (.bool (holdsB M aX t)) ∧ New w w' := by
  have hN : New w ((w.alloc (.cells #[.int .u8 97, .int .u8 98] 5 (2, 3))).alloc (.cells #[.slice (some ⟨w.heap.size, 0, none⟩) 2 2] 37)) := ((Chg.refl _ _).alloc _).alloc _
  obtain ⟨F, hF, hL⟩ := lists_ab w
  exact (Holds_any base g M t 1 0 0 1 (by decide) (by decide) (by decide) (by decide) _ 1 1 F [[97, 98]] _ (hM.new hN) hL hF rfl (by omega) (by omega) (by decide)).mono fun e w' h => ⟨h.1, hN.then_new h.2⟩
set_option maxRecDepth 100000 in
set_option maxHeartbeats 4000000 in
theorem awake_any (w : World) : Calls Try.prog 6 #[] w fun e w' => e = .returned (.bool true) ∧ New w w' := by
  go_enter Try.func6, Try.ntmps6
  go_upto_region 3 with (fail)
  have hM2 := (Orc.made w).new (((Chg.refl _ _).alloc (.cells #[.int .i64 1, .int .i64 0, .int .i64 0, .int .i64 1] 32)) : New _ _)
  have hK2 := Has.new_at (w.alloc (.cells #[.map none, .slice none 0 0] 28)) 32 #[.int .i64 1, .int .i64 0, .int .i64 0, .int .i64 1] (w.heap.size + 1) (by simp)
  have hN2 : New w ((w.alloc (.cells #[.map none, .slice none 0 0] 28)).alloc (.cells #[.int .i64 1, .int .i64 0, .int .i64 0, .int .i64 1] 32)) := ((Chg.refl _ _).alloc _).alloc _
  obtain ⟨w2, hw2⟩ : ∃ w2, w2 = (w.alloc (.cells #[.map none, .slice none 0 0] 28)).alloc (.cells #[.int .i64 1, .int .i64 0, .int .i64 0, .int .i64 1] 32) := ⟨_, rfl⟩
  rw [← hw2] at hM2 hK2 hN2 ⊢
  clear hw2
  have k0 := (hK2.cell 0).trans rfl
  have k1 := (hK2.cell 1).trans rfl
  have k2 := (hK2.cell 2).trans rfl
  have k3 := (hK2.cell 3).trans rfl
  have HC := Lib.hid (mint_lit _ _ _ 1 (by decide) w2 hM2 (by simp))
  have HK2 := Lib.hid hK2; clear hK2
  have HN2 := Lib.hid hN2; clear hN2
  clear hM2
  have hcv := cv2 w2
  go_upto_region 4 with (go_at_call 11; (with_reducible refine HC.out.mono ?_); rintro e w3 ⟨rfl, hM3, hC3⟩; have HM3 := Lib.hid hM3; have HC3 := Lib.hid hC3; clear hM3 hC3)
  have hM3 : Orc w3 w.heap.size w.heap.size [aX] := by have := HM3.out; rw [show (⟨1, 0, 0, 1, bstr [97, 98]⟩ : Sl) = aX from rfl, mintL_x0] at this; exact this
  have hK3 := HK2.out.chg HC3.out (not_OS HK2.out (by decide) (by decide))
  have hN3 : New w w3 := HN2.out.trans HC3.out (fun i hi h => by have := h.1; omega)
  have e1 : (mintN [] (⟨1, 0, 0, 1, bstr [97, 98]⟩ : Sl)) = 1 := mintN_x0
  rw [e1]
  clear k0 k1 k2 k3 HC HM3 HC3 HK2 HN2 e1 hcv
  have k0 := (hK3.cell 0).trans rfl
  have k1 := (hK3.cell 1).trans rfl
  have k2 := (hK3.cell 2).trans rfl
  have k3 := (hK3.cell 3).trans rfl
  have HC := Lib.hid (mint_lit2 _ _ _ w3 hM3 (by simp))
  have hcv := cv1 w3 (.int .u8 97) _ rfl
  have hcw := cv1 (w3.alloc (.cells #[.int .u8 97] 5 (1, 2))) (.int .u8 98) (w3.heap.size + 1) (by simp)
  have HK3 := Lib.hid hK3; clear hK3
  have HN3 := Lib.hid hN3; clear hN3
  clear hM3
  go_upto_region 5 with (go_at_call 11; (with_reducible refine HC.out.mono ?_); rintro e w4 ⟨rfl, hM4, hC4⟩; have HM4 := Lib.hid hM4; have HC4 := Lib.hid hC4; clear hM4 hC4)
  have hM4 : Orc w4 w.heap.size w.heap.size [aX] := by have := HM4.out; rw [mintL_x1] at this; exact this
  have hK4 := HK3.out.chg HC4.out (not_OS HK3.out (by decide) (by decide))
  have hN4 : New w w4 := HN3.out.trans HC4.out (fun i hi h => by have := h.1; omega)
  rw [mintN_x1]
  clear k0 k1 k2 k3 HC HM4 HC4 HK3 HN3 hcv hcw
  have hcv := cv2 w4
  have HC := Lib.hid (mint_lit _ _ _ 2 (by decide) w4 hM4 (by simp))
  rw [show (⟨1, 0, 0, 2, bstr [97, 98]⟩ : Sl) = aY from rfl, mintN_y, mintL_y] at HC
  have HK4 := Lib.hid hK4; clear hK4
  have HN4 := Lib.hid hN4; clear hN4
  clear hM4
  go_wp2_with (first
    | (go_at_call 11; (with_reducible refine HC.out.mono ?_); rintro e w5 ⟨rfl, hM5, hC5⟩
       have hK5 := HK4.out.chg hC5 (not_OS HK4.out (by decide) (by decide))
       have k0 := (hK5.cell 0).trans rfl
       have k1 := (hK5.cell 1).trans rfl
       have k2 := (hK5.cell 2).trans rfl
       have k3 := (hK5.cell 3).trans rfl
       have HN5 : Hid (New w w5) := HN4.out.trans hC5 (fun i hi h => by have := h.1; omega)
       have HK5 := Lib.hid hK5
       have HH5 := Lib.hid (holds_lit _ _ _ 1 w5 hM5)
       have hcx := cv2 w5
       rw [holds_x1] at HH5
       have HM5 := Lib.hid hM5
       clear hM5 hC5 hK5)
    | (go_at_call 9; (with_reducible refine HH5.out.mono ?_); rintro e w6 ⟨rfl, hN6⟩
       have hK6 := HK5.out.keep hN6
       clear k0 k1 k2 k3
       have k0 := (hK6.cell 0).trans rfl
       have k1 := (hK6.cell 1).trans rfl
       have k2 := (hK6.cell 2).trans rfl
       have k3 := (hK6.cell 3).trans rfl
       have HH6 := Lib.hid (holds_lit _ _ _ 2 w6 (HM5.out.new hN6))
       have hcy := cv2 w6
       rw [holds_x2] at HH6
       have HN6 := Lib.hid (HN5.out.then_new hN6)
       clear hN6 hK6 HH5)
    | (go_at_call 9; (with_reducible refine HH6.out.mono ?_); rintro e w7 ⟨rfl, hN7⟩; have HN7 := Lib.hid (HN6.out.then_new hN7); clear hN7))
  go_ret
  exact ⟨rfl, HN7.out⟩
end Go.Proofs.Ytoifcaogcphfhaa
