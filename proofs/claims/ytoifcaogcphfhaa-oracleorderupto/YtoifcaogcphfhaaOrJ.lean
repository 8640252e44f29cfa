/-
  bytes.Join with nothing between: all pieces, one behind the other, in new memory.
-/
import Derived.Test.YtoifcaogcphfhaaOrM
import Derived.Lib.MakeNoZero
import Derived.Laws.Externs
namespace Go.Proofs.Ytoifcaogcphfhaa
open Go.ChangeShapes Go.WideShapes Go.ChangeAt Go.RowKit Go.Maps
theorem Try.elems37 : Try.prog.elem 37 = 5 := by kernel_rfl
theorem Try.elems33 : Try.prog.elem 33 = 37 := by kernel_rfl
theorem Try.info37 : (Try.prog.info? 37).map (fun i => (i.zero, i.size, i.bytes)) = some (some (.slice none 0 0), 1, 24) := by kernel_rfl
theorem Try.size37 (w : World) : (sizeOf 37).run Try.prog w = .ok 1 w := by
  obtain ⟨i0, hi, hz0, hz1, hz2⟩ := info_parts Try.info37
  simp [sizeOf, typeInfo, hi, hz1]
theorem add_zero_at (a : Addr) : a.add 0 = a := by unfold Addr.add; simp
/-- 'b[:t:t]' -/
theorem slice_full (a : Addr) (n c t : Nat) (h2 : t ≤ c) (w : World) : (Instr.slice 37 (.slice (some a) n c) none (some (.int .i64 (t : Int))) (some (.int .i64 (t : Int)))).run Try.prog w = .ok (.slice (some a) t t) w := by
  rw [run_slice_hm w 37 (some a) n c (by rw [Try.elems37]; exact Try.underlying37) .i64 .i64 _ _ (by omega) (by omega) (by omega), Try.elems37, Try.size5, Result.andThen_ok]
  unfold sliced
  rw [Int.toNat_natCast, Option.map_some, Nat.zero_mul, add_zero_at, Nat.sub_zero]
  split <;> rfl
/-- 'b[q:]' -/
theorem slice_rest (g t q : Nat) (h : q ≤ t) : ∃ off, off ≤ q ∧ (t - q = 0 ∨ off = q) ∧ ∀ w : World, (Instr.slice 37 (.slice (some ⟨g, 0, none⟩) t t) (some (.int .i64 (q : Int))) none none).run Try.prog w = .ok (.slice (some ⟨g, off, none⟩) (t - q) (t - q)) w := by
  by_cases h0 : t - q = 0
  · refine ⟨0, by omega, Or.inl h0, fun w => ?_⟩
    rw [run_slice_l w 37 (some ⟨g, 0, none⟩) t t (by rw [Try.elems37]; exact Try.underlying37) .i64 _ (by omega) (by omega), Try.elems37, Try.size5, Result.andThen_ok]
    unfold sliced
    rw [Int.toNat_natCast, if_pos (by omega)]
  · refine ⟨q, by omega, Or.inr rfl, fun w => ?_⟩
    rw [run_slice_l w 37 (some ⟨g, 0, none⟩) t t (by rw [Try.elems37]; exact Try.underlying37) .i64 _ (by omega) (by omega), Try.elems37, Try.size5, Result.andThen_ok]
    unfold sliced
    rw [Int.toNat_natCast, if_neg (by omega), Option.map_some, Nat.mul_one]
    have : (⟨g, 0, none⟩ : Addr).add q = ⟨g, q, none⟩ := by unfold Addr.add; split <;> simp_all
    rw [this]
/-- 's[1:]' -/
theorem slice_one (a : Addr) (n c : Nat) (h1 : 2 ≤ n) (h3 : n ≤ c) (w : World) : (Instr.slice 33 (.slice (some a) n c) (some (.int .i64 1)) none none).run Try.prog w = .ok (.slice (some (a.add 1)) (n - 1) (c - 1)) w := by
  rw [run_slice_l w 33 (some a) n c (by rw [Try.elems33]; exact Try.underlying33) .i64 _ (by omega) (by omega), Try.elems33, Try.size37, Result.andThen_ok]
  unfold sliced
  rw [show ((1 : Int).toNat) = 1 from rfl, if_neg (by omega), Option.map_some, Nat.mul_one]
theorem add_one_at (a : Addr) (i : Nat) : a.add (i + 1) = ⟨a.block, a.off + 1 + i, none⟩ := by
  unfold Addr.add
  rw [if_neg (by omega), Nat.add_comm i 1, Nat.add_assoc]
/-- internal/bytealg.MakeNoZero -/
theorem makeNoZero_any (n : Nat) (hn : n ≤ 281474976710656) (w : World) : ∃ cs : Array Value, (callFunc 18 #[.int .i64 (n : Int)]).run Try.prog w = .ok (.value (.slice (some ⟨w.heap.size, 0, none⟩) n cs.size)) (w.drew.drew.alloc (.cells cs 5)) ∧ n ≤ cs.size := by
  obtain ⟨cs, hrun, hle, _⟩ := Lib.run_makeNoZero (P := Try.prog) w #[3] 37 5 Try.underlying37 n hn
  refine ⟨cs, ?_, hle⟩
  rw [run_callFunc_extern Try.func18 (by kernel_rfl) (by kernel_rfl) (by kernel_rfl) (e := Extern.BytealgMakeNoZero.makeNoZero #[3] #[37]) (by kernel_rfl), hrun]
  rfl
/-- what is laid so far -/
def jRow (xs : List Nat) (cs : List Value) : List Value := xs.map bV ++ cs.drop xs.length
theorem jRow_len (xs : List Nat) (cs : List Value) (h : xs.length ≤ cs.length) : (jRow xs cs).length = cs.length := by
  simp [jRow]; omega
theorem jRow_more (xs ys : List Nat) (cs : List Value) (off : Nat) (ho : ys = [] ∨ off = xs.length) : splice (jRow xs cs) off (ys.map bV) = jRow (xs ++ ys) cs := by
  rcases ho with rfl | rfl
  · simp [splice]
  · unfold splice jRow
    rw [List.take_append_of_le_length (by simp), List.take_of_length_le (by simp), List.map_append, List.drop_append, List.length_map, List.length_map, List.drop_of_length_le (by simp), List.nil_append, List.drop_drop, List.length_append, List.append_assoc]
    congr 3
    omega
theorem Byts.of_row {w : World} {g t : Nat} {bs : List Nat} {cs : List Value} (h : Has w g 5 (jRow bs cs).toArray) (ht : bs.length = t) (h256 : ∀ x ∈ bs, x < 256) (hb : t ≤ 140737488355328) : Byts w (· = g) (.slice (some ⟨g, 0, none⟩) t t) bs := by
  subst ht
  refine ⟨_, _, rfl, ?_, (fun h => by cases h), h256, hb⟩
  intro i hi
  refine ⟨_, rfl, rfl, ?_⟩
  have hadd : (⟨g, 0, none⟩ : Addr).add i = ⟨g, i, none⟩ := by unfold Addr.add; split <;> simp_all
  rw [hadd, Has.cell h i]
  simp only [jRow, List.getElem?_toArray]
  rw [List.getElem?_append_left (by simpa using hi), List.getElem?_map, List.getElem?_eq_getElem hi]
  simp [List.getD_eq_getElem?_getD, List.getElem?_eq_getElem hi]
theorem flat_small {L : List (List Nat)} (h : ∀ i, i < L.length → ∀ x ∈ L.getD i [], x < 256) : ∀ x ∈ L.flatten, x < 256 := by
  intro x hx
  obtain ⟨l, hl, hxl⟩ := List.mem_flatten.1 hx
  obtain ⟨i, hi, rfl⟩ := List.getElem_of_mem hl
  exact h i hi x (by simpa [List.getD_eq_getElem?_getD, List.getElem?_eq_getElem hi] using hxl)
set_option maxRecDepth 100000 in
set_option maxHeartbeats 2000000 in
theorem Join_any (A : Option Addr) (n c : Nat) (F : Nat → Prop) (L : List (List Nat)) (w : World) (hA : Lists w F A L) (hF : ∀ k, F k → k < w.heap.size) (hn : L.length = n) (hnc : n ≤ c) (hb : n ≤ 2000000) (hT : L.flatten.length ≤ 140737488355328) :
    Calls Try.prog 17 #[.slice A n c, .slice none 0 0] w fun e w' => ∃ v, e = .returned v ∧ Byts w' (· < w'.heap.size) v L.flatten ∧ New w w' := by
  obtain ⟨i0, hi, hz0, hz1, hz2⟩ := info_parts Try.info5
  obtain ⟨vs, hV, hB⟩ := hA
  have HS : Hid (∀ x ∈ L.flatten, x < 256) := flat_small fun i hi => by
    obtain ⟨_, _, _, _, _, h, _⟩ := hB i hi
    exact h
  rw [hn] at hV hB
  have HV := Lib.hid hV; clear hV
  have HB := Lib.hid hB; clear hB
  have Hn := Lib.hid hn; clear hn
  have HF := Lib.hid hF; clear hF
  have HT := Lib.hid hT; clear hT
  go_enter Try.func17, Try.ntmps17
  by_cases h0 : n = 0
  · subst h0
    go_wp2_with fail
    go_ret
    obtain rfl : L = [] := List.length_eq_zero_iff.1 Hn.out
    refine ⟨_, rfl, ?_, (Chg.refl _ _).alloc _⟩
    exact ⟨_, _, rfl, fun i hi => by simp at hi, (fun h => by cases h), (fun x hx => by simp at hx), by simp⟩
  · by_cases h1 : n = 1
    · subst h1
      obtain ⟨a, rfl, hab, hc⟩ := HV.out 0 (by omega)
      obtain ⟨B, cb, hve, hBA, hnil, h256, hbb⟩ := HB.out 0 (by omega)
      rw [hve, add_zero_at] at hc
      obtain ⟨bs, hbs⟩ : ∃ bs, bs = L.getD 0 [] := ⟨_, rfl⟩
      rw [← hbs] at hc hBA h256 hbb hnil
      have HL : Hid (L.flatten = bs) := by
        obtain ⟨x, rfl⟩ : ∃ x, L = [x] := List.length_eq_one_iff.1 Hn.out
        rw [hbs]; simp [Hid]
      clear hbs hve
      obtain ⟨p, hp⟩ : ∃ p, p = bs.length := ⟨_, rfl⟩
      rw [← hp] at hc hBA hbb hnil
      have Hp := Lib.hid hp; clear hp
      have HNil := Lib.hid hnil; clear hnil
      have HBA := Lib.hid hBA; clear hBA
      have H256 := Lib.hid h256; clear h256
      go_wp2_with (first | (at_builtin; refine wpList_append_src rfl _ _ 37 rfl w.heap.size 5 i0 (.int .u8 0) 1 1 Try.underlying37 hi hz0 hz1 hz2 rfl (by decide) (.slice none 0 0) 0 [] rfl (World.ownsRow_nil _ _ _ _) B p cb (bs.map bV) rfl HNil.out (by rw [List.length_map, Nat.mul_one, Hp.out]) (map_news HBA.out Hp.out.symm) (bV_one bs) (by simp only [maxLen]; omega) (by omega) (Nat.le_refl _) ?_; intro A3 c3 w3 hO3 hC3 hf3; have HO3 := Lib.hid hO3; have HC3 := Lib.hid hC3; clear hO3 hC3 hf3) | go_in)
      go_ret
      refine ⟨_, rfl, ?_, HC3.out.mono (fun i _ h => by cases h)⟩
      have hO := HO3.out
      simp only [List.nil_append, Nat.zero_add] at hO
      rw [HL.out]
      exact Byts.own_any hO (Chg.refl _ _) H256.out (by omega)
    · have hge : 2 ≤ n := by omega
      have t0 : ((n : Int) == 0) = false := by simp; omega
      have t1 : ((n : Int) == 1) = false := by simp; omega
      go_wp2_with fail
      go_loopg [5, 44] n (fun gk a i wr => ∃ k : Nat, k ≤ n ∧ gk = n - k ∧ a = .int .i64 ((L.take k).flatten.length : Nat) ∧ i = .int .i64 k ∧ w = wr)
      case atStart => exact ⟨0, by omega, by omega, rfl, rfl, rfl⟩
      case round =>
        obtain ⟨k, hk, rfl, rfl, rfl, rfl⟩ := hrel
        by_cases hlt : k < n
        · obtain ⟨a, rfl, _, hc⟩ := HV.out k hlt
          obtain ⟨B, cb, hve, hBA, _, h256, hbb⟩ := HB.out k hlt
          rw [hve] at hc
          have HFl : Hid ((L.take (k + 1)).flatten.length = (L.take k).flatten.length + (L.getD k []).length) := by
            rw [Hid, flat_take L k (by rw [Hn.out]; exact hlt), List.length_append]
          have hle : (L.take (k + 1)).flatten.length ≤ 140737488355328 := Nat.le_trans (flat_len_le L (k + 1)) HT.out
          rw [HFl.out] at hle
          obtain ⟨m, hm⟩ : ∃ m, m = (L.getD k []).length := ⟨_, rfl⟩
          obtain ⟨q, hq⟩ : ∃ q, q = (L.take k).flatten.length := ⟨_, rfl⟩
          rw [← hm] at hc HFl hle
          rw [← hq] at HFl hle ⊢
          clear hm hq hbb h256 hBA hve
          go_wp2
          go_roundg (n - (k + 1))
          case measure => omega
          case rel => exact ⟨k + 1, by omega, rfl, by rw [HFl.out]; go_num, by go_num, rfl⟩
        · obtain rfl : k = n := by omega
          have hall : L.take k = L := List.take_of_length_le (by rw [Hn.out]; omega)
          rw [hall]
          clear hall
          have hT := HT.out
          obtain ⟨T, hTe⟩ : ∃ T, T = L.flatten.length := ⟨_, rfl⟩
          rw [← hTe] at hT ⊢
          have HTe := Lib.hid hTe; clear hTe
          obtain ⟨cs, hmk, hcs⟩ := makeNoZero_any T (by omega) w
          obtain ⟨a, rfl, _, hc0⟩ := HV.out 0 (by omega)
          obtain ⟨B, cb, hve, hBA, hnil, h256, hbb⟩ := HB.out 0 (by omega)
          rw [hve, add_zero_at] at hc0
          have hN1 : New w (w.drew.drew.alloc (.cells cs 5)) := (((Chg.refl _ _).drew).drew).alloc _
          have hH1 : Has (w.drew.drew.alloc (.cells cs 5)) w.heap.size 5 (jRow [] cs.toList).toArray := by
            have := Has.new w.drew.drew 5 cs
            simpa [jRow] using this
          obtain ⟨w1, hw1⟩ : ∃ w1, w1 = w.drew.drew.alloc (.cells cs 5) := ⟨_, rfl⟩
          rw [← hw1] at hmk hN1 hH1
          clear hw1
          have hfull := slice_full ⟨w.heap.size, 0, none⟩ T cs.size T hcs
          have hc1 : w1.cell? a = some (.slice B (L.getD 0 []).length cb) := (hN1.cell (HF.out _ ‹_›) (fun f => f)).trans hc0
          have HBA1 := Lib.hid (hBA.new hN1 HF.out); clear hBA
          have HFl : Hid ((L.take (0 + 1)).flatten = [] ++ L.getD 0 []) := flat_take L 0 (by rw [Hn.out]; omega)
          obtain ⟨bs, hbs⟩ : ∃ bs, bs = L.getD 0 [] := ⟨_, rfl⟩
          rw [← hbs] at hc1 HBA1 h256 hbb HFl
          clear hbs hve hc0 hnil
          have hle : bs.length ≤ T := by
            have := flat_len_le L (0 + 1)
            rw [HFl.out, ← HTe.out] at this
            simpa using this
          obtain ⟨p, hp⟩ : ∃ p, p = bs.length := ⟨_, rfl⟩
          rw [← hp] at hc1 HBA1 hbb hle
          have Hp := Lib.hid hp; clear hp
          have HN1 := Lib.hid hN1; clear hN1
          have HH1 := Lib.hid hH1; clear hH1
          have hone := slice_one a k c (by omega) hnc
          clear h256
          go_wp2_with (first | (refine wpList_copy_has rfl _ _ rfl w.heap.size 0 T T rfl B p cb rfl 5 (jRow [] cs.toList) HH1.out F (fun i => bV (bs.getD i 0)) HBA1.out (fun _ _ => rfl) (by rw [jRow_len _ _ (by simp)]; simpa using hcs) ?_; intro w2 hH2 hC2; have HH2 := Lib.hid hH2; have HC2 := Lib.hid hC2; clear hH2 hC2) | fail)
          have hmin : Nat.min p T = p := Nat.min_eq_left hle
          have HH3 : Hid (Has w2 w.heap.size 5 (jRow (L.take 1).flatten cs.toList).toArray) := by
            have := HH2.out
            rw [hmin, bs_range bs p Hp.out.symm, jRow_more [] bs cs.toList 0 (Or.inr rfl)] at this
            rw [Hid, HFl.out]
            exact this
          have HN2 : Hid (New w w2) := HN1.out.trans HC2.out (fun i hi e => by omega)
          have HPl : Hid (p = (L.take 1).flatten.length) := by rw [Hid, HFl.out, Hp.out]; rfl
          clear HH2 HC2 HH1 HN1 HBA1 Hp HFl hc1 hone hfull hmk hmin hbb
          go_loopg [9, 72] (k - 1) (fun gk a i wy => ∃ (j q : Nat), j ≤ k - 1 ∧ gk = k - 1 - j ∧ a = .int .i64 (q : Int) ∧ q = (L.take (j + 1)).flatten.length ∧ i = .int .i64 j ∧ Has wy w.heap.size 5 (jRow (L.take (j + 1)).flatten cs.toList).toArray ∧ New w wy)
          case atStart => exact ⟨0, p, by omega, by omega, rfl, HPl.out, rfl, HH3.out, HN2.out⟩
          case round =>
            obtain ⟨j, q, hj, rfl, rfl, hq, rfl, hH, hN⟩ := hrel
            clear HH3 HN2 HPl
            have Hq := Lib.hid hq; clear hq
            have HH := Lib.hid hH; clear hH
            have HN := Lib.hid hN; clear hN
            by_cases hlt : j < k - 1
            · obtain ⟨a', ha', _, hc⟩ := HV.out.new HN.out HF.out (j + 1) (by omega)
              cases ha'
              obtain ⟨B, cb, hve, hBA, hnil, h256, hbb⟩ := HB.out (j + 1) (by omega)
              rw [hve, add_one_at] at hc
              have HFl : Hid ((L.take (j + 1 + 1)).flatten = (L.take (j + 1)).flatten ++ L.getD (j + 1) []) := flat_take L (j + 1) (by rw [Hn.out]; omega)
              have HBA1 := Lib.hid (hBA.new HN.out HF.out); clear hBA
              obtain ⟨bs, hbs⟩ : ∃ bs, bs = L.getD (j + 1) [] := ⟨_, rfl⟩
              rw [← hbs] at hc HBA1 h256 hbb HFl
              clear hbs hve hnil h256
              have hle : q + bs.length ≤ T := by
                have := flat_len_le L (j + 1 + 1)
                rw [HFl.out, List.length_append, ← HTe.out, ← Hq.out] at this
                exact this
              obtain ⟨p, hp⟩ : ∃ p, p = bs.length := ⟨_, rfl⟩
              rw [← hp] at hc HBA1 hbb hle
              have Hp := Lib.hid hp; clear hp
              obtain ⟨off, ho1, ho2, hsl⟩ := slice_rest w.heap.size T q (by omega)
              have hfit : off + (T - q) ≤ (jRow (L.take (j + 1)).flatten cs.toList).length := by
                rw [jRow_len _ _ (by rw [← Hq.out, Array.length_toList]; omega), Array.length_toList]
                omega
              have hmin : Nat.min p (T - q) = p := Nat.min_eq_left (by omega)
              have tj : decide ((j : Int) < ((k - 1 : Nat) : Int)) = true := by simp; omega
              go_wp2_with (first
                | (refine wpList_copy_nothing rfl _ _ 37 37 rfl 5 Try.underlying37 Try.sizes5 _ _ _ _ _ _ rfl rfl (Nat.zero_min _) ?_)
                | (refine wpList_copy_has rfl _ _ rfl w.heap.size off (T - q) (T - q) rfl B p cb rfl 5 _ HH.out F (fun i => bV (bs.getD i 0)) HBA1.out (fun _ _ => rfl) hfit ?_; intro w2 hH2 hC2; have HH2 := Lib.hid hH2; have HC2 := Lib.hid hC2; clear hH2 hC2))
              have HH3 : Hid (Has w2 w.heap.size 5 (jRow (L.take (j + 1 + 1)).flatten cs.toList).toArray) := by
                have := HH2.out
                rw [hmin, bs_range bs p Hp.out.symm, jRow_more _ bs cs.toList off (by
                  rcases ho2 with h | h
                  · exact Or.inl (List.length_eq_zero_iff.1 (by rw [← Hp.out]; omega))
                  · exact Or.inr (by rw [h, Hq.out]))] at this
                rw [Hid, HFl.out]
                exact this
              have HN2 : Hid (New w w2) := HN.out.trans HC2.out (fun i hi e => by omega)
              go_roundg (k - 1 - (j + 1))
              case measure => omega
              case rel => exact ⟨j + 1, q + p, by omega, rfl, by go_num, by rw [HFl.out, List.length_append, Hq.out, Hp.out], by go_num, HH3.out, HN2.out⟩
            · obtain rfl : j = k - 1 := by omega
              have tj : decide (((k - 1 : Nat) : Int) < ((k - 1 : Nat) : Int)) = false := by simp
              have hall : L.take (k - 1 + 1) = L := List.take_of_length_le (by rw [Hn.out]; omega)
              have HH2 : Hid (Has wr w.heap.size 5 (jRow L.flatten cs.toList).toArray) := by
                have := HH.out
                rw [hall] at this
                exact this
              clear hall HH
              go_wp2_with fail
              go_ret
              exact ⟨_, rfl, (Byts.of_row HH2.out HTe.out.symm HS.out hT).mono (fun i hi => by rw [hi]; exact HH2.out.lt), HN.out⟩
end Go.Proofs.Ytoifcaogcphfhaa
