import Derived.Test.YtkcokcanakljnaaGetC
namespace Go.Proofs.Ytkcokcanakljnaa
open Go.RowKit
theorem map_app (D : Tr) (t : Int) (bs : List Nat) (s : Tr) (a : Ans) : (a.map (Tr.cons t bs s)).map (fun T => D.app T) = a.map (fun T => (D.app (.cons t bs s .nil)).app T) := by
  rw [Ans.map_map]
  cases a with
  | err e => rfl
  | ok T => simp only [Ans.map, Tr.app_app]; rfl
theorem push_keep {wy w8 : World} {g : Nat} {cs : Array Value} {v : Value} (hg : Has wy g 95 cs) (hC : Chg (fun k => v.ownBlock = some k) wy w8) (hv : ∀ k, v.ownBlock = some k → k < g) : Has w8 g 95 cs :=
  hg.chg hC (fun h => by have := hv _ h; omega)
theorem tail_cut (t m gk : Nat) (x : List Nat) (h : gk = x.length + 2) (hm : m ≤ x.length) : (((t :: m :: x).drop (2 + m)).take (gk - (2 + m))) = x.drop m := by
  rw [Nat.add_comm 2 m, show (t :: m :: x).drop (m + 2) = x.drop m from rfl, List.take_of_length_le (by simp; omega)]
theorem tail_none {w : World} {F : Nat → Prop} {a : Addr} {n m : Nat} {x : List Nat} (hn : n = 0) (hx : x.length ≤ m) : Byts w F (.slice (some a) n 0) (x.drop m) := by
  rw [List.drop_eq_nil_of_le hx, hn]; exact Byts.none _ _
theorem own_set {w1 w3 : World} {o o2 : Obj} {v u : Value} {T : Tr} {i : Nat} (h : OwnE w3 (Btw (w1.alloc o) w3) v T) : OwnE ((w3.setCell ⟨w1.heap.size, i, none⟩ u).alloc o2) (Btw w1 ((w3.setCell ⟨w1.heap.size, i, none⟩ u).alloc o2)) v T := by
  have hC : Chg (· = w1.heap.size) w3 ((w3.setCell ⟨w1.heap.size, i, none⟩ u).alloc o2) := Chg.alloc (Chg.setCell (S := (· = w1.heap.size)) (p := ⟨w1.heap.size, i, none⟩) (Chg.refl _ _) (fun _ => rfl) _) _
  refine (h.chg hC (fun k ⟨h1, _⟩ he => ?_)).mono fun k ⟨h1, h2⟩ => ⟨?_, Nat.lt_of_lt_of_le h2 hC.size⟩
  · simp at h1; omega
  · simp at h1; omega
theorem row_set {w1 w3 : World} {o o2 : Obj} {v u : Value} {n i : Nat} {xs : List Value} (h : w3.ownsRow (w1.alloc o).heap.size 5 1 v n xs) : OwnR ((w3.setCell ⟨w1.heap.size, i, none⟩ u).alloc o2) (Btw w1 ((w3.setCell ⟨w1.heap.size, i, none⟩ u).alloc o2)) 5 1 v n xs := by
  have hC : Chg (· = w1.heap.size) w3 ((w3.setCell ⟨w1.heap.size, i, none⟩ u).alloc o2) := Chg.alloc (Chg.setCell (S := (· = w1.heap.size)) (p := ⟨w1.heap.size, i, none⟩) (Chg.refl _ _) (fun _ => rfl) _) _
  refine ⟨own_chg (own_less0 h) hC (fun k hk he => ?_), fun k hk => ⟨?_, Nat.lt_of_lt_of_le (h.lt k hk).2 hC.size⟩⟩
  · have := (h.lt k hk).1; simp at this; omega
  · have := (h.lt k hk).1; simp at this; omega
theorem own_none (w : World) (F : Nat → Prop) : OwnE w F (.slice none 0 0) .nil := ⟨[], ⟨World.ownsRow_nil _ _ _ _, fun k hk => by cases hk⟩, rfl⟩
theorem row_none (w : World) (F : Nat → Prop) (e size : Nat) : OwnR w F e size (.slice none 0 0) 0 [] := ⟨World.ownsRow_nil _ _ _ _, fun k hk => by cases hk⟩
set_option maxRecDepth 100000 in
set_option maxHeartbeats 4000000 in
theorem list_any : ∀ (N : Nat) (bs : List Nat), bs.length < N → ∀ (n : Nat) (A : Option Addr) (c lv : Nat) (w : World) (F : Nat → Prop), Byts w F (.slice A n c) bs → n ≤ c → c ≤ maxLen → lv ≤ 4 → (∀ k, F k → k < w.heap.size) →
    Calls Try.prog 79 #[.slice A n c, .int .i64 lv] w fun e w' => AnsR w (decd lv 0 bs) e w' ∧ New w w' := by
  intro N
  induction N with
  | zero => intro bs hbs; omega
  | succ N ih =>
    intro bs hbs n A c lv w F hB hnc hcm hlv hF
    have IH := Lib.hid ih; clear ih
    have HF := Lib.hid hF; clear hF
    have HB := Lib.hid hB; clear hB
    have Hbs := Lib.hid hbs; clear hbs
    go_enter Try.func79, Try.ntmps79
    go_wp2_with fail
    go_loopg [0, 6, 7] n (fun gk b es la wr => ∃ (R : List Nat) (D : Tr) (l : Nat) (A0 : Option Addr) (n0 c0 : Nat) (A6 : Option Addr) (m6 c6 : Nat), gk = n0 ∧ b = .slice A0 n0 c0 ∧ es = .slice A6 m6 c6 ∧ la = .int .i64 l ∧ Byts w F (.slice A0 n0 c0) R ∧ n0 ≤ c0 ∧ c0 ≤ maxLen ∧ l ≤ 255 ∧ m6 ≤ l ∧ R.length < N + 1 ∧
      (decd lv l R).map (fun T => D.app T) = decd lv 0 bs ∧ Done w wr (.slice A6 m6 c6) m6 D ∧ New w wr)
    case atStart => exact ⟨bs, .nil, 0, A, n, c, none, 0, 0, rfl, rfl, rfl, rfl, HB.out, hnc, hcm, by omega, by omega, Hbs.out, Ans.map_id _, Done.start w, Chg.refl _ _⟩
    case round =>
      obtain ⟨R, D, l, A0, n0, c0, A6, m6, c6, rfl, rfl, rfl, rfl, hBR, hn0, hc0, hl, hm6, hRl, hR, hD, hN⟩ := hrel
      have HR := Lib.hid hR; clear hR
      obtain ⟨hRlen, hn0b, hR256⟩ := hBR.len
      cases R with
      | nil =>
        obtain rfl : gk = 0 := hRlen.symm
        have HN := Lib.hid hN
        have HDl := Lib.hid hD.1
        have HD := Lib.hid hD.out
        clear hN hD hBR hRlen hR256 hRl
        go_wp2_with fail
        go_ret2
        refine ⟨?_, HN.out⟩
        have h := HR.out
        rw [decd_nil] at h
        rw [← h]
        simp only [Ans.map, Tr.app_nil]
        refine ⟨A6, c6, by rw [HDl.out]; rfl, ?_, by rw [HDl.out]; omega⟩
        rw [HDl.out]; exact HD.out
      | cons t r =>
        have hgp : 0 < gk := by simp only [List.length_cons] at hRlen; omega
        have ht := hR256 t (by simp)
        have hBw := hBR.new hN HF.out
        have hFr : ∀ k, F k → k < wr.heap.size := fun k hk => Nat.lt_of_lt_of_le (HF.out k hk) hN.size
        have HH := Lib.hid (head_any t r gk c0 l lv A0 wr F hBw hn0 hc0 hlv hl)
        obtain ⟨a0, rfl, hF0, hcell0, _⟩ := hBw.at (i := 0) (x := t) rfl
        rw [show a0.add 0 = a0 from rfl] at hcell0
        have HBw := Lib.hid hBw; clear hBw
        have hal : a0.block < wr.heap.size := hFr _ hF0
        have HFr := Lib.hid hFr; clear hFr
        have hHN := Lib.hid hN; clear hN
        have HBR := Lib.hid hBR; clear hBR
        obtain ⟨hDl, xs, hOx, hTx⟩ := hD
        have HDl := Lib.hid hDl; clear hDl
        have HOx := Lib.hid hOx; clear hOx
        have HTx := Lib.hid hTx; clear hTx
        have HRlen := Lib.hid hRlen; clear hRlen
        clear hR256 hF0
        go_wp2_with fail
        with_reducible refine HH.out.mono ?_
        rintro e w1 ⟨hE, rfl⟩
        cases hh : headV lv l (t :: r) with
        | inl z =>
          rw [hh] at hE
          simp only [HeadR] at hE
          subst hE
          obtain ⟨he1, hz⟩ := head_err hh
          have hz0 : ((z : Int) == 0) = false := by simp; omega
          have hz1 : ((z : Int) != 0) = true := by simp; omega
          have He1 : Hid (decd lv 0 bs = .err z) := by rw [Hid, ← HR.out, he1]; rfl
          clear he1 hh
          go_wp2_with fail
          go_ret2
          refine ⟨?_, hHN.out⟩
          rw [He1.out]; rfl
        | inr cn =>
          rw [hh] at hE
          obtain ⟨A2, c2, rfl, hBc, hcc, hccm⟩ := hE
          obtain ⟨m, x, rfl, hcn, hcl, hmx, hlv0, hlt, he⟩ := head_ok hh
          clear hh
          have hgk : gk = x.length + 2 := by have := HRlen.out; simp only [List.length_cons] at this; omega
          have Hgk := Lib.hid hgk; clear hgk
          rw [hcl] at hBc hcc ⊢
          have hx2 : m + 2 ≤ gk := by rw [Hgk.out]; omega
          have HBc := Lib.hid hBc; clear hBc
          have Hcn := Lib.hid hcn; clear hcn
          have Hcl := Lib.hid hcl; clear hcl
          have Hmx := Lib.hid hmx; clear hmx
          have Hx1 : Hid (x.length < N) := by simp only [List.length_cons] at hRl; rw [Hid]; omega
          clear hRl
          have HT : Hid (∀ c', Byts w F (.slice (some (a0.add (2 + m))) (gk - (2 + m)) c') (x.drop m)) := fun c' => by
            have h := HBR.out.cut (2 + m) (gk - (2 + m)) c' (by omega)
            rw [tail_cut t m gk x Hgk.out Hmx.out] at h
            exact h
          rcases Nat.lt_or_ge 127 t with h7 | h7
          · have hd7 : decide ((t : Int) ≤ 127) = false := by simp only [decide_eq_false_iff_not]; omega
            have hlv1 : ((lv - 1 : Nat) : Int) = (lv : Int) - 1 := by omega
            have HC : Hid (∀ w0, New w1 w0 → Calls Try.prog 79 #[.slice A2 m c2, .int .i64 ((lv : Int) - 1)] w0 fun e w' => AnsR w0 (decd (lv - 1) 0 cn) e w' ∧ New w0 w') := fun w0 hw0 => by
              have h := IH.out cn (by have := Hx1.out; have := Hmx.out; have := Hcl.out; omega) m A2 c2 (lv - 1) w0 F (HBc.out.new hw0 HFr.out) hcc hccm (by omega) (fun k hk => Nat.lt_of_lt_of_le (HFr.out k hk) hw0.size)
              rw [hlv1] at h
              exact h
            clear hlv1
            go_wp2_with fail
            with_reducible refine (primitive_any t _).mono ?_
            rintro e w2 ⟨rfl, rfl⟩
            rw [hd7]
            clear hd7
            go_wp2_with fail
            with_reducible refine (HC.out _ ((Chg.refl _ _).alloc _)).mono ?_
            rintro e w3 ⟨hE, hN7⟩
            have hg := (Has.new w1 95 #[.int .i64 (t : Int), .slice none 0 0, .slice none 0 0]).keep hN7
            have hg0 := hg.cell 0
            have hg1 := hg.cell 1
            have hg2 := hg.cell 2
            have hgf0 := hg.free 0
            have hgf1 := hg.free 1
            have hgf2 := hg.free 2
            have hglt := hg.lt
            simp at hg0 hg1 hg2
            have HG := Lib.hid hg; clear hg
            have HM7 := Lib.hid hN7; clear hN7
            cases hs : decd (lv - 1) 0 cn with
            | err z =>
              rw [hs] at hE
              simp only [AnsR] at hE
              subst hE
              have hz := err_zero (lv - 1) _ 0 cn (Nat.le_refl _) z hs
              have hz0 : ((z : Int) == 0) = false := by simp; omega
              have hz1 : ((z : Int) != 0) = true := by simp; omega
              have He1 : Hid (decd lv 0 bs = .err z) := by rw [Hid, ← HR.out, he, if_neg (by omega), hs]; rfl
              have HS : Hid (New w1 (w3.setCell ⟨w1.heap.size, 2, none⟩ (.slice none 0 0))) := Chg.setCell (((Chg.refl _ _).alloc _).then_new HM7.out) (fun h => absurd h (Nat.lt_irrefl _)) _
              clear he hs
              go_wp2_with fail
              go_ret2
              refine ⟨?_, hHN.out.then_new HS.out⟩
              rw [He1.out]; rfl
            | ok s =>
              rw [hs] at hE
              obtain ⟨A7, c7, rfl, hO7, hsl⟩ := hE
              have He : Hid (decd lv 0 bs = (decd lv t (x.drop m)).map (fun T => (D.app (.cons t [] s .nil)).app T)) := by
                rw [Hid, ← HR.out, he, if_neg (by omega), hs]
                exact map_app _ _ _ _ _
              clear he hs
              obtain ⟨p, hp⟩ : ∃ p, p = s.len := ⟨_, rfl⟩
              rw [← hp] at hsl hO7 ⊢
              have Hp := Lib.hid hp; clear hp
              have HO7 := Lib.hid hO7; clear hO7
              have HS : Hid (New w1 (w3.setCell ⟨w1.heap.size, 2, none⟩ (.slice A7 p c7))) := Chg.setCell (((Chg.refl _ _).alloc _).then_new HM7.out) (fun h => absurd h (Nat.lt_irrefl _)) _
              go_wp2_with (first | (at_builtin; refine wpList_push rfl (wX := w) (Nat.le_trans hHN.out.size (HS.out.alloc _).size) _ _ rfl (.slice A6 m6 c6) m6 xs rfl (own_new HOx.out (HS.out.alloc _)) w3.heap.size _ _ _ rfl (Has.new_at _ _ _ _ (by simp [World.setCell])) rfl rfl rfl (by omega) ?_; intro A8 c8 w8 hO8 hC8 hf8; have hg8 := (push_keep ((HG.out.set 2 (.slice A7 p c7)).alloc _) hC8 (fun k hk => (HOx.out.lt k hk).2)).cell 0; simp at hg8; have HO8 := Lib.hid hO8; have HC8 := Lib.hid hC8; have Hf8 := Lib.hid hf8; clear hO8 hC8 hf8) | fail)
              all_goals
                have HD8 : Hid (Done w w8 (.slice A8 (m6 + 1) c8) (m6 + 1) (D.app (.cons t [] s .nil))) := by
                  refine Done.push HDl.out HOx.out HTx.out hHN.out.size (HS.out.alloc _) (vb := .slice none 0 0) (vs := .slice A7 p c7) (row_none _ _ _ _) (by simp) (by simp) (by rw [← Hp.out]; omega) (by omega) (own_set HO7.out) HO8.out HC8.out Hf8.out
                have HW8 : Hid (New w w8) := (hHN.out.then_new (HS.out.alloc _)).trans HC8.out (fun i hi hk => by have := (HOx.out.lt i hk).1; omega)
                go_roundg (gk - (2 + m))
                case measure => omega
                case rel =>
                  refine ⟨x.drop m, D.app (.cons t [] s .nil), t, _, gk - (2 + m), _, A8, m6 + 1, c8, rfl, rfl, rfl, rfl, ?_, by omega, by omega, by omega, by omega, by have := Hx1.out; simp; omega, He.out.symm, HD8.out, HW8.out⟩
                  first | exact HT.out _ | exact tail_none (by omega) (by have := Hgk.out; omega)
          · have hd7 : decide ((t : Int) ≤ 127) = true := by simp only [decide_eq_true_eq]; omega
            have He : Hid (decd lv 0 bs = (decd lv t (x.drop m)).map (fun T => (D.app (.cons t cn .nil .nil)).app T)) := by
              rw [Hid, ← HR.out, he, if_pos h7, map_app]
            clear he
            go_wp2_with fail
            with_reducible refine (primitive_any t _).mono ?_
            rintro e w2 ⟨rfl, rfl⟩
            rw [hd7]
            clear hd7
            go_wp2_with fail
            with_reducible refine (tcopied_any cn m c2 A2 _ F (HBc.out.new ((Chg.refl _ _).alloc _) HFr.out) (fun k hk => Nat.lt_of_lt_of_le (HFr.out k hk) (by simp))).mono ?_
            rintro e w3 ⟨A7, c7, rfl, hO7, hN7⟩
            have hg := (Has.new w1 95 #[.int .i64 (t : Int), .slice none 0 0, .slice none 0 0]).keep hN7
            have hg0 := hg.cell 0
            have hg1 := hg.cell 1
            have hg2 := hg.cell 2
            have hgf0 := hg.free 0
            have hgf1 := hg.free 1
            have hgf2 := hg.free 2
            have hglt := hg.lt
            simp at hg0 hg1 hg2
            have HG := Lib.hid hg; clear hg
            have HO7 := Lib.hid hO7; clear hO7
            have HM7 := Lib.hid hN7; clear hN7
            have HS : Hid (New w1 (w3.setCell ⟨w1.heap.size, 1, none⟩ (.slice A7 m c7))) := Chg.setCell (((Chg.refl _ _).alloc _).then_new HM7.out) (fun h => absurd h (Nat.lt_irrefl _)) _
            go_wp2_with (first | (at_builtin; refine wpList_push rfl (wX := w) (Nat.le_trans hHN.out.size (HS.out.alloc _).size) _ _ rfl (.slice A6 m6 c6) m6 xs rfl (own_new HOx.out (HS.out.alloc _)) w3.heap.size _ _ _ rfl (Has.new_at _ _ _ _ (by simp [World.setCell])) rfl rfl rfl (by omega) ?_; intro A8 c8 w8 hO8 hC8 hf8; have hg8 := (push_keep ((HG.out.set 1 (.slice A7 m c7)).alloc _) hC8 (fun k hk => (HOx.out.lt k hk).2)).cell 0; simp at hg8; have HO8 := Lib.hid hO8; have HC8 := Lib.hid hC8; have Hf8 := Lib.hid hf8; clear hO8 hC8 hf8) | fail)
            all_goals
              have HD8 : Hid (Done w w8 (.slice A8 (m6 + 1) c8) (m6 + 1) (D.app (.cons t cn .nil .nil))) := by
                refine Done.push HDl.out HOx.out HTx.out hHN.out.size (HS.out.alloc _) (vb := .slice A7 m c7) (vs := .slice none 0 0) ?_ HBc.out.len.2.2 (by rw [Hcl.out]; omega) (by simp [Tr.len]) (by omega) (own_none _ _) HO8.out HC8.out Hf8.out
                rw [Hcl.out]; exact row_set HO7.out
              have HW8 : Hid (New w w8) := (hHN.out.then_new (HS.out.alloc _)).trans HC8.out (fun i hi hk => by have := (HOx.out.lt i hk).1; omega)
              go_roundg (gk - (2 + m))
              case measure => omega
              case rel =>
                refine ⟨x.drop m, D.app (.cons t cn .nil .nil), t, _, gk - (2 + m), _, A8, m6 + 1, c8, rfl, rfl, rfl, rfl, ?_, by omega, by omega, by omega, by omega, by have := Hx1.out; simp; omega, He.out.symm, HD8.out, HW8.out⟩
                first | exact HT.out _ | exact tail_none (by omega) (by have := Hgk.out; omega)
end Go.Proofs.Ytkcokcanakljnaa
