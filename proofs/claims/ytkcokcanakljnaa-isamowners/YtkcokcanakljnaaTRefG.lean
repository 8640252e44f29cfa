import Derived.Test.YtkcokcanakljnaaCuts
import Derived.Test.YtkcokcanakljnaaJoins
namespace Go.Proofs.Ytkcokcanakljnaa
open Go.RowKit
/-- the last tag of what is done, as the row's cell tells it -/
theorem Done.last {w wr : World} {A : Option Addr} {k c : Nat} {D : Tr} (h : Done w wr (.slice A k c) k D) (hk : 0 < k) : ∃ g, A = some ⟨g, 0, none⟩ ∧ wr.cell? ⟨g, (k - 1) * 3, none⟩ = some (.int .i64 (lastT 0 D)) ∧ g < wr.heap.size := by
  obtain ⟨hl, xs, hO, hT⟩ := h
  obtain ⟨T0, t, bs, s, rfl⟩ := Tr.last D (by rw [hl]; exact hk)
  rcases hO.2 with ⟨hv, h0⟩ | ⟨g, cap, cur, hv, _⟩
  · omega
  · simp only [Value.slice.injEq] at hv
    obtain ⟨rfl, _, rfl⟩ := hv
    have hL := OwnT.lay (i := 0) (pre := []) (F := fun _ => True) (OwnT.mono (fun _ _ => trivial) hT) (own_less0 hO) rfl (fun _ _ => trivial)
    have hb := hL.behind
    have hT0 : T0.len = k - 1 := by rw [Tr.len_app] at hl; simp only [Tr.len] at hl; omega
    rw [hT0, Nat.zero_add] at hb
    obtain ⟨⟨_, _, _, ⟨a, ha, _, hc, _⟩, _⟩, _⟩ := hb
    simp only [Option.some.injEq] at ha
    subst ha
    have hadd : (⟨g, 0, none⟩ : Addr).add ((k - 1) * 3) = ⟨g, (k - 1) * 3, none⟩ := by unfold Addr.add; split <;> simp_all
    rw [hadd] at hc
    exact ⟨g, rfl, by rw [lastT_app]; exact hc, own_below hO g rfl⟩
theorem drop_two {bs x : List Nat} {i t m : Nat} (h : bs.drop i = t :: m :: x) : bs[i]? = some t ∧ bs[i + 1]? = some m ∧ (bs.drop (i + 2)) = x ∧ bs.length = i + 2 + x.length := by
  refine ⟨?_, ?_, ?_, ?_⟩
  · have := List.getElem?_drop (xs := bs) (i := i) (j := 0); rw [h] at this; simpa using this.symm
  · have := List.getElem?_drop (xs := bs) (i := i) (j := 1); rw [h] at this; simpa using this.symm
  · have := congrArg (List.drop 2) h; rw [List.drop_drop] at this; simpa using this
  · have := congrArg List.length h; simp at this; omega
theorem own_set2 {wr w2 w3 : World} {g : Nat} {o2 : Obj} {v u : Value} {T : Tr} {i : Nat} (h : OwnE w3 (Btw w2 w3) v T) (hlt : g < w2.heap.size) (hs : wr.heap.size ≤ w2.heap.size) : OwnE ((w3.setCell ⟨g, i, none⟩ u).alloc o2) (Btw wr ((w3.setCell ⟨g, i, none⟩ u).alloc o2)) v T := by
  have hC : Chg (· = g) w3 ((w3.setCell ⟨g, i, none⟩ u).alloc o2) := Chg.alloc (Chg.setCell (S := (· = g)) (p := ⟨g, i, none⟩) (Chg.refl _ _) (fun _ => rfl) _) _
  exact (h.chg hC (fun k ⟨h1, _⟩ he => by omega)).mono fun k ⟨h1, h2⟩ => ⟨by omega, Nat.lt_of_lt_of_le h2 hC.size⟩
theorem row_set2 {wr w2 w3 : World} {g : Nat} {o2 : Obj} {v u : Value} {n i : Nat} {xs : List Value} (h : w3.ownsRow w2.heap.size 5 1 v n xs) (hlt : g < w2.heap.size) (hs : wr.heap.size ≤ w2.heap.size) : OwnR ((w3.setCell ⟨g, i, none⟩ u).alloc o2) (Btw wr ((w3.setCell ⟨g, i, none⟩ u).alloc o2)) 5 1 v n xs := by
  have hC : Chg (· = g) w3 ((w3.setCell ⟨g, i, none⟩ u).alloc o2) := Chg.alloc (Chg.setCell (S := (· = g)) (p := ⟨g, i, none⟩) (Chg.refl _ _) (fun _ => rfl) _) _
  exact ⟨own_chg (own_less0 h) hC (fun k hk he => by have := (h.lt k hk).1; omega), fun k hk => ⟨by have := (h.lt k hk).1; omega, Nat.lt_of_lt_of_le (h.lt k hk).2 hC.size⟩⟩
theorem wpList_appNil {wX : World} {ops : Array Oper} {rest : List Oper} {o : Oper} {a : Act} {Q : Exit → Act → World → Prop} (hgd : o.guard = none) (s x : Operand)
    (ho : o.op = .call { callee := .builtin .append, args := #[s, x], argTypes := #[27, 27] }) (hs : a.eval s = .slice none 0 0)
    (A : Option Addr) (m c : Nat) (ys : List Nat) (F : Nat → Prop) (hx : a.eval x = .slice A m c) (hB : Byts wX F (.slice A m c) ys)
    (h : ∀ A' c' w', w'.ownsRow wX.heap.size 5 1 (.slice A' m c') m (ys.map bV) → New wX w' → wpList Try.prog ops Q rest (a.put o.dst (.slice A' m c')) w') : wpList Try.prog ops Q (o :: rest) a wX := by
  obtain ⟨A', c', he, hA, hnil, h256, hb⟩ := hB
  simp only [Value.slice.injEq] at he
  obtain ⟨rfl, rfl, rfl⟩ := he
  refine wpList_app hgd (Chg.refl _ _) s x ho (.slice none 0 0) 0 [] hs (World.ownsRow_nil _ _ _ _) A _ c ys F hx hA rfl hnil (by omega) ?_
  intro A' c' w' h1 h2
  rw [Nat.zero_add] at h1 ⊢
  exact h A' c' w' h1 h2
set_option maxRecDepth 100000 in
set_option maxHeartbeats 8000000 in
theorem RGet_any : ∀ (N : Nat) (bs : List Nat), bs.length < N → ∀ (n : Nat) (A : Option Addr) (c inn : Nat) (w : World) (F : Nat → Prop), Byts w F (.slice A n c) bs → n ≤ c → c ≤ maxLen → inn ≤ 4 → (∀ k, F k → k < w.heap.size) →
    Calls Try.prog 50 #[.slice A n c, .int .i64 inn] w fun e w' => AnsR w (decd (4 - inn) 0 bs) e w' ∧ New w w' := by
  intro N
  induction N with
  | zero => intro bs hbs; omega
  | succ N ih =>
    intro bs hbs n A c inn w F hB hnc hcm hinn hF
    obtain ⟨hblen, hnb, hb256⟩ := hB.len
    have IH := Lib.hid ih; clear ih
    have HF := Lib.hid hF; clear hF
    have HB := Lib.hid hB; clear hB
    have Hbs := Lib.hid hbs; clear hbs
    have Hbl := Lib.hid hblen; clear hblen
    have Hb256 := Lib.hid hb256; clear hb256
    obtain ⟨lv, hlv⟩ : ∃ lv, lv = 4 - inn := ⟨_, rfl⟩
    have Hlv := Lib.hid hlv
    rw [← hlv]
    clear hlv
    go_enter Try.func50, Try.ntmps50
    go_wp2_with fail
    go_loopg [6, 7] n (fun gk es at_ wr => ∃ (i : Nat) (D : Tr) (l : Nat) (A6 : Option Addr) (m6 c6 : Nat), gk = n - i ∧ i ≤ n ∧ es = .slice A6 m6 c6 ∧ at_ = .int .i64 i ∧ l ≤ 255 ∧ m6 ≤ l ∧ (l : Int) = lastT 0 D ∧ (m6 = 0 → l = 0) ∧
      (decd lv l (bs.drop i)).map (fun T => D.app T) = decd lv 0 bs ∧ Done w wr (.slice A6 m6 c6) m6 D ∧ New w wr)
    case atStart => exact ⟨0, .nil, 0, none, 0, 0, by omega, by omega, rfl, rfl, by omega, by omega, rfl, fun _ => rfl, Ans.map_id _, Done.start w, Chg.refl _ _⟩
    case round =>
      obtain ⟨i, D, l, A6, m6, c6, rfl, hin, rfl, rfl, hl, hm6, hlD, hm0, hR, hD, hN⟩ := hrel
      have HR := Lib.hid hR; clear hR
      by_cases hlt : i < n
      case neg =>
        obtain rfl : i = n := by omega
        have HN := Lib.hid hN
        have HDl := Lib.hid hD.1
        have HD := Lib.hid hD.out
        clear hN hD hlD
        go_wp2_with fail
        go_ret2
        refine ⟨?_, HN.out⟩
        have h := HR.out
        rw [List.drop_eq_nil_of_le (by rw [Hbl.out]; exact Nat.le_refl _), decd_nil] at h
        rw [← h]
        simp only [Ans.map, Tr.app_nil]
        refine ⟨A6, c6, by rw [HDl.out]; rfl, ?_, by rw [HDl.out]; omega⟩
        rw [HDl.out]; exact HD.out
      case pos =>
        obtain ⟨t, r, htr⟩ : ∃ t r, bs.drop i = t :: r := by
          cases h : bs.drop i with
          | nil => have := congrArg List.length h; simp [Hbl.out] at this; omega
          | cons t r => exact ⟨t, r, rfl⟩
        have hti : bs[i]? = some t := by have := List.getElem?_drop (xs := bs) (i := i) (j := 0); rw [htr] at this; simpa using this.symm
        have hFr : ∀ k, F k → k < wr.heap.size := fun k hk => Nat.lt_of_lt_of_le (HF.out k hk) hN.size
        have hBw := HB.out.new hN HF.out
        obtain ⟨a0, rfl, hF0, hcell0, ht256⟩ := hBw.at hti
        have hal : a0.block < wr.heap.size := hFr _ hF0
        have halp : (a0.add i).block < wr.heap.size := by rw [add_block]; exact hal
        have HBw := Lib.hid hBw; clear hBw
        have HFr := Lib.hid hFr; clear hFr
        have Hrl : Hid (r.length + 1 = n - i) := by have := congrArg List.length htr; simp only [List.length_drop, List.length_cons, Hbl.out] at this; rw [Hid]; omega
        have hHN := Lib.hid hN; clear hN
        have HlD := Lib.hid hlD; clear hlD
        have Hti := Lib.hid hti; clear hti
        have Htr := Lib.hid htr; clear htr
        have HR' : Hid ((decd lv l (t :: r)).map (fun T => D.app T) = decd lv 0 bs) := by rw [Hid, ← Htr.out]; exact HR.out
        clear HR hF0
        have Hlast : Hid (0 < m6 → ∃ g, A6 = some ⟨g, 0, none⟩ ∧ wr.cell? ⟨g, (m6 - 1) * 3, none⟩ = some (.int .i64 (l : Int)) ∧ g < wr.heap.size) := fun h => by rw [HlD.out]; exact hD.last h
        obtain ⟨hDl, xs, hOx, hTx⟩ := hD
        have HDl := Lib.hid hDl; clear hDl
        have HOx := Lib.hid hOx; clear hOx
        have HTx := Lib.hid hTx; clear hTx
        rcases Nat.lt_or_ge 3 inn with h4 | h4
        · have He1 : Hid (decd lv 0 bs = .err 15) := by
            rw [Hid, ← HR'.out, (head_err (z := 15) (by simp only [headV, if_pos (show lv = 0 by rw [Hlv.out]; omega)])).1]; rfl
          go_wp2_with fail
          go_ret2
          refine ⟨?_, by with_reducible repeat (first | exact hHN.out | refine Chg.alloc ?_ _ | refine Chg.drew ?_)⟩
          rw [He1.out]; rfl
        have Hlv0 : Hid (¬ lv = 0) := by have := Hlv.out; rw [Hid]; omega
        rcases Nat.lt_or_ge l t with h5 | h5
        case inr =>
          have He1 : Hid (decd lv 0 bs = .err 12) := by
            rw [Hid, ← HR'.out, (head_err (z := 12) (by simp only [headV, if_neg Hlv0.out, if_pos h5])).1]; rfl
          rcases Nat.eq_zero_or_pos t with ht0 | ht0
          · subst ht0
            go_upto_region 8 with (fail)
            go_quiet (fail)
            go_wp2_with fail
            go_ret2
            refine ⟨?_, by with_reducible repeat (first | exact hHN.out | refine Chg.alloc ?_ _ | refine Chg.drew ?_ | refine Chg.drewN ?_ _)⟩
            rw [He1.out]; rfl
          · have hm6p : 0 < m6 := by
              rcases Nat.eq_zero_or_pos m6 with h | h
              · have := hm0 h; omega
              · exact h
            obtain ⟨g6, rfl, hc6, hg6⟩ := Hlast.out hm6p
            have ht0' : ((t : Int) == 0) = false := by simp; omega
            go_upto_region 8 with (fail)
            go_quiet (fail)
            go_wp2_with fail
            go_ret2
            refine ⟨?_, by with_reducible repeat (first | exact hHN.out | refine Chg.alloc ?_ _ | refine Chg.drew ?_ | refine Chg.drewN ?_ _)⟩
            rw [He1.out]; rfl
        case inl =>
          have ht0' : ((t : Int) == 0) = false := by simp; omega
          rcases Nat.eq_zero_or_pos m6 with hmz | hmz
          case' inl =>
            subst hmz
            go_upto_region 8 with (fail)
            go_quiet (fail)
          case' inr =>
            obtain ⟨g6, rfl, hc6, hg6⟩ := Hlast.out hmz
            go_upto_region 8 with (fail)
            go_quiet (fail)
          all_goals
            have hNX : New wr ((wr.alloc (.cells #[.int .i64 (t : Int), .slice none 0 0, .slice none 0 0] 95)).drewN nq) := ((Chg.refl _ _).alloc _).drewN nq
            have hgX : Has ((wr.alloc (.cells #[.int .i64 (t : Int), .slice none 0 0, .slice none 0 0] 95)).drewN nq) wr.heap.size 95 #[.int .i64 (t : Int), .slice none 0 0, .slice none 0 0] := (Has.new wr 95 _).drewN nq
            obtain ⟨w2, hw2⟩ : ∃ w2, w2 = (wr.alloc (.cells #[.int .i64 (t : Int), .slice none 0 0, .slice none 0 0] 95)).drewN nq := ⟨_, rfl⟩
            rw [← hw2] at hNX hgX ⊢
            clear hw2
            have hg0 := hgX.cell 0
            have hg1 := hgX.cell 1
            have hg2 := hgX.cell 2
            have hgf1 := hgX.free 1
            have hgf2 := hgX.free 2
            have hglt := hgX.lt
            simp at hg0 hg1 hg2
            have HgX := Lib.hid hgX; clear hgX
            have HNX := Lib.hid hNX; clear hNX
            cases r with
            | nil =>
              have hni : n = i + 1 := by have := Hrl.out; simp only [List.length_nil] at this; omega
              have He1 : Hid (decd lv 0 bs = .err 10) := by
                rw [Hid, ← HR'.out, (head_err (z := 10) (by simp only [headV, if_neg Hlv0.out, if_neg (show ¬ t ≤ l by omega)])).1]; rfl
              subst hni
              go_wp2_with fail
              go_ret2
              refine ⟨?_, hHN.out.then_new HNX.out⟩
              rw [He1.out]; rfl
            | cons m x =>
              have hmi : bs[i + 1]? = some m := by have := List.getElem?_drop (xs := bs) (i := i) (j := 1); rw [Htr.out] at this; simpa using this.symm
              obtain ⟨a1, ha1, _, hcell1, hm256⟩ := (HBw.out.new HNX.out HFr.out).at hmi
              simp only [Option.some.injEq] at ha1
              subst ha1
              have hxl : n = i + 2 + x.length := by have := Hrl.out; simp only [List.length_cons] at this; omega
              obtain ⟨xl, hxle⟩ : ∃ xl, xl = x.length := ⟨_, rfl⟩
              rw [← hxle] at hxl
              have Hxle := Lib.hid hxle
              have hcell1' : w2.cell? ⟨a0.block, a0.off + (i + 1), none⟩ = some (.int .u8 (m : Int)) := by rw [← (add_far a0 (i + 1)).resolve_right (by omega)]; exact hcell1
              clear hmi hxle hcell1
              rcases Nat.lt_or_ge xl m with h6 | h6
              · have He1 : Hid (decd lv 0 bs = .err 10) := by
                  rw [Hid, ← HR'.out, (head_err (z := 10) (by simp only [headV, if_neg Hlv0.out, if_neg (show ¬ t ≤ l by omega), if_pos (show x.length < m by rw [← Hxle.out]; exact h6)])).1]; rfl
                subst hxl
                go_wp2_with fail
                go_ret2
                refine ⟨?_, hHN.out.then_new HNX.out⟩
                rw [He1.out]; rfl
              · have hn1 : i + 2 + m ≤ n := by omega
                have Hxl := Lib.hid hxl; clear hxl
                obtain ⟨cn, hcn⟩ : ∃ cn, cn = x.take m := ⟨_, rfl⟩
                have hhd : headV lv l (t :: m :: x) = .inr cn := by
                  rw [hcn]
                  simp only [headV, if_neg Hlv0.out, if_neg (show ¬ t ≤ l by omega), if_neg (show ¬ x.length < m by rw [← Hxle.out]; omega)]
                obtain ⟨m', x', hmx, _, hcl, _, _, _, he⟩ := head_ok hhd
                simp only [List.cons.injEq] at hmx
                obtain ⟨rfl, rfl⟩ := hmx
                clear hhd
                have Hcl := Lib.hid hcl; clear hcl
                have Hdr : Hid (bs.drop (i + 2 + m) = x.drop m) := by
                  rw [Hid, show i + 2 + m = i + (2 + m) by omega, ← List.drop_drop, Htr.out, Nat.add_comm 2 m]; rfl
                have Hcn := Lib.hid hcn; clear hcn
                have HBc : Hid (Byts w2 F (.slice (if c = i + 2 then some a0 else some (a0.add (i + 2))) m (c - (i + 2))) cn) := by
                  by_cases hc : c = i + 2
                  · obtain rfl : m = 0 := by omega
                    rw [if_pos hc, Hcn.out]; exact Byts.none _ _
                  · rw [if_neg hc, Hcn.out]
                    have h := (HBw.out.new HNX.out HFr.out).cut (i + 2) m (c - (i + 2)) hn1
                    rw [show bs.drop (i + 2) = x by rw [← List.drop_drop, Htr.out]; rfl] at h
                    exact h
                have hcl2 : m ≤ c - (i + 2) := by omega
                have hcm2 : c - (i + 2) ≤ maxLen := by omega
                have HF2 : Hid (∀ k, F k → k < w2.heap.size) := fun k hk => Nat.lt_of_lt_of_le (HFr.out k hk) HNX.out.size
                rcases Nat.lt_or_ge 127 t with h7 | h7
                · have hinn1 : 4 - (inn + 1) = lv - 1 := by rw [Hlv.out]; omega
                  have HC : Hid (∀ A9, Byts w2 F (.slice A9 m (c - (i + 2))) cn → Calls Try.prog 50 #[.slice A9 m (c - (i + 2)), .int .i64 ((inn : Int) + 1)] w2 fun e w' => AnsR w2 (decd (lv - 1) 0 cn) e w' ∧ New w2 w') := fun A9 hB9 => by
                    have h := IH.out cn (by rw [Hcl.out]; have := Hbs.out; have := Hbl.out; omega) m A9 (c - (i + 2)) (inn + 1) w2 F hB9 hcl2 hcm2 (by omega) HF2.out
                    rw [hinn1] at h
                    exact h
                  clear hinn1
                  go_upto_region 15 with (fail)
                  rw [show i + 2 + m - (i + 2) = m by omega]
                  obtain ⟨A9, hA9⟩ : ∃ A9, A9 = (if c = i + 2 then some a0 else some (a0.add (i + 2))) := ⟨_, rfl⟩
                  rw [← hA9] at HBc ⊢
                  clear hA9
                  go_wp2_with fail
                  with_reducible refine (HC.out A9 HBc.out).mono ?_
                  rintro e w3 ⟨hE, hN3⟩
                  have hg3 := HgX.out.keep hN3
                  have hh0 := hg3.cell 0
                  have hh1 := hg3.cell 1
                  have hh2 := hg3.cell 2
                  have hhf2 := hg3.free 2
                  have hhlt := hg3.lt
                  simp at hh0 hh1 hh2
                  clear hg3
                  have HM3 := Lib.hid hN3; clear hN3
                  cases hsd : decd (lv - 1) 0 cn with
                  | err z =>
                    rw [hsd] at hE
                    simp only [AnsR] at hE
                    subst hE
                    have hzz := err_zero (lv - 1) _ 0 cn (Nat.le_refl _) z hsd
                    have hz0 : ((z : Int) == 0) = false := by simp; omega
                    have hz1 : ((z : Int) != 0) = true := by simp; omega
                    have He1 : Hid (decd lv 0 bs = .err z) := by rw [Hid, ← HR'.out, he, if_neg (by omega), hsd]; rfl
                    clear he hsd
                    go_wp2_with fail
                    go_ret2
                    refine ⟨?_, (hHN.out.then_new HNX.out).then_new HM3.out⟩
                    rw [He1.out]; rfl
                  | ok s =>
                    rw [hsd] at hE
                    obtain ⟨A7, c7, rfl, hO7, hsl⟩ := hE
                    have He : Hid (decd lv 0 bs = (decd lv t (x.drop m)).map (fun T => (D.app (.cons t [] s .nil)).app T)) := by
                      rw [Hid, ← HR'.out, he, if_neg (by omega), hsd]
                      exact map_app _ _ _ _ _
                    clear he hsd
                    obtain ⟨p, hp⟩ : ∃ p, p = s.len := ⟨_, rfl⟩
                    rw [← hp] at hsl hO7 ⊢
                    have Hp := Lib.hid hp; clear hp
                    have HO7 := Lib.hid hO7; clear hO7
                    have HS : Hid (New wr (w3.setCell ⟨wr.heap.size, 2, none⟩ (.slice A7 p c7))) := Chg.setCell (HNX.out.then_new HM3.out) (fun h => absurd h (Nat.lt_irrefl _)) _
                    go_wp2_with (first | (at_builtin; refine wpList_push rfl (wX := w) (Nat.le_trans hHN.out.size (HS.out.alloc _).size) _ _ rfl _ _ xs rfl (own_new HOx.out (HS.out.alloc _)) w3.heap.size _ _ _ rfl (Has.new_at _ _ _ _ (by simp [World.setCell])) rfl rfl rfl (by omega) ?_; intro A8 c8 w8 hO8 hC8 hf8; have HO8 := Lib.hid hO8; have HC8 := Lib.hid hC8; have Hf8 := Lib.hid hf8; clear hO8 hC8 hf8) | fail)
                    have HD8 : Hid (Done w w8 (.slice A8 _ c8) _ (D.app (.cons t [] s .nil))) := Done.push HDl.out HOx.out HTx.out hHN.out.size (HS.out.alloc _) (vb := .slice none 0 0) (vs := .slice A7 p c7) (row_none _ _ _ _) (by simp) (by simp) (by rw [← Hp.out]; omega) (by omega) (own_set2 HO7.out hglt HNX.out.size) HO8.out HC8.out Hf8.out
                    have HW8 : Hid (New w w8) := (hHN.out.then_new (HS.out.alloc _)).trans HC8.out (fun i hi hk => by have := (HOx.out.lt i hk).1; omega)
                    go_roundg (n - (i + 2 + m))
                    case measure => omega
                    case rel =>
                      refine ⟨i + 2 + m, D.app (.cons t [] s .nil), t, A8, _, c8, rfl, by omega, rfl, by go_num, by omega, by omega, (lastT_app ..).symm, (fun h => by omega), ?_, HD8.out, HW8.out⟩
                      rw [Hdr.out]; exact He.out.symm
                · have He : Hid (decd lv 0 bs = (decd lv t (x.drop m)).map (fun T => (D.app (.cons t cn .nil .nil)).app T)) := by
                    rw [Hid, ← HR'.out, he, if_pos h7, map_app]
                  clear he
                  go_upto_region 14 with (fail)
                  rw [show i + 2 + m - (i + 2) = m by omega]
                  obtain ⟨A9, hA9⟩ : ∃ A9, A9 = (if c = i + 2 then some a0 else some (a0.add (i + 2))) := ⟨_, rfl⟩
                  rw [← hA9] at HBc ⊢
                  clear hA9
                  go_upto_region 19 with (first | (at_builtin; refine wpList_appNil rfl _ _ rfl rfl A9 m (c - (i + 2)) cn F rfl HBc.out ?_; intro A7 c7 w3 hO7 hN3; have hg3 := HgX.out.keep hN3; have hh0 := hg3.cell 0; have hh1 := hg3.cell 1; have hh2 := hg3.cell 2; have hhf1 := hg3.free 1; have hhlt := hg3.lt; simp at hh0 hh1 hh2; clear hg3; have HM3 := Lib.hid hN3; have HO7 := Lib.hid hO7; clear hN3 hO7) | fail)
                  have HS : Hid (New wr (w3.setCell ⟨wr.heap.size, 1, none⟩ (.slice A7 m c7))) := Chg.setCell (HNX.out.then_new HM3.out) (fun h => absurd h (Nat.lt_irrefl _)) _
                  go_wp2_with (first | (at_builtin; refine wpList_push rfl (wX := w) (Nat.le_trans hHN.out.size (HS.out.alloc _).size) _ _ rfl _ _ xs rfl (own_new HOx.out (HS.out.alloc _)) w3.heap.size _ _ _ rfl (Has.new_at _ _ _ _ (by simp [World.setCell])) rfl rfl rfl (by omega) ?_; intro A8 c8 w8 hO8 hC8 hf8; have HO8 := Lib.hid hO8; have HC8 := Lib.hid hC8; have Hf8 := Lib.hid hf8; clear hO8 hC8 hf8) | fail)
                  have HD8 : Hid (Done w w8 (.slice A8 _ c8) _ (D.app (.cons t cn .nil .nil))) := Done.push HDl.out HOx.out HTx.out hHN.out.size (HS.out.alloc _) (vb := .slice A7 m c7) (vs := .slice none 0 0) (by rw [Hcl.out]; exact row_set2 HO7.out hglt HNX.out.size) HBc.out.len.2.2 (by rw [Hcl.out]; omega) (by simp [Tr.len]) (by omega) (own_none _ _) HO8.out HC8.out Hf8.out
                  have HW8 : Hid (New w w8) := (hHN.out.then_new (HS.out.alloc _)).trans HC8.out (fun i hi hk => by have := (HOx.out.lt i hk).1; omega)
                  go_roundg (n - (i + 2 + m))
                  case measure => omega
                  case rel =>
                    refine ⟨i + 2 + m, D.app (.cons t cn .nil .nil), t, A8, _, c8, rfl, by omega, rfl, by go_num, by omega, by omega, (lastT_app ..).symm, (fun h => by omega), ?_, HD8.out, HW8.out⟩
                    rw [Hdr.out]; exact He.out.symm
end Go.Proofs.Ytkcokcanakljnaa
