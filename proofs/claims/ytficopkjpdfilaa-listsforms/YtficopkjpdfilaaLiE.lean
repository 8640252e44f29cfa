/-
  Package lists: what a delta makes of a list (changed).
-/
import Derived.Test.YtficopkjpdfilaaLiD
namespace Go.Proofs.Ytficopkjpdfilaa
open Go.RowKit
theorem nx_step {K add : List It} {k : Nat} {x : It} (h : add[k]? = some x) : ((addI K (add.take k)).contains x = true → addI K (add.take (k + 1)) = addI K (add.take k)) ∧ ((addI K (add.take k)).contains x = false → addI K (add.take (k + 1)) = addI K (add.take k) ++ [x]) := by
  rw [take_snoc h, addI_snoc]
  exact ⟨fun e => if_pos e, fun e => if_neg (by rw [e]; decide)⟩
theorem nx_all (K add : List It) : addI K (add.take add.length) = addI K add := by rw [List.take_length]
theorem nx_le (K add : List It) (k : Nat) : (addI K (add.take k)).length ≤ (addI K add).length := by
  have h := (addI_len (add.drop k) (addI K (add.take k))).1
  rwa [← addI_app, List.take_append_drop] at h
theorem nx_full {K add : List It} {k : Nat} {x : It} (h : add[k]? = some x) (hc : (addI K (add.take k)).contains x = false) (hl : (addI K (add.take k)).length = 64) : 64 < (addI K add).length := by
  have h1 := nx_le K add (k + 1)
  rw [(nx_step h).2 hc, List.length_append, hl] at h1
  simp only [List.length_cons, List.length_nil] at h1
  omega
theorem kp_step {L off : List It} {k : Nat} {x : It} (h : L[k]? = some x) : (off.contains x = true → keepI (L.take (k + 1)) off = keepI (L.take k) off) ∧ (off.contains x = false → keepI (L.take (k + 1)) off = keepI (L.take k) off ++ [x]) := by
  rw [take_snoc h, keepI_snoc]
  exact ⟨fun e => if_pos e, fun e => if_neg (by rw [e]; decide)⟩
theorem kp_len (L off : List It) (k : Nat) (h : L.length ≤ 64) : (keepI (L.take k) off).length ≤ 64 := by
  have := keepI_len (L.take k) off
  rw [List.length_take] at this
  omega
/-- how changed answers -/
def ChgdR (w : World) (N : List It) (e : Ending) (w' : World) : Prop :=
  (64 < N.length ∧ e = .returned (.tuple #[.slice none 0 0, .int .i64 20])) ∨ (N.length ≤ 64 ∧ ∃ v, e = .returned (.tuple #[v, .int .i64 0]) ∧ w'.ownsRow w.heap.size 44 5 v N.length (ics N))
theorem New.own {w w1 w2 : World} {e size n : Nat} {v : Value} {xs : List Value} (h : New w w1) (ho : w1.ownsRow w.heap.size e size v n xs) (c : Chg (fun k => v.ownBlock = some k) w1 w2) : New w w2 :=
  h.trans c fun i hi hk => by have := own_ge ho i hk; omega
set_option maxRecDepth 100000 in
set_option maxHeartbeats 8000000 in
theorem changed_any (L add off : List It) (A B D : Option Addr) (n m p cl ca co : Nat) (tv : Int) (F : Nat → Prop) (w : World) (hA : Its w F A L) (hB : Its w F B add) (hD : Its w F D off) (hF : ∀ k, F k → k < w.heap.size) (hn : L.length = n) (hm : add.length = m) (hp : off.length = p) (h64 : n ≤ 64) (hmb : m ≤ 3518437208880) (hpb : p ≤ 3518437208880) :
    Calls Try.prog 55 #[.slice A n cl, .agg #[.int .i64 tv, .slice B m ca, .slice D p co]] w fun e w' => ChgdR w (nextI L add off) e w' ∧ New w w' := by
  have HA := Lib.hid hA; clear hA
  have HB := Lib.hid hB; clear hB
  have HD := Lib.hid hD; clear hD
  have HF := Lib.hid hF; clear hF
  have Hn := Lib.hid hn; clear hn
  have Hm := Lib.hid hm; clear hm
  have Hp := Lib.hid hp; clear hp
  obtain ⟨K, hK⟩ : ∃ K, K = keepI L off := ⟨_, rfl⟩
  have hN0 : nextI L add off = addI K add := by rw [hK]; rfl
  rw [hN0]
  clear hN0
  have HK := Lib.hid hK; clear hK
  go_enter Try.func55, Try.ntmps55
  go_upto_block 0 with (fail)
  go_cut [6] (fun s6 wc => ∃ q, wc.ownsRow w.heap.size 44 5 s6 q (ics K) ∧ Has wc w.heap.size 37 #[.int .i64 tv, .slice B m ca, .slice D p co] ∧ New w wc)
  case first =>
    go_wp2_with fail
    go_loopg [13, 6] n (fun gk i s6 wr => ∃ k q : Nat, k ≤ n ∧ gk = n - k ∧ i = .int .i64 k ∧ wr.ownsRow w.heap.size 44 5 s6 q (ics (keepI (L.take k) off)) ∧ Has wr w.heap.size 37 #[.int .i64 tv, .slice B m ca, .slice D p co] ∧ New w wr)
    case atStart => exact ⟨0, 0, by omega, by omega, rfl, nil_own _ _, Has.new _ _ _, (Chg.refl _ _).alloc _⟩
    case round =>
      obtain ⟨k, q, hk, rfl, rfl, hO, hX, hN⟩ := hrel
      have HO := Lib.hid hO; clear hO
      have HX := Lib.hid hX; clear hX
      have HN := Lib.hid hN; clear hN
      by_cases hlt : k < n
      · obtain ⟨x, hx⟩ : ∃ x, L[k]? = some x := ⟨_, List.getElem?_eq_getElem (by rw [Hn.out]; exact hlt)⟩
        obtain ⟨a, rfl, hab, a0, a1, a2, a3, a4⟩ := (HA.out.new HN.out HF.out) k x hx
        have Hst := Lib.hid (kp_step (off := off) hx)
        have HC := Lib.hid (Contains_any off x D p co (wr.alloc (.cells x.C 44)) F Hp.out (by omega) (HD.out.new (HN.out.alloc _) HF.out) (fun k hk => Nat.lt_of_lt_of_le (HF.out k hk) (HN.out.alloc _).size))
        obtain ⟨b, hb⟩ : ∃ b, b = off.contains x := ⟨_, rfl⟩
        rw [← hb] at HC Hst
        clear hb hx hab
        obtain ⟨xc, xo, xi, xn, xa⟩ := x
        have hlx := HX.out.lt
        have c1 : wr.cell? ⟨w.heap.size, 1, none⟩ = some (.slice B m ca) := (HX.out.cell 1).trans rfl
        have c2 : wr.cell? ⟨w.heap.size, 2, none⟩ = some (.slice D p co) := (HX.out.cell 2).trans rfl
        go_wp2_with fail
        with_reducible refine HC.out.mono ?_
        rintro e w2 ⟨rfl, hN2⟩
        have hI := (Has.new wr 44 #[.int .i64 xc, .int .i64 xo, .int .i64 xi, .int .i64 xn, .int .i64 xa]).keep hN2
        have HX2 := Lib.hid ((HX.out.alloc (.cells #[.int .i64 xc, .int .i64 xo, .int .i64 xi, .int .i64 xn, .int .i64 xa] 44)).keep hN2)
        have HN2 := Lib.hid ((HN.out.alloc (.cells #[.int .i64 xc, .int .i64 xo, .int .i64 xi, .int .i64 xn, .int .i64 xa] 44)).then_new hN2)
        have HO2 := Lib.hid (own_new HO.out (((Chg.refl _ _).alloc _).then_new hN2))
        clear hN2 c1 c2
        cases b with
        | true =>
          go_wp2_with fail
          go_roundg (n - (k + 1))
          case measure => omega
          case rel => exact ⟨k + 1, q, by omega, rfl, by go_num, by rw [Hst.out.1 (by trivial)]; exact HO2.out, HX2.out, HN2.out⟩
        | false =>
          have hli := hI.lt
          have e0 : w2.cell? ⟨wr.heap.size, 0, none⟩ = some (.int .i64 xc) := (hI.cell 0).trans rfl
          have e1 : w2.cell? ⟨wr.heap.size, 1, none⟩ = some (.int .i64 xo) := (hI.cell 1).trans rfl
          have e2 : w2.cell? ⟨wr.heap.size, 2, none⟩ = some (.int .i64 xi) := (hI.cell 2).trans rfl
          have e3 : w2.cell? ⟨wr.heap.size, 3, none⟩ = some (.int .i64 xn) := (hI.cell 3).trans rfl
          have e4 : w2.cell? ⟨wr.heap.size, 4, none⟩ = some (.int .i64 xa) := (hI.cell 4).trans rfl
          clear hI
          have hq : q ≤ 3518437208882 := by have h1 := own_items HO2.out; have h2 := kp_len L off k (by rw [Hn.out]; exact h64); omega
          have hbs := HN2.out.size
          go_wp2_with (at_builtin; refine wpList_push_item rfl w.heap.size hbs (.tmp 22) (.tmp 24) rfl u6 q _ rfl HO2.out ⟨xc, xo, xi, xn, xa⟩ rfl hq ?_; intro A' c' w' hO hC hf; have HO3 := Lib.hid hO; clear hO; have HC3 := Lib.hid hC; clear hC; clear hf)
          go_roundg (n - (k + 1))
          case measure => omega
          case rel => exact ⟨k + 1, q + 1, by omega, rfl, by go_num, by rw [Hst.out.2 (by trivial)]; exact HO3.out, HX2.out.chg HC3.out (own_apart HO2.out HX2.out (by decide)), New.own HN2.out HO2.out HC3.out⟩
      · obtain rfl : k = n := by omega
        have HO2 : Hid (wr.ownsRow w.heap.size 44 5 u6 q (ics K)) := by
          have h := HO.out
          rw [show L.take k = L from by rw [← Hn.out, List.take_length], ← HK.out] at h
          exact h
        go_wp2_with fail
        go_meet
        exact ⟨q, HO2.out, HX.out, HN.out⟩
  case rest =>
    obtain ⟨q, hO, hX, hN⟩ := hcut
    have HO0 := Lib.hid hO; clear hO
    have HX0 := Lib.hid hX; clear hX
    have HN0 := Lib.hid hN; clear hN
    have hlx := HX0.out.lt
    have c1 : wc.cell? ⟨w.heap.size, 1, none⟩ = some (.slice B m ca) := (HX0.out.cell 1).trans rfl
    have hK64 : K.length ≤ 64 := by rw [HK.out]; have := keepI_len L off; have := Hn.out; omega
    have HK64 := Lib.hid hK64; clear hK64
    go_wp2_with fail
    go_loopg [30, 6] m (fun gk i s6 wr => ∃ k q : Nat, k ≤ m ∧ gk = m - k ∧ i = .int .i64 k ∧ wr.ownsRow w.heap.size 44 5 s6 q (ics (addI K (add.take k))) ∧ q ≤ 64 ∧ Has wr w.heap.size 37 #[.int .i64 tv, .slice B m ca, .slice D p co] ∧ New w wr)
    case atStart => exact ⟨0, q, by omega, by omega, rfl, HO0.out, by have := own_items HO0.out; have := HK64.out; omega, HX0.out, HN0.out⟩
    case round =>
      clear HO0 HX0 HN0 c1
      obtain ⟨k, q, hk, rfl, rfl, hO, hq, hX, hN⟩ := hrel
      have HO := Lib.hid hO; clear hO
      have HX := Lib.hid hX; clear hX
      have HN := Lib.hid hN; clear hN
      have Hql := Lib.hid (own_items HO.out)
      obtain ⟨A6, c6, hu6, hu7⟩ := own_form HO.out
      subst hu6
      clear hu7
      by_cases hlt : k < m
      · obtain ⟨x, hx⟩ : ∃ x, add[k]? = some x := ⟨_, List.getElem?_eq_getElem (by rw [Hm.out]; exact hlt)⟩
        obtain ⟨a, rfl, hab, a0, a1, a2, a3, a4⟩ := (HB.out.new HN.out HF.out) k x hx
        have Hst := Lib.hid (nx_step (K := K) hx)
        have Hfu := Lib.hid (fun h => nx_full (K := K) hx h)
        have HC := Lib.hid (Contains_any (addI K (add.take k)) x A6 q c6 (wr.alloc (.cells x.C 44)) _ (own_items HO.out) (by omega) ((Its.of_own HO.out).new ((Chg.refl _ _).alloc _) (own_lt HO.out)) (fun k hk => Nat.lt_of_lt_of_le (own_lt HO.out k hk) ((Chg.refl (fun _ => False) wr).alloc _).size))
        obtain ⟨b, hb⟩ : ∃ b, b = (addI K (add.take k)).contains x := ⟨_, rfl⟩
        rw [← hb] at HC Hst Hfu
        clear hb hx hab
        obtain ⟨xc, xo, xi, xn, xa⟩ := x
        have hlx := HX.out.lt
        go_wp2_with fail
        with_reducible refine HC.out.mono ?_
        rintro e w2 ⟨rfl, hN2⟩
        have hI := (Has.new wr 44 #[.int .i64 xc, .int .i64 xo, .int .i64 xi, .int .i64 xn, .int .i64 xa]).keep hN2
        have HX2 := Lib.hid ((HX.out.alloc (.cells #[.int .i64 xc, .int .i64 xo, .int .i64 xi, .int .i64 xn, .int .i64 xa] 44)).keep hN2)
        have HN2 := Lib.hid ((HN.out.alloc (.cells #[.int .i64 xc, .int .i64 xo, .int .i64 xi, .int .i64 xn, .int .i64 xa] 44)).then_new hN2)
        have HO2 := Lib.hid (own_new HO.out (((Chg.refl _ _).alloc _).then_new hN2))
        clear hN2
        cases b with
        | true =>
          go_wp2_with fail
          go_roundg (m - (k + 1))
          case measure => omega
          case rel => exact ⟨k + 1, q, by omega, rfl, by go_num, by rw [Hst.out.1 (by trivial)]; exact HO2.out, hq, HX2.out, HN2.out⟩
        | false =>
          have hli := hI.lt
          have e0 : w2.cell? ⟨wr.heap.size, 0, none⟩ = some (.int .i64 xc) := (hI.cell 0).trans rfl
          have e1 : w2.cell? ⟨wr.heap.size, 1, none⟩ = some (.int .i64 xo) := (hI.cell 1).trans rfl
          have e2 : w2.cell? ⟨wr.heap.size, 2, none⟩ = some (.int .i64 xi) := (hI.cell 2).trans rfl
          have e3 : w2.cell? ⟨wr.heap.size, 3, none⟩ = some (.int .i64 xn) := (hI.cell 3).trans rfl
          have e4 : w2.cell? ⟨wr.heap.size, 4, none⟩ = some (.int .i64 xa) := (hI.cell 4).trans rfl
          clear hI
          by_cases hq64 : q = 64
          · subst hq64
            have Hlong : Hid (64 < (addI K add).length) := Hfu.out (by trivial) Hql.out
            go_wp2_with fail
            go_ret2
            exact ⟨Or.inl ⟨Hlong.out, rfl⟩, HN2.out⟩
          · have hbs := HN2.out.size
            have t64 : ((q : Int) == 64) = false := by simp only [beq_eq_false_iff_ne, ne_eq]; omega
            go_wp2_with (at_builtin; refine wpList_push_item rfl w.heap.size hbs (.tmp 40) (.tmp 42) rfl (.slice A6 q c6) q _ rfl HO2.out ⟨xc, xo, xi, xn, xa⟩ rfl (by omega) ?_; intro A' c' w' hO hC hf; have HO3 := Lib.hid hO; clear hO; have HC3 := Lib.hid hC; clear hC; clear hf)
            go_roundg (m - (k + 1))
            case measure => omega
            case rel => exact ⟨k + 1, q + 1, by omega, rfl, by go_num, by rw [Hst.out.2 (by trivial)]; exact HO3.out, by omega, HX2.out.chg HC3.out (own_apart HO2.out HX2.out (by decide)), New.own HN2.out HO2.out HC3.out⟩
      · obtain rfl : k = m := by omega
        have Hql2 : Hid ((addI K add).length = q) := by
          have h := Hql.out
          rw [show add.take k = add from by rw [← Hm.out, List.take_length]] at h
          exact h
        have HO2 : Hid (wr.ownsRow w.heap.size 44 5 (.slice A6 q c6) (addI K add).length (ics (addI K add))) := by
          have h := HO.out
          rw [show add.take k = add from by rw [← Hm.out, List.take_length]] at h
          rw [Hql2.out]
          exact h
        go_wp2_with fail
        go_ret2
        exact ⟨Or.inr ⟨by rw [Hql2.out]; exact hq, _, rfl, HO2.out⟩, HN.out⟩
end Go.Proofs.Ytficopkjpdfilaa
