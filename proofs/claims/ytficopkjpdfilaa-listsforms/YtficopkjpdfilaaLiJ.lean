/-
  Package lists: both lists' Apply; the law's copied; the document's Has.
-/
import Derived.Test.YtficopkjpdfilaaLiI
namespace Go.Proofs.Ytficopkjpdfilaa
open Go.RowKit
theorem ApplyR.more {act : Bool} {base g : Nat} {t : TypeId} {ver : Int} {L : List It} {tv : Int} {add off : List It} {w w1 w' : World} {e : Ending} (h : ApplyR act base g t ver L tv add off w1 e w') (hN : New w w1) : ApplyR act base g t ver L tv add off w e w' :=
  ⟨h.1, h.2.1, hN.new_then h.2.2⟩
theorem ApplyR.parts {act : Bool} {base g : Nat} {t : TypeId} {ver : Int} {L : List It} {tv : Int} {add off : List It} {w w1 w' : World} {e : Ending} (h : ApplyR act base g t ver L tv add off w1 e w') (hN : New w w1) : e = .returned (.int .i64 (appE act ver L tv add off)) ∧ Lst w' base g t (appV act ver L tv add off) (appL act ver L tv add off) ∧ Chg (· = g) w w' := h.more hN
set_option maxRecDepth 100000 in
set_option maxHeartbeats 8000000 in
theorem HotApply_any (base g : Nat) (ver : Int) (L add off : List It) (B D : Option Addr) (m p ca co : Nat) (tv : Int) (F : Nat → Prop) (w : World) (hL : Lst w base g 30 ver L) (h64 : L.length ≤ 64) (hbs : base ≤ w.heap.size) (hv0 : 0 ≤ ver) (hv1 : ver ≤ 4611686018427387904)
    (hB : Its w F B add) (hD : Its w F D off) (hF : ∀ k, F k → k < w.heap.size) (hm : add.length = m) (hp : off.length = p) (hmb : m ≤ 3518437208880) (hpb : p ≤ 3518437208880) :
    Calls Try.prog 10 #[.pointer (some ⟨g, 0, none⟩), .agg #[.int .i64 tv, .slice B m ca, .slice D p co]] w fun e w' => ApplyR false base g 30 ver L tv add off w e w' := by
  have hN : New w ((w.alloc (.cells #[.int .i64 tv, .slice B m ca, .slice D p co] 37)).drew) := ((Chg.refl _ _).alloc _).drew
  have HC := Lib.hid (apply_any false base g 30 ver L add off B D m p ca co tv F _ (hL.new hN) h64 (by decide) (Nat.le_trans hbs hN.size) hv0 hv1 (hB.new hN hF) (hD.new hN hF) (fun k hk => Nat.lt_of_lt_of_le (hF k hk) hN.size) hm hp hmb hpb)
  change Hid (Calls Try.prog 26 #[.pointer (some ⟨g, 0, none⟩), .agg #[.int .i64 tv, .slice B m ca, .slice D p co], .func (.func 27) #[] #[]] _ _) at HC
  have HN := Lib.hid hN
  have hlg := hL.lt
  clear hN hL hB hD hF
  go_enter Try.func10, Try.ntmps10
  go_wp2_with fail
  go_region_with (go_at_call 26; with_reducible refine HC.out.mono ?_; rintro e w2 hR; obtain ⟨rfl, hR2⟩ := hR.parts HN.out; have HR := Lib.hid hR2; clear hR2 hR)
  all_goals
    go_wp2_with fail
    go_ret
    exact ⟨rfl, HR.out⟩
set_option maxRecDepth 100000 in
set_option maxHeartbeats 8000000 in
theorem ActApply_any (base g : Nat) (ver : Int) (L add off : List It) (B D : Option Addr) (m p ca co : Nat) (tv : Int) (F : Nat → Prop) (w : World) (hL : Lst w base g 32 ver L) (h64 : L.length ≤ 64) (hbs : base ≤ w.heap.size) (hv0 : 0 ≤ ver) (hv1 : ver ≤ 4611686018427387904)
    (hB : Its w F B add) (hD : Its w F D off) (hF : ∀ k, F k → k < w.heap.size) (hm : add.length = m) (hp : off.length = p) (hmb : m ≤ 3518437208880) (hpb : p ≤ 3518437208880) :
    Calls Try.prog 11 #[.pointer (some ⟨g, 0, none⟩), .agg #[.int .i64 tv, .slice B m ca, .slice D p co]] w fun e w' => ApplyR true base g 32 ver L tv add off w e w' := by
  have hN : New w ((w.alloc (.cells #[.int .i64 tv, .slice B m ca, .slice D p co] 37)).drew) := ((Chg.refl _ _).alloc _).drew
  have HC := Lib.hid (apply_any true base g 32 ver L add off B D m p ca co tv F _ (hL.new hN) h64 (by decide) (Nat.le_trans hbs hN.size) hv0 hv1 (hB.new hN hF) (hD.new hN hF) (fun k hk => Nat.lt_of_lt_of_le (hF k hk) hN.size) hm hp hmb hpb)
  change Hid (Calls Try.prog 26 #[.pointer (some ⟨g, 0, none⟩), .agg #[.int .i64 tv, .slice B m ca, .slice D p co], .func (.func 29) #[] #[]] _ _) at HC
  have HN := Lib.hid hN
  have hlg := hL.lt
  clear hN hL hB hD hF
  go_enter Try.func11, Try.ntmps11
  go_wp2_with fail
  go_region_with (go_at_call 26; with_reducible refine HC.out.mono ?_; rintro e w2 hR; obtain ⟨rfl, hR2⟩ := hR.parts HN.out; have HR := Lib.hid hR2; clear hR2 hR)
  all_goals
    go_wp2_with fail
    go_ret
    exact ⟨rfl, HR.out⟩
set_option maxRecDepth 100000 in
set_option maxHeartbeats 8000000 in
/-- the document's Has: the items are right ones -/
theorem docHas_any (g : Nat) (ver : Int) (L : List It) (base : Nat) (card owner id : Int) (w : World) (h : Lst w base g 35 ver L) (hb : L.length ≤ 64) (hr : L.all (rightI false) = true) :
    Calls Try.prog 17 #[.pointer (some ⟨g, 0, none⟩), .int .i64 card, .int .i64 owner, .int .i64 id] w fun e w' => e = .returned (.bool (L.any fun x => hasB x card owner id)) ∧ New w w' := by
  obtain ⟨v, h1, h2⟩ := h.ex
  obtain ⟨A, cl, rfl, _⟩ := own_form h2
  clear h
  have HO := Lib.hid h2; clear h2
  have H1 := Lib.hid h1; clear h1
  have Hr := Lib.hid hr; clear hr
  obtain ⟨n, hn⟩ : ∃ n, n = L.length := ⟨_, rfl⟩
  have Hn := Lib.hid hn.symm
  have hn64 : n ≤ 64 := by omega
  clear hn hb
  obtain ⟨R, hR⟩ : ∃ R, R = L.any fun x => hasB x card owner id := ⟨_, rfl⟩
  rw [← hR]
  have HR := Lib.hid hR; clear hR
  have hlg := H1.out.lt
  have d1 : w.cell? ⟨g, 1, none⟩ = some (.slice A L.length cl) := (H1.out.cell 1).trans rfl
  rw [Hn.out] at d1
  go_enter Try.func17, Try.ntmps17
  go_wp2_with fail
  go_loopg [9] n (fun gk i wr => ∃ k : Nat, k ≤ n ∧ gk = n - k ∧ i = .int .i64 k ∧ ((L.take k).any fun x => hasB x card owner id) = false ∧ New w wr)
  case atStart => exact ⟨0, by omega, by omega, rfl, by simp, Chg.refl _ _⟩
  case round =>
    clear d1 hlg
    obtain ⟨k, hk, rfl, rfl, hp, hN⟩ := hrel
    have HP := Lib.hid hp; clear hp
    have HN := Lib.hid hN; clear hN
    have hg := H1.out.keep HN.out
    have hlg2 := hg.lt
    have d1 : wr.cell? ⟨g, 1, none⟩ = some (.slice A L.length cl) := (hg.cell 1).trans rfl
    rw [Hn.out] at d1
    clear hg
    by_cases hlt : k < n
    · obtain ⟨x, hx⟩ : ∃ x, L[k]? = some x := ⟨_, List.getElem?_eq_getElem (by rw [Hn.out]; exact hlt)⟩
      obtain ⟨a, hA, hab, a0, a1, a2, a3, a4⟩ := ((Its.of_own HO.out).new HN.out (own_lt HO.out)) k x hx
      subst hA
      obtain ⟨h1, h2⟩ := any_split hx HP.out
      have hxr : rightI false x = true := by have := Hr.out; rw [List.all_eq_true] at this; exact this x (List.mem_of_getElem? hx)
      obtain ⟨b, hb⟩ : ∃ b, b = hasB x card owner id := ⟨_, rfl⟩
      rw [← hb] at h1 h2
      have HS1 := Lib.hid h1; clear h1
      have HS2 := Lib.hid h2; clear h2
      obtain ⟨xc, xo, xi, xn, xa⟩ := x
      unfold hasB isB at hb
      rw [right_h] at hxr
      simp only at hb
      have HBb := Lib.hid hb
      clear hb hx hab
      by_cases o0 : xo = 0
      · subst o0
        by_cases cc : xc = card
        · subst cc
          have hB : b = true := by rw [HBb.out]; simp
          subst hB
          go_wp2_with fail
          go_ret
          exact ⟨by rw [HR.out, HS2.out (by trivial)]; rfl, HN.out.alloc _⟩
        · have hB : b = false := by rw [HBb.out]; have h3 : ¬ xc = 0 := by omega
                                    simp [cc, h3]
          subst hB
          clear hxr
          go_wp2_with fail
          go_roundg (n - (k + 1))
          case measure => omega
          case rel => exact ⟨k + 1, by omega, rfl, by go_num, HS1.out, HN.out.alloc _⟩
      · have e1 : decide (0 < xo) = true := decide_eq_true (by omega)
        clear hxr
        by_cases oo : xo = owner
        · subst oo
          by_cases ii : xi = id
          · subst ii
            by_cases c0 : xc = 0
            · subst c0
              have hB : b = true := by rw [HBb.out]; simp
              subst hB
              go_wp2_with fail
              go_ret
              exact ⟨by rw [HR.out, HS2.out (by trivial)]; rfl, HN.out.alloc _⟩
            · by_cases cc : xc = card
              · subst cc
                have hB : b = true := by rw [HBb.out]; simp
                subst hB
                go_wp2_with fail
                go_ret
                exact ⟨by rw [HR.out, HS2.out (by trivial)]; rfl, HN.out.alloc _⟩
              · have hB : b = false := by rw [HBb.out]; simp [c0, cc]
                subst hB
                have t1 : (xc == card) = false := beq_eq_false_iff_ne.2 cc
                have t2 : (xc == 0) = false := beq_eq_false_iff_ne.2 c0
                go_wp2_with fail
                go_roundg (n - (k + 1))
                case measure => omega
                case rel => exact ⟨k + 1, by omega, rfl, by go_num, HS1.out, HN.out.alloc _⟩
          · have hB : b = false := by rw [HBb.out]; simp [ii, o0]
            subst hB
            go_wp2_with fail
            go_roundg (n - (k + 1))
            case measure => omega
            case rel => exact ⟨k + 1, by omega, rfl, by go_num, HS1.out, HN.out.alloc _⟩
        · have hB : b = false := by rw [HBb.out]; simp [oo, o0]
          subst hB
          go_wp2_with fail
          go_roundg (n - (k + 1))
          case measure => omega
          case rel => exact ⟨k + 1, by omega, rfl, by go_num, HS1.out, HN.out.alloc _⟩
    · obtain rfl : k = n := by omega
      go_wp2_with fail
      go_ret
      exact ⟨by rw [HR.out, any_end (by rw [Hn.out]; exact HP.out)]; rfl, HN.out⟩
theorem step_copy3 {w1 : World} {ops : Array Oper} {o : Oper} {a : Act} {K : Act → World → Prop} {Q : Exit → Act → World → Prop} {E : Prop} (hw : Region.wanted o (yielded ops a.tmps) = true) (s x : Operand)
    (ho : o.op = .call { callee := .builtin .append, args := #[s, x], argTypes := #[26, 26] }) (base g : Nat) (hs : a.eval s = .slice (some ⟨g, 0, none⟩) 0 0) (hg : Has w1 g 44 #[]) (hbg : base ≤ g)
    (A : Option Addr) (n c : Nat) (xs : List It) (F : Nat → Prop) (hx : a.eval x = .slice A n c) (hA : Its w1 F A xs) (hl : xs.length = n) (hnil : A = none → n = 0 ∧ c = 0) (hn : n ≤ 3518437208883)
    (h : ∀ A' c' w', w'.ownsRow base 44 5 (.slice A' n c') n (ics xs) → Chg (fun k => k = g) w1 w' → (∀ k, Value.ownBlock (.slice A' n c') = some k → k = g ∨ w1.heap.size ≤ k) → K (a.put o.dst (.slice A' n c')) w') :
    if Region.wanted o (yielded ops a.tmps) = true then Oper.wp Try.prog o a w1 K Q else E := by
  rw [if_pos hw]
  obtain ⟨i0, hi, hz0, hz1, hz2⟩ := info_parts Try.infoI
  have hown : w1.ownsRow base 44 5 (.slice (some ⟨g, 0, none⟩) 0 0) 0 [] := ⟨rfl, Or.inr ⟨g, 0, #[], rfl, hbg, hg, by simp, by simp [maxLen], by simp, by simp⟩⟩
  refine wp_append_src s x 26 ho base 44 i0 (.agg #[.int .i64 0, .int .i64 0, .int .i64 0, .int .i64 0, .int .i64 0]) 5 40 Try.underlying26 hi hz0 hz1 hz2 rfl (by decide) _ 0 [] hs hown A n c (ics xs) hx hnil (by rw [ics_len, hl]) hA.cells (ics_cells xs) (by simp only [maxLen]; omega) (by omega) (Nat.le_of_lt (Nat.lt_of_le_of_lt hbg hg.lt)) ?_
  intro A' c' w' h1 h2 h3
  rw [Nat.zero_add] at h1 h3 ⊢
  rw [List.nil_append] at h1
  refine h A' c' w' h1 (h2.mono fun k _ hk => by simp only [Value.ownBlock, Option.some.injEq] at hk; exact hk.symm) fun k hk => ?_
  rcases h3 with h3 | h3
  · rw [h3] at hk
    simp only [Value.ownBlock, Option.some.injEq] at hk
    exact Or.inl hk.symm
  · exact Or.inr (h3 k hk)
theorem has_other {w1 w' : World} {g g' : Nat} {t : TypeId} {cs : Array Value} (h : Has w1 g' t cs) (hC : Chg (fun k => k = g) w1 w') (hne : g' ≠ g) : Has w' g' t cs := h.chg hC hne
theorem own_stay {w8 w1 w' : World} {base e size n g gA s0 : Nat} {v : Value} {xs : List Value} (ho : w8.ownsRow base e size v n xs) (hN : New w8 w1) (hC : Chg (fun k => k = g) w1 w') (hf : ∀ k, v.ownBlock = some k → k = gA ∨ s0 ≤ k) (hg : (g ≠ gA ∧ g < s0) ∨ w8.heap.size ≤ g) : w'.ownsRow base e size v n xs :=
  own_chg (own_new ho hN) hC fun k hk e => by
    have h1 := hf k hk
    have h2 := own_lt ho k hk
    subst e
    omega
theorem set3 {w : World} {g : Nat} {t : TypeId} {y0 y1 y2 : Value} (h : Has w g t #[y0, y1, y2]) (x0 x1 x2 : Value) :
    Has (((w.setCell ⟨g, 0, none⟩ x0).setCell ⟨g, 1, none⟩ x1).setCell ⟨g, 2, none⟩ x2) g t #[x0, x1, x2] ∧ Chg (· = g) w (((w.setCell ⟨g, 0, none⟩ x0).setCell ⟨g, 1, none⟩ x1).setCell ⟨g, 2, none⟩ x2) :=
  ⟨((h.set 0 x0).set 1 x1).set 2 x2, Chg.setCell (S := (· = g)) (p := ⟨g, 2, none⟩) (Chg.setCell (S := (· = g)) (p := ⟨g, 1, none⟩) (Chg.setCell (S := (· = g)) (p := ⟨g, 0, none⟩) (Chg.refl _ _) (fun _ => rfl) _) (fun _ => rfl) _) (fun _ => rfl) _⟩
set_option maxRecDepth 100000 in
set_option maxHeartbeats 8000000 in
theorem copied_any (add off : List It) (B D : Option Addr) (m p ca co : Nat) (tv : Int) (F : Nat → Prop) (w : World) (hB : Its w F B add) (hD : Its w F D off) (hF : ∀ k, F k → k < w.heap.size) (hm : add.length = m) (hp : off.length = p) (hmb : m ≤ 3518437208883) (hpb : p ≤ 3518437208883) (hBn : B = none → m = 0 ∧ ca = 0) (hDn : D = none → p = 0 ∧ co = 0) :
    Calls Try.prog 9 #[.agg #[.int .i64 tv, .slice B m ca, .slice D p co]] w fun e w' => ∃ A1 c1 A2 c2, e = .returned (.agg #[.int .i64 tv, .slice A1 m c1, .slice A2 p c2]) ∧ w'.ownsRow w.heap.size 44 5 (.slice A1 m c1) m (ics add) ∧ w'.ownsRow w.heap.size 44 5 (.slice A2 p c2) p (ics off) ∧ New w w' := by
  have HB := Lib.hid hB; clear hB
  have HD := Lib.hid hD; clear hD
  have HF := Lib.hid hF; clear hF
  have Hm := Lib.hid hm; clear hm
  have Hp := Lib.hid hp; clear hp
  have HBn := Lib.hid hBn; clear hBn
  have HDn := Lib.hid hDn; clear hDn
  have HK : Hid (∀ wy, Chg (fun k => w.heap.size < k) (w.alloc (.cells #[.int .i64 tv, .slice B m ca, .slice D p co] 37)) wy → wy.cell? ⟨w.heap.size, 0, none⟩ = some (.int .i64 tv) ∧ wy.cell? ⟨w.heap.size, 1, none⟩ = some (.slice B m ca) ∧ wy.cell? ⟨w.heap.size, 2, none⟩ = some (.slice D p co)) := fun wy hy => by
    have hg := (Has.new w 37 #[.int .i64 tv, .slice B m ca, .slice D p co]).chg hy (by omega)
    exact ⟨hg.cell 0, hg.cell 1, hg.cell 2⟩
  go_enter Try.func9, Try.ntmps9
  go_wp2_with fail
  go_region_held_law (fun wx => wx.cell? ⟨w.heap.size, 0, none⟩ = some (.int .i64 tv) ∧ wx.cell? ⟨w.heap.size, 1, none⟩ = some (.slice B m ca) ∧ wx.cell? ⟨w.heap.size, 2, none⟩ = some (.slice D p co))
    (with_reducible refine HK.out _ ?_; with_reducible repeat (first | exact HM12.out | exact HM8.out | exact Chg.refl _ _ | refine Chg.alloc ?_ _ | refine Chg.drew ?_ | refine Chg.setCell ?_ (fun _ => by first | omega | (dsimp only; omega)) _))
    (first
    | (refine step_copy3 (by kernel_rfl) (.tmp 5) (.tmp 7) rfl w.heap.size _ rfl (by ((with_reducible repeat (first | exact HE12.out | exact HE8.out | exact HZ12.out | exact HZ8.out | exact Has.new_at _ _ _ _ (by simp; fail_if_success (have := True.intro)) | refine Has.drew ?_ | refine Has.alloc ?_ _)); fail_if_success (have := True.intro))) (by have := HS12.out; first | omega | (simp; done) | (simp; omega)) B m ca add F rfl (HB.out.new (by ((with_reducible repeat (first | exact HN12.out | exact HN8.out | exact Chg.refl _ _ | refine Chg.alloc ?_ _ | refine Chg.drew ?_)); fail_if_success (have := True.intro))) HF.out) Hm.out HBn.out hmb ?_
       intro A8 c8 w8 hO hC hf
       have HO8 := Lib.hid hO
       have HM8 : Hid (Chg (fun k => w.heap.size < k) (w.alloc (.cells #[.int .i64 tv, .slice B m ca, .slice D p co] 37)) w8) := Chg.trans (S := fun k => w.heap.size < k) (by ((with_reducible repeat (first | exact HM12.out | exact HM8.out | exact Chg.refl _ _ | refine Chg.alloc ?_ _ | refine Chg.drew ?_)); fail_if_success (have := True.intro))) hC (fun i hi hk => by have := HS12.out; first | omega | (simp; done) | (simp at *; omega))
       have HN8 : Hid (New w w8) := Chg.trans (S := fun _ => False) (by ((with_reducible repeat (first | exact HN12.out | exact HN8.out | exact Chg.refl _ _ | refine Chg.alloc ?_ _ | refine Chg.drew ?_)); fail_if_success (have := True.intro))) hC (fun i hi hk => by have := HS12.out; first | omega | (simp; done) | (simp at *; omega))
       have HZ8 : Hid (Has w8 (w.heap.size + 1) 37 #[.int .i64 0, .slice none 0 0, .slice none 0 0]) := has_other (by ((with_reducible repeat (first | exact HE12.out | exact HE8.out | exact HZ12.out | exact HZ8.out | exact Has.new_at _ _ _ _ (by simp; fail_if_success (have := True.intro)) | refine Has.drew ?_ | refine Has.alloc ?_ _)); fail_if_success (have := True.intro))) hC (by have := HS12.out; first | omega | (simp; done) | (simp at *; omega))
       have HQ12 := Lib.hid (own_stay HO12.out (by ((with_reducible repeat (first | exact Chg.refl _ _ | refine Chg.alloc ?_ _ | refine Chg.drew ?_)); fail_if_success (have := True.intro))) hC HG12.out (by have h2 := HS12.out; first | omega | (simp; done) | (simp; omega)))
       have hz0 := HZ8.out.cell 0
       have hz1 := HZ8.out.cell 1
       have hz2 := HZ8.out.cell 2
       have hzf0 := HZ8.out.free 0
       have hzf1 := HZ8.out.free 1
       have hzf2 := HZ8.out.free 2
       simp at hz0 hz1 hz2
       have hzl := HZ8.out.lt
       clear hO hC hf)
    | (refine step_copy3 (by kernel_rfl) (.tmp 9) (.tmp 11) rfl w.heap.size _ rfl (by ((with_reducible repeat (first | exact HE12.out | exact HE8.out | exact HZ12.out | exact HZ8.out | exact Has.new_at _ _ _ _ (by simp; fail_if_success (have := True.intro)) | refine Has.drew ?_ | refine Has.alloc ?_ _)); fail_if_success (have := True.intro))) (by have := HS8.out; first | omega | (simp; done) | (simp; omega)) D p co off F rfl (HD.out.new (by ((with_reducible repeat (first | exact HN12.out | exact HN8.out | exact Chg.refl _ _ | refine Chg.alloc ?_ _ | refine Chg.drew ?_)); fail_if_success (have := True.intro))) HF.out) Hp.out HDn.out hpb ?_
       intro A12 c12 w12 hO hC hf
       have HO12 := Lib.hid hO
       have HM12 : Hid (Chg (fun k => w.heap.size < k) (w.alloc (.cells #[.int .i64 tv, .slice B m ca, .slice D p co] 37)) w12) := Chg.trans (S := fun k => w.heap.size < k) (by ((with_reducible repeat (first | exact HM12.out | exact HM8.out | exact Chg.refl _ _ | refine Chg.alloc ?_ _ | refine Chg.drew ?_)); fail_if_success (have := True.intro))) hC (fun i hi hk => by have := HS8.out; first | omega | (simp; done) | (simp at *; omega))
       have HN12 : Hid (New w w12) := Chg.trans (S := fun _ => False) (by ((with_reducible repeat (first | exact HN12.out | exact HN8.out | exact Chg.refl _ _ | refine Chg.alloc ?_ _ | refine Chg.drew ?_)); fail_if_success (have := True.intro))) hC (fun i hi hk => by have := HS8.out; first | omega | (simp; done) | (simp at *; omega))
       have HZ12 : Hid (Has w12 (w.heap.size + 1) 37 #[.int .i64 0, .slice none 0 0, .slice none 0 0]) := has_other (by ((with_reducible repeat (first | exact HE12.out | exact HE8.out | exact HZ12.out | exact HZ8.out | exact Has.new_at _ _ _ _ (by simp; fail_if_success (have := True.intro)) | refine Has.drew ?_ | refine Has.alloc ?_ _)); fail_if_success (have := True.intro))) hC (by have := HS8.out; first | omega | (simp; done) | (simp at *; omega))
       have HQ8 := Lib.hid (own_stay HO8.out (by ((with_reducible repeat (first | exact Chg.refl _ _ | refine Chg.alloc ?_ _ | refine Chg.drew ?_)); fail_if_success (have := True.intro))) hC HG8.out (by have h2 := HS8.out; first | omega | (simp; done) | (simp; omega)))
       have hz0 := HZ12.out.cell 0
       have hz1 := HZ12.out.cell 1
       have hz2 := HZ12.out.cell 2
       have hzf0 := HZ12.out.free 0
       have hzf1 := HZ12.out.free 1
       have hzf2 := HZ12.out.free 2
       simp at hz0 hz1 hz2
       have hzl := HZ12.out.lt
       clear hO hC hf)
    | (refine step_copy3 (by kernel_rfl) (.tmp 5) (.tmp 7) rfl w.heap.size _ rfl (by ((with_reducible repeat (first | exact HE12.out | exact HE8.out | exact HZ12.out | exact HZ8.out | exact Has.new_at _ _ _ _ (by simp; fail_if_success (have := True.intro)) | refine Has.drew ?_ | refine Has.alloc ?_ _)); fail_if_success (have := True.intro))) (by first | omega | (simp; done) | (simp; omega)) B m ca add F rfl (HB.out.new (by ((with_reducible repeat (first | exact HN12.out | exact HN8.out | exact Chg.refl _ _ | refine Chg.alloc ?_ _ | refine Chg.drew ?_)); fail_if_success (have := True.intro))) HF.out) Hm.out HBn.out hmb ?_
       intro A8 c8 w8 hO hC hf
       have HO8 := Lib.hid hO
       have HM8 : Hid (Chg (fun k => w.heap.size < k) (w.alloc (.cells #[.int .i64 tv, .slice B m ca, .slice D p co] 37)) w8) := Chg.trans (S := fun k => w.heap.size < k) (by ((with_reducible repeat (first | exact HM12.out | exact HM8.out | exact Chg.refl _ _ | refine Chg.alloc ?_ _ | refine Chg.drew ?_)); fail_if_success (have := True.intro))) hC (fun i hi hk => by first | omega | (simp; done) | (simp at *; omega))
       have HN8 : Hid (New w w8) := Chg.trans (S := fun _ => False) (by ((with_reducible repeat (first | exact HN12.out | exact HN8.out | exact Chg.refl _ _ | refine Chg.alloc ?_ _ | refine Chg.drew ?_)); fail_if_success (have := True.intro))) hC (fun i hi hk => by first | omega | (simp; done) | (simp at *; omega))
       have HZ8 : Hid (Has w8 (w.heap.size + 1) 37 #[.int .i64 0, .slice none 0 0, .slice none 0 0]) := has_other (by ((with_reducible repeat (first | exact HE12.out | exact HE8.out | exact HZ12.out | exact HZ8.out | exact Has.new_at _ _ _ _ (by simp; fail_if_success (have := True.intro)) | refine Has.drew ?_ | refine Has.alloc ?_ _)); fail_if_success (have := True.intro))) hC (by first | omega | (simp; done) | (simp at *; omega))
       first | (have HE8 : Hid (Has w8 (w.heap.size + 1 + 1 + 1) 44 #[]) := has_other (by ((with_reducible repeat (first | exact HE12.out | exact HE8.out | exact HZ12.out | exact HZ8.out | exact Has.new_at _ _ _ _ (by simp; fail_if_success (have := True.intro)) | refine Has.drew ?_ | refine Has.alloc ?_ _)); fail_if_success (have := True.intro))) hC (by omega)) | (have HE8 : Hid (Has w8 (w.heap.size + 1 + 1) 44 #[]) := has_other (by ((with_reducible repeat (first | exact HE12.out | exact HE8.out | exact HZ12.out | exact HZ8.out | exact Has.new_at _ _ _ _ (by simp; fail_if_success (have := True.intro)) | refine Has.drew ?_ | refine Has.alloc ?_ _)); fail_if_success (have := True.intro))) hC (by omega)) | skip
       have HG8 := Lib.hid hf
       have HS8 : Hid (w.heap.size + 1 + 1 < w8.heap.size) := by have h1 := hC.size; simp at h1; rw [Hid]; omega
       clear hO hC hf)
    | (refine step_copy3 (by kernel_rfl) (.tmp 9) (.tmp 11) rfl w.heap.size _ rfl (by ((with_reducible repeat (first | exact HE12.out | exact HE8.out | exact HZ12.out | exact HZ8.out | exact Has.new_at _ _ _ _ (by simp; fail_if_success (have := True.intro)) | refine Has.drew ?_ | refine Has.alloc ?_ _)); fail_if_success (have := True.intro))) (by first | omega | (simp; done) | (simp; omega)) D p co off F rfl (HD.out.new (by ((with_reducible repeat (first | exact HN12.out | exact HN8.out | exact Chg.refl _ _ | refine Chg.alloc ?_ _ | refine Chg.drew ?_)); fail_if_success (have := True.intro))) HF.out) Hp.out HDn.out hpb ?_
       intro A12 c12 w12 hO hC hf
       have HO12 := Lib.hid hO
       have HM12 : Hid (Chg (fun k => w.heap.size < k) (w.alloc (.cells #[.int .i64 tv, .slice B m ca, .slice D p co] 37)) w12) := Chg.trans (S := fun k => w.heap.size < k) (by ((with_reducible repeat (first | exact HM12.out | exact HM8.out | exact Chg.refl _ _ | refine Chg.alloc ?_ _ | refine Chg.drew ?_)); fail_if_success (have := True.intro))) hC (fun i hi hk => by first | omega | (simp; done) | (simp at *; omega))
       have HN12 : Hid (New w w12) := Chg.trans (S := fun _ => False) (by ((with_reducible repeat (first | exact HN12.out | exact HN8.out | exact Chg.refl _ _ | refine Chg.alloc ?_ _ | refine Chg.drew ?_)); fail_if_success (have := True.intro))) hC (fun i hi hk => by first | omega | (simp; done) | (simp at *; omega))
       have HZ12 : Hid (Has w12 (w.heap.size + 1) 37 #[.int .i64 0, .slice none 0 0, .slice none 0 0]) := has_other (by ((with_reducible repeat (first | exact HE12.out | exact HE8.out | exact HZ12.out | exact HZ8.out | exact Has.new_at _ _ _ _ (by simp; fail_if_success (have := True.intro)) | refine Has.drew ?_ | refine Has.alloc ?_ _)); fail_if_success (have := True.intro))) hC (by first | omega | (simp; done) | (simp at *; omega))
       first | (have HE12 : Hid (Has w12 (w.heap.size + 1 + 1 + 1) 44 #[]) := has_other (by ((with_reducible repeat (first | exact HE12.out | exact HE8.out | exact HZ12.out | exact HZ8.out | exact Has.new_at _ _ _ _ (by simp; fail_if_success (have := True.intro)) | refine Has.drew ?_ | refine Has.alloc ?_ _)); fail_if_success (have := True.intro))) hC (by omega)) | (have HE12 : Hid (Has w12 (w.heap.size + 1 + 1) 44 #[]) := has_other (by ((with_reducible repeat (first | exact HE12.out | exact HE8.out | exact HZ12.out | exact HZ8.out | exact Has.new_at _ _ _ _ (by simp; fail_if_success (have := True.intro)) | refine Has.drew ?_ | refine Has.alloc ?_ _)); fail_if_success (have := True.intro))) hC (by omega)) | skip
       have HG12 := Lib.hid hf
       have HS12 : Hid (w.heap.size + 1 + 1 < w12.heap.size) := by have h1 := hC.size; simp at h1; rw [Hid]; omega
       clear hO hC hf))
  all_goals
    clear HK HM8 HM12 hz0 hz1 hz2 hzf0 hzf1 hzf2 hzl
    go_wp2_with fail
    first
      | (obtain ⟨s1, s2⟩ := set3 HZ12.out (.int .i64 tv) (.slice A8 m c8) (.slice A12 p c12)
         generalize ((w12.setCell ⟨w.heap.size + 1, 0, none⟩ (.int .i64 tv)).setCell ⟨w.heap.size + 1, 1, none⟩ (.slice A8 m c8)).setCell ⟨w.heap.size + 1, 2, none⟩ (.slice A12 p c12) = w5 at s1 s2 ⊢
         have g0 := (s1.cell 0).trans rfl
         have g1 := (s1.cell 1).trans rfl
         have g2 := (s1.cell 2).trans rfl
         refine bodyPost_ret (v := .agg #[.int .i64 tv, .slice A8 m c8, .slice A12 p c12]) (by simp [results, Try.results9, go_sem, g0, g1, g2]) rfl ?_
         exact ⟨A8, c8, A12, c12, rfl, own_chg HQ8.out s2 (fun k hk e => own_apart HQ8.out HZ12.out (by decide) (by rw [hk]; exact congrArg some e)), own_chg HO12.out s2 (fun k hk e => own_apart HO12.out HZ12.out (by decide) (by rw [hk]; exact congrArg some e)), New.set HN12.out s2 (by omega)⟩)
      | (obtain ⟨s1, s2⟩ := set3 HZ8.out (.int .i64 tv) (.slice A8 m c8) (.slice A12 p c12)
         generalize ((w8.setCell ⟨w.heap.size + 1, 0, none⟩ (.int .i64 tv)).setCell ⟨w.heap.size + 1, 1, none⟩ (.slice A8 m c8)).setCell ⟨w.heap.size + 1, 2, none⟩ (.slice A12 p c12) = w5 at s1 s2 ⊢
         have g0 := (s1.cell 0).trans rfl
         have g1 := (s1.cell 1).trans rfl
         have g2 := (s1.cell 2).trans rfl
         refine bodyPost_ret (v := .agg #[.int .i64 tv, .slice A8 m c8, .slice A12 p c12]) (by simp [results, Try.results9, go_sem, g0, g1, g2]) rfl ?_
         exact ⟨A8, c8, A12, c12, rfl, own_chg HO8.out s2 (fun k hk e => own_apart HO8.out HZ8.out (by decide) (by rw [hk]; exact congrArg some e)), own_chg HQ12.out s2 (fun k hk e => own_apart HQ12.out HZ8.out (by decide) (by rw [hk]; exact congrArg some e)), New.set HN8.out s2 (by omega)⟩)
end Go.Proofs.Ytficopkjpdfilaa
