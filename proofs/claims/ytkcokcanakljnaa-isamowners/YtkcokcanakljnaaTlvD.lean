import Derived.Test.YtkcokcanakljnaaTlvC
namespace Go.Proofs.Ytkcokcanakljnaa
open Go.RowKit
/-- o behind what is laid already -/
def onto (out : List Nat) (o : Option (List Nat)) : Option (List Nat) := match o with
  | none => none
  | some x => some (out ++ x)
theorem onto_cons (out : List Nat) (t : Int) (bs : List Nat) (s r : Tr) : onto out (Tr.cons t bs s r).enc = match cont t bs s with
    | none => none
    | some c => onto (out ++ ([t.toNat, c.length] ++ c)) r.enc := by
  rw [enc_cons]
  cases cont t bs s with
  | none => rfl
  | some c =>
    simp only [laidOn]
    cases r.enc with
    | none => rfl
    | some x => simp [onto]
theorem apart_rows {w wr w2 : World} {o : Obj} {F : Nat → Prop} {v : Value} {m : Nat} {xs : List Value} (hF : ∀ k, F k → k < w.heap.size) (hO : wr.ownsRow w.heap.size 5 1 v m xs) {G : Nat → Prop} (hG : ∀ k, G k → (F k ∨ (wr.alloc o).heap.size ≤ k) ∧ k < w2.heap.size) :
    ∀ k, G k → k < w2.heap.size ∧ ¬ (v.ownBlock = some k) := fun k hk => ⟨(hG k hk).2, fun he => by
  have h1 := hO.lt k he
  rcases (hG k hk).1 with h | h
  · have := hF k h; omega
  · simp at h; omega⟩
theorem lift_arr {w2 w5 : World} {o : Obj} {G : Nat → Prop} {v : Value} {A : Option Addr} {n : Nat} {f : Nat → Value} (hA : Arr w2 G A n f) (hap : ∀ k, G k → k < w2.heap.size ∧ ¬ (v.ownBlock = some k)) (hC : Chg (fun k => v.ownBlock = some k) (w2.alloc o) w5) : Arr w5 G A n f :=
  hA.chg (Chg.new_then ((Chg.refl _ _).alloc o) hC) hap
set_option maxRecDepth 100000 in
set_option maxHeartbeats 2000000 in
theorem laid_any : ∀ (N : Nat) (T : Tr), T.size < N → ∀ (n : Nat) (A : Option Addr) (c : Nat) (w : World) (F : Nat → Prop), T.len = n → Lay w F A 0 T → (∀ k, F k → k < w.heap.size) → n * 56 ≤ 140737488351232 → Tr.right 0 T = true →
    Calls Try.prog 74 #[.slice A n c] w fun e w' => EncR w T.enc (.int .i64 0) (.int .i64 11) e w' ∧ New w w' := by
  intro N
  induction N with
  | zero => intro T hT; omega
  | succ N ih =>
    intro T hT n A c w F hn hL hF hs hri
    have IH := Lib.hid ih; clear ih
    have Hn := Lib.hid hn; clear hn
    have HL := Lib.hid hL; clear hL
    have HT := Lib.hid hT; clear hT
    have HF := Lib.hid hF; clear hF
    have Hri := Lib.hid hri; clear hri
    go_enter Try.func74, Try.ntmps74
    go_wp2_with fail
    go_loopg [4, 11] n (fun gk b i wr => ∃ (k : Nat) (R : Tr) (l : Nat) (out : List Nat) (A4 : Option Addr) (m4 c4 : Nat), k + R.len = n ∧ gk = n - k ∧ b = .slice A4 m4 c4 ∧ i = .int .i64 k ∧ m4 = out.length ∧ m4 ≤ 257 * l ∧ l ≤ 255 ∧ (∀ x ∈ out, x < 256) ∧
      Lay w F A k R ∧ R.size < N + 1 ∧ Tr.right l R = true ∧ onto out R.enc = T.enc ∧ wr.ownsRow w.heap.size 5 1 (.slice A4 m4 c4) m4 (out.map bV) ∧ New w wr)
    case atStart => exact ⟨0, T, 0, [], none, 0, 0, by rw [Hn.out]; omega, by omega, rfl, rfl, rfl, by omega, by omega, by simp, HL.out, HT.out, Hri.out, by cases T.enc <;> rfl, World.ownsRow_nil _ _ _ _, Chg.refl _ _⟩
    case round =>
      obtain ⟨k, R, l, out, A4, m4, c4, hk, rfl, rfl, rfl, hm4, hm4l, hl, ho256, hLR, hRs, hri, hR, hO, hN⟩ := hrel
      have HR := Lib.hid hR; clear hR
      have Ho256 := Lib.hid ho256; clear ho256
      have Hm4 := Lib.hid hm4; clear hm4
      cases R with
      | nil =>
        obtain rfl : k = n := by rw [← hk]; rfl
        have HN := Lib.hid hN
        have HO := Lib.hid hO
        clear hk hLR hRs hN hO hri
        go_wp2_with fail
        go_ret2
        refine ⟨?_, HN.out⟩
        have he : T.enc = some out := by rw [← HR.out]; simp [onto, Tr.enc]
        rw [he]
        refine ⟨A4, c4, by rw [← Hm4.out]; rfl, by rw [← Hm4.out]; exact HO.out, Ho256.out, by rw [← Hm4.out]; omega⟩
      | cons t bs sub rest =>
        obtain ⟨⟨vb, B, cb, h3, hb, hnil, hsl, ht, hLs⟩, hLr⟩ := hLR
        obtain ⟨Ab, bl, cc, rfl⟩ : ∃ Ab bl cc, vb = .slice Ab bl cc := by obtain ⟨Ab, cc, h, _⟩ := hb; exact ⟨_, _, _, h⟩
        obtain ⟨a, rfl, hab, h0, h1, h2⟩ := h3.chg hN (fun k hk => ⟨HF.out k hk, fun f => f⟩)
        simp only [Tr.len] at hk
        simp only [Tr.size] at hRs
        have hlt : k < n := by omega
        have Hk := Lib.hid hk; clear hk
        have HLr := Lib.hid hLr; clear hLr
        rw [right_cons] at hri
        simp only [Bool.and_eq_true, decide_eq_true_eq] at hri
        obtain ⟨⟨⟨hlt1, hle1⟩, hok⟩, hrr⟩ := hri
        have Hrr := Lib.hid hrr; clear hrr
        obtain ⟨tn, rfl⟩ : ∃ tn : Nat, t = (tn : Int) := ⟨t.toNat, by omega⟩
        obtain ⟨p, hp⟩ : ∃ p, p = sub.len := ⟨_, rfl⟩
        rw [← hp] at h2 hsl
        have HC : Hid (∀ w0, New wr w0 → Calls Try.prog 91 #[.agg #[.int .i64 (tn : Int), .slice Ab bl cc, .slice B p cb]] w0 fun e w' => ContR F w0.heap.size (cont tn bs sub) e w' ∧ New w0 w') := fun w0 hw0 =>
          contentOf_any tn bs sub (.slice Ab bl cc) B p cb w0 F (hb.new (hN.then_new hw0) HF.out) (fun k hk => Nat.lt_of_lt_of_le (HF.out k hk) (hN.then_new hw0).size) (fun h7 w1 hw1 =>
            IH.out sub (by omega) p B cb w1 F hp.symm (hLs.new ((hN.then_new hw0).then_new hw1) HF.out) (fun k hk => Nat.lt_of_lt_of_le (HF.out k hk) ((hN.then_new hw0).then_new hw1).size) hsl (by
              unfold okC at hok
              rw [if_neg (by omega)] at hok
              simp only [Bool.and_eq_true] at hok
              exact hok.2))
        have HRs := Lib.hid hRs; clear hRs
        have HN := Lib.hid hN; clear hN
        have HO := Lib.hid hO; clear hO
        clear hab hnil hLs h3 hb hok ht hsl hp
        go_wp2_with fail
        with_reducible refine (HC.out _ ((Chg.refl _ _).alloc _)).mono ?_
        rintro e w2 ⟨hE, hN2⟩
        have hg := (Has.new wr 95 #[.int .i64 (tn : Int), .slice Ab bl cc, .slice B p cb]).keep hN2
        have hglt := hg.lt
        have hg0 := hg.cell 0
        simp at hg0
        clear hg
        have HN2 := Lib.hid (((Chg.refl _ _).alloc _).then_new hN2 : New wr w2); clear hN2
        have HR' := Lib.hid (HR.out.symm.trans (onto_cons out tn bs sub rest)); clear HR
        cases hc : cont tn bs sub with
        | none =>
          rw [hc] at hE
          simp only [ContR] at hE
          subst hE
          have HR'' := HR'.out
          rw [hc] at HR''
          have HRr := Lib.hid HR''; clear HR'' HR'
          clear hc
          go_wp2_with fail
          go_ret2
          refine ⟨?_, HN.out.then_new HN2.out⟩
          rw [HRr.out]; rfl
        | some x =>
          rw [hc] at hE
          have HR'' := HR'.out
          rw [hc] at HR''
          have HRr := Lib.hid HR''; clear HR'' HR'
          clear hc
          obtain ⟨A2, c2, rfl, hB, hxl⟩ := hE
          obtain ⟨A2', c2', he, hA2, hnil2, hx256, _⟩ := hB
          simp only [Value.slice.injEq, true_and] at he
          obtain ⟨rfl, rfl⟩ := he
          have HA2 := Lib.hid hA2; clear hA2
          have Hnil2 := Lib.hid hnil2; clear hnil2
          have Hx256 := Lib.hid hx256; clear hx256
          obtain ⟨xl, hxe⟩ : ∃ xl, xl = x.length := ⟨_, rfl⟩
          have Hxe := Lib.hid hxe
          have HA2 := HA2.out
          have Hnil2 := Hnil2.out
          rw [← hxe] at hxl HA2 Hnil2 ⊢
          replace HA2 := Lib.hid HA2
          replace Hnil2 := Lib.hid Hnil2
          clear hxe
          have Hap := Lib.hid (apart_rows HF.out HO.out (G := fun k => (F k ∨ (wr.alloc (.cells #[.int .i64 (tn : Int), .slice Ab bl cc, .slice B p cb] 95)).heap.size ≤ k) ∧ k < w2.heap.size) (fun k hk => hk))
          go_wp2_with (first | (at_builtin; refine wpList_app2 rfl ((HN.out.then_new HN2.out).alloc _) _ _ rfl _ m4 out rfl (own_new HO.out (HN2.out.alloc _)) _ 2 2 [tn, xl] (· = w2.heap.size) rfl (arr_two (Has.new w2 5 _)) rfl (fun h => by cases h) (by omega) ?_; intro A5 c5 w5 hO5 hN5 hC5; have HO5 := Lib.hid hO5; have HN5 := Lib.hid hN5; have HC5 := Lib.hid hC5; clear hO5 hN5 hC5; have HA5 := Lib.hid (lift_arr HA2.out Hap.out HC5.out)) | (at_builtin; refine wpList_app rfl HN5.out _ _ rfl _ (m4 + 2) (out ++ [tn, xl]) rfl HO5.out A2 xl c2 x _ rfl HA5.out Hxe.out.symm Hnil2.out (by omega) ?_; intro A6 c6 w6 hO6 hN6; have HO6 := Lib.hid hO6; have HN6 := Lib.hid hN6; clear hO6 hN6) | fail)
          go_roundg (n - (k + 1))
          case measure => omega
          case rel =>
            refine ⟨k + 1, rest, tn, out ++ [tn, xl] ++ x, A6, m4 + 2 + xl, c6, by have := Hk.out; omega, rfl, rfl, by go_num, ?_, by omega, by omega, ?_, HLr.out, by have := HRs.out; omega, Hrr.out, ?_, HO6.out, HN6.out⟩
            · rw [Hm4.out, Hxe.out]; simp; omega
            · intro y hy
              simp only [List.mem_append, List.mem_cons, List.not_mem_nil, or_false] at hy
              rcases hy with (hy | rfl | rfl) | hy
              · exact Ho256.out y hy
              · omega
              · omega
              · exact Hx256.out y hy
            · rw [HRr.out, Hxe.out, List.append_assoc]; rfl
end Go.Proofs.Ytkcokcanakljnaa
