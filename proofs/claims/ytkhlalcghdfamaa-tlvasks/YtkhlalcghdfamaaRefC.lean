import Derived.Test.YtkhlalcghdfamaaTlvD
namespace Go.Proofs.Ytkhlalcghdfamaa
open Go.RowKit
theorem arr_one {w : World} {g x : Nat} (h : Has w g 5 #[.int .u8 (x : Int)]) : Arr w (· = g) (some ⟨g, 0, none⟩) 1 (fun i => bV ([x].getD i 0)) := by
  intro i hi
  refine ⟨_, rfl, rfl, ?_⟩
  have hadd : (⟨g, 0, none⟩ : Addr).add i = ⟨g, i, none⟩ := by unfold Addr.add; split <;> simp_all
  rw [hadd, h.cell i]
  obtain rfl : i = 0 := by omega
  rfl
/-- what a row that is appended to may have been moved to -/
theorem ap_next {w2 w5 : World} {o : Obj} {G : Nat → Prop} {v v' : Value} (hap : ∀ k, G k → k < w2.heap.size ∧ ¬ (v.ownBlock = some k)) (hs : w2.heap.size ≤ w5.heap.size) (hf : v'.ownBlock = v.ownBlock ∨ ∀ k, v'.ownBlock = some k → (w2.alloc o).heap.size ≤ k) : ∀ k, G k → k < w5.heap.size ∧ ¬ (v'.ownBlock = some k) := fun k hk => by
  obtain ⟨h1, h2⟩ := hap k hk
  refine ⟨by omega, fun he => ?_⟩
  rcases hf with hf | hf
  · exact h2 (by rw [← hf]; exact he)
  · have := hf k he; simp at this; omega
theorem wpList_app3 {wX wy : World} {ops : Array Oper} {rest : List Oper} {o : Oper} {a : Act} {Q : Exit → Act → World → Prop} (hgd : o.guard = none) (hNy : New wX wy) (s x : Operand)
    (ho : o.op = .call { callee := .builtin .append, args := #[s, x], argTypes := #[25, 25] }) (v : Value) (n : Nat) (xs : List Nat) (hs : a.eval s = v) (hown : wy.ownsRow wX.heap.size 5 1 v n (xs.map bV))
    (A : Option Addr) (m c : Nat) (ys : List Nat) (F : Nat → Prop) (hx : a.eval x = .slice A m c) (hA : Arr wy F A m (fun i => bV (ys.getD i 0))) (hl : ys.length = m) (hnil : A = none → m = 0 ∧ c = 0) (hn : n + m ≤ 140737488355328)
    (h : ∀ A' c' w', w'.ownsRow wX.heap.size 5 1 (.slice A' (n + m) c') (n + m) ((xs ++ ys).map bV) → New wX w' → Chg (fun k => v.ownBlock = some k) wy w' → (Value.ownBlock (.slice A' (n + m) c') = v.ownBlock ∨ ∀ k, Value.ownBlock (.slice A' (n + m) c') = some k → wy.heap.size ≤ k) → wpList Try.prog ops Q rest (a.put o.dst (.slice A' (n + m) c')) w') : wpList Try.prog ops Q (o :: rest) a wy := by
  obtain ⟨i0, hi, hz0, hz1, hz2⟩ := info_parts Try.info5
  refine wpList_append_src hgd s x 25 ho wX.heap.size 5 i0 (.int .u8 0) 1 1 Try.underlying25 hi hz0 hz1 hz2 rfl (by decide) v n _ hs hown A m c (ys.map bV) hx hnil (by rw [List.length_map, Nat.mul_one, hl]) (map_news hA hl) (bV_one ys) (by simp only [maxLen]; omega) (by omega) hNy.size ?_
  intro A' c' w' hO hC hf
  rw [← List.map_append] at hO
  exact h A' c' w' hO (hNy.trans hC (fun i hi hk => by have := (hown.lt i hk).1; omega)) hC hf
set_option maxRecDepth 100000 in
set_option maxHeartbeats 4000000 in
theorem Form_any : ∀ (N : Nat) (T : Tr), T.size < N → ∀ (n : Nat) (A : Option Addr) (c : Nat) (w : World) (F : Nat → Prop), T.len = n → Lay w F A 0 T → (∀ k, F k → k < w.heap.size) → n * 56 ≤ 140737488351232 → Tr.right 0 T = true →
    Calls Try.prog 29 #[.slice A n c] w fun e w' => EncR w T.enc (.bool true) (.bool false) e w' ∧ New w w' := by
  intro N
  induction N with
  | zero => intro T hT; omega
  | succ N ih =>
    intro T hT n A c w F hn hL hF hs hri
    have IH := Lib.hid ih; clear ih
    have Hn := Lib.hid hn; clear hn
    have HL := Lib.hid hL; clear hL
    have HT := Lib.hid hT; clear hT
    have HF := Lib.hid hF; clear hF
    have Hri := Lib.hid hri; clear hri
    go_enter Try.func29, Try.ntmps29
    go_wp2_with fail
    go_loopg [4, 5] n (fun gk b i wr => ∃ (k : Nat) (R : Tr) (l : Nat) (out : List Nat) (A4 : Option Addr) (m4 c4 : Nat), k + R.len = n ∧ gk = n - k ∧ b = .slice A4 m4 c4 ∧ i = .int .i64 k ∧ m4 = out.length ∧ m4 ≤ 257 * l ∧ l ≤ 255 ∧ (∀ x ∈ out, x < 256) ∧
      Lay w F A k R ∧ R.size < N + 1 ∧ Tr.right l R = true ∧ onto out R.enc = T.enc ∧ wr.ownsRow w.heap.size 5 1 (.slice A4 m4 c4) m4 (out.map bV) ∧ New w wr)
    case atStart => exact ⟨0, T, 0, [], none, 0, 0, by rw [Hn.out]; omega, by omega, rfl, rfl, rfl, by omega, by omega, by simp, HL.out, HT.out, Hri.out, by cases T.enc <;> rfl, World.ownsRow_nil _ _ _ _, Chg.refl _ _⟩
    case round =>
      obtain ⟨k, R, l, out, A4, m4, c4, hk, rfl, rfl, rfl, hm4, hm4l, hl, ho256, hLR, hRs, hri, hR, hO, hN⟩ := hrel
      have HR := Lib.hid hR; clear hR
      have Ho256 := Lib.hid ho256; clear ho256
      have Hm4 := Lib.hid hm4; clear hm4
      cases R with
      | nil =>
        obtain rfl : k = n := by rw [← hk]; rfl
        have HN := Lib.hid hN
        have HO := Lib.hid hO
        clear hk hLR hRs hN hO hri
        go_wp2_with fail
        go_ret2
        refine ⟨?_, HN.out⟩
        have he : T.enc = some out := by rw [← HR.out]; simp [onto, Tr.enc]
        rw [he]
        refine ⟨A4, c4, by rw [← Hm4.out]; rfl, by rw [← Hm4.out]; exact HO.out, Ho256.out, by rw [← Hm4.out]; omega⟩
      | cons t bs sub rest =>
        obtain ⟨⟨vb, B, cb, h3, hb, hnil, hsl, ht, hLs⟩, hLr⟩ := hLR
        obtain ⟨Ab, cc, rfl, hAb, hbnil, hb256, hbb⟩ := hb.new hN HF.out
        obtain ⟨a, rfl, hab, h0, h1, h2⟩ := h3.chg hN (fun k hk => ⟨HF.out k hk, fun f => f⟩)
        simp only [Tr.len] at hk
        simp only [Tr.size] at hRs
        have hlt : k < n := by omega
        have Hk := Lib.hid hk; clear hk
        have HLr := Lib.hid hLr; clear hLr
        rw [right_cons] at hri
        simp only [Bool.and_eq_true, decide_eq_true_eq] at hri
        obtain ⟨⟨⟨hlt1, hle1⟩, hok⟩, hrr⟩ := hri
        have Hrr := Lib.hid hrr; clear hrr
        obtain ⟨tn, rfl⟩ : ∃ tn : Nat, t = (tn : Int) := ⟨t.toNat, by omega⟩
        obtain ⟨p, hp⟩ : ∃ p, p = sub.len := ⟨_, rfl⟩
        rw [← hp] at h2 hsl
        have HC : Hid (127 < tn → Calls Try.prog 29 #[.slice B p cb] wr fun e w' => EncR wr sub.enc (.bool true) (.bool false) e w' ∧ New wr w') := fun h7 =>
          IH.out sub (by omega) p B cb wr F hp.symm (hLs.new hN HF.out) (fun k hk => Nat.lt_of_lt_of_le (HF.out k hk) hN.size) hsl (by
              unfold okC at hok
              rw [if_neg (by omega)] at hok
              simp only [Bool.and_eq_true] at hok
              exact hok.2)
        have HR' := Lib.hid (HR.out.symm.trans (onto_cons out tn bs sub rest)); clear HR
        have hwsz := hN.size
        have hab2 : a.block < wr.heap.size := Nat.lt_of_lt_of_le (HF.out _ hab) hwsz
        have hpb : (a.add (k * 3)).block < wr.heap.size := by rw [add_block]; exact hab2
        have HRs := Lib.hid hRs; clear hRs
        have Hbb := Lib.hid hbb; clear hbb
        have HAb := Lib.hid hAb; clear hAb
        have Hbnil := Lib.hid hbnil; clear hbnil
        have Hb256 := Lib.hid hb256; clear hb256
        clear hnil hLs h3 hb hok ht hsl hp
        have Hc7 : Hid (127 < tn → cont tn bs sub = match sub.enc with | none => none | some c => if 255 < c.length then none else some c) := by
          intro h7; unfold cont; rw [if_neg (by omega)]; cases sub.enc <;> rfl
        have Hc8 : Hid (tn ≤ 127 → cont tn bs sub = if 255 < bs.length then none else some bs) := by
          intro h7; unfold cont; rw [if_pos (by omega)]
        rcases Nat.lt_or_ge 127 tn with h7 | h7
        · have HN := Lib.hid hN; clear hN
          have HO := Lib.hid hO; clear hO
          obtain ⟨bl, hbl⟩ : ∃ bl, bl = bs.length := ⟨_, rfl⟩
          rw [← hbl] at h1
          clear hbl
          have hc := Lib.hid (Hc7.out h7)
          go_wp2_with fail
          with_reducible refine (HC.out h7).mono ?_
          rintro e w2 ⟨hE, hN2⟩
          have h02 := (hN2.cell (p := a.add (k * 3)) hpb (fun f => f)).trans h0
          have hpb2 := Nat.lt_of_lt_of_le hpb hN2.size
          cases hen : sub.enc with
          | none =>
            rw [hen] at hE
            simp only [EncR] at hE
            subst hE
            have HRr : Hid (T.enc = none) := by rw [Hid, HR'.out, hc.out, hen]
            have HNN := Lib.hid (HN.out.then_new hN2); clear hN2
            clear hen h02
            go_wp2_with fail
            go_ret2
            refine ⟨?_, HNN.out⟩
            rw [HRr.out]; rfl
          | some x =>
            rw [hen] at hE
            obtain ⟨A2, c2, rfl, hO2x, hx256, hxl⟩ := hE
            have HNN := Lib.hid (HN.out.then_new hN2)
            have HO2 := Lib.hid (own_new HO.out hN2)
            obtain ⟨xl, hxe⟩ : ∃ xl, xl = x.length := ⟨_, rfl⟩
            have Hxe := Lib.hid hxe
            rw [← hxe] at hxl hO2x ⊢
            clear hxe
            have HA2 := Lib.hid (own_arr_bs Hxe.out.symm hO2x)
            have Hnil2 := Lib.hid (own_nil hO2x)
            have Hap : Hid (∀ k, Value.ownBlock (.slice A2 xl c2) = some k → k < w2.heap.size ∧ ¬ (Value.ownBlock (.slice A4 m4 c4) = some k)) := fun k hk => ⟨(hO2x.lt k hk).2, fun he => by
              have := (hO2x.lt k hk).1; have := (HO.out.lt k he).2; omega⟩
            have Hx256 := Lib.hid hx256
            clear hO2x hN2 hx256
            rcases Nat.lt_or_ge 255 xl with hl5 | hl5
            · have HRr : Hid (T.enc = none) := by rw [Hid, HR'.out, hc.out, hen]; simp only [if_pos (show 255 < x.length by rw [← Hxe.out]; exact hl5)]
              clear hen h02
              go_wp2_with fail
              go_ret2
              refine ⟨?_, HNN.out⟩
              rw [HRr.out]; rfl
            · have HRr : Hid (T.enc = onto (out ++ ([tn, xl] ++ x)) rest.enc) := by rw [Hid, HR'.out, hc.out, hen, Hxe.out]; simp only [if_neg (show ¬ 255 < x.length by rw [← Hxe.out]; omega)]; rfl
              clear hen
              go_wp2_with (first | (at_builtin; refine wpList_app3 rfl (HNN.out.alloc _) _ _ rfl _ m4 out rfl (own_new HO2.out ((Chg.refl _ _).alloc _)) _ 1 1 [tn] (· = w2.heap.size) rfl (arr_one (Has.new w2 5 _)) rfl (fun h => by cases h) (by omega) ?_; intro A5 c5 w5 hO5 hN5 hC5 hf5; have HO5 := Lib.hid hO5; have HN5 := Lib.hid hN5; have HC5 := Lib.hid hC5; have HF5 := Lib.hid hf5; clear hO5 hN5 hC5 hf5; have HA5 := Lib.hid (lift_arr HA2.out Hap.out HC5.out); have Hap5 := Lib.hid (ap_next Hap.out (Nat.le_trans (by simp) HC5.out.size) HF5.out)) | (at_builtin; refine wpList_app3 rfl (HN5.out.alloc _) _ _ rfl _ (m4 + 1) (out ++ [tn]) rfl (own_new HO5.out ((Chg.refl _ _).alloc _)) _ 1 1 [xl] (· = w5.heap.size) rfl (arr_one (Has.new w5 5 _)) rfl (fun h => by cases h) (by omega) ?_; intro A6 c6 w6 hO6 hN6 hC6 hf6; have HO6 := Lib.hid hO6; have HN6 := Lib.hid hN6; have HC6 := Lib.hid hC6; clear hO6 hN6 hC6 hf6; have HA6 := Lib.hid (lift_arr HA5.out Hap5.out HC6.out)) | (at_builtin; refine wpList_app rfl HN6.out _ _ rfl _ (m4 + 1 + 1) (out ++ [tn] ++ [xl]) rfl HO6.out A2 xl c2 x _ rfl HA6.out Hxe.out.symm Hnil2.out (by omega) ?_; intro A7 c7 w7 hO7 hN7; have HO7 := Lib.hid hO7; have HN7 := Lib.hid hN7; clear hO7 hN7) | fail)
              go_roundg (n - (k + 1))
              case measure => omega
              case rel =>
                refine ⟨k + 1, rest, tn, out ++ [tn] ++ [xl] ++ x, A7, m4 + 1 + 1 + xl, c7, by have := Hk.out; omega, rfl, rfl, by go_num, ?_, by omega, by omega, ?_, HLr.out, by have := HRs.out; omega, Hrr.out, ?_, HO7.out, HN7.out⟩
                · rw [Hm4.out, Hxe.out]; simp; omega
                · intro y hy
                  simp only [List.mem_append, List.mem_cons, List.not_mem_nil, or_false] at hy
                  rcases hy with ((hy | rfl) | rfl) | hy
                  · exact Ho256.out y hy
                  · omega
                  · omega
                  · exact Hx256.out y hy
                · rw [HRr.out, List.append_assoc, List.append_assoc]; rfl
        · have HNN := Lib.hid hN; clear hN
          have HO2 := Lib.hid hO; clear hO
          have hc := Lib.hid (Hc8.out h7)
          have Hx256 := Hb256
          have Hap : Hid (∀ k, F k → k < wr.heap.size ∧ ¬ (Value.ownBlock (.slice A4 m4 c4) = some k)) := fun k hk => ⟨Nat.lt_of_lt_of_le (HF.out k hk) hwsz, fun he => by
              have := HF.out k hk; have := (HO2.out.lt k he).1; omega⟩
          obtain ⟨xl, hxe⟩ : ∃ xl, xl = bs.length := ⟨_, rfl⟩
          have Hxe := Lib.hid hxe
          have HA2 := HAb.out
          have Hnil2 := Hbnil.out
          rw [← hxe] at h1 HA2 Hnil2
          replace HA2 := Lib.hid HA2
          replace Hnil2 := Lib.hid Hnil2
          clear hxe
          rcases Nat.lt_or_ge 255 xl with hl5 | hl5
          · have HRr : Hid (T.enc = none) := by rw [Hid, HR'.out, hc.out]; simp only [if_pos (show 255 < bs.length by rw [← Hxe.out]; exact hl5)]
            go_wp2_with fail
            go_ret2
            refine ⟨?_, HNN.out⟩
            rw [HRr.out]; rfl
          · have HRr : Hid (T.enc = onto (out ++ ([tn, xl] ++ bs)) rest.enc) := by rw [Hid, HR'.out, hc.out, Hxe.out]; simp only [if_neg (show ¬ 255 < bs.length by rw [← Hxe.out]; omega)]; rfl
            go_wp2_with (first | (at_builtin; refine wpList_app3 rfl (HNN.out.alloc _) _ _ rfl _ m4 out rfl (own_new HO2.out ((Chg.refl _ _).alloc _)) _ 1 1 [tn] (· = wr.heap.size) rfl (arr_one (Has.new wr 5 _)) rfl (fun h => by cases h) (by omega) ?_; intro A5 c5 w5 hO5 hN5 hC5 hf5; have HO5 := Lib.hid hO5; have HN5 := Lib.hid hN5; have HC5 := Lib.hid hC5; have HF5 := Lib.hid hf5; clear hO5 hN5 hC5 hf5; have HA5 := Lib.hid (lift_arr HA2.out Hap.out HC5.out); have Hap5 := Lib.hid (ap_next Hap.out (Nat.le_trans (by simp) HC5.out.size) HF5.out)) | (at_builtin; refine wpList_app3 rfl (HN5.out.alloc _) _ _ rfl _ (m4 + 1) (out ++ [tn]) rfl (own_new HO5.out ((Chg.refl _ _).alloc _)) _ 1 1 [xl] (· = w5.heap.size) rfl (arr_one (Has.new w5 5 _)) rfl (fun h => by cases h) (by omega) ?_; intro A6 c6 w6 hO6 hN6 hC6 hf6; have HO6 := Lib.hid hO6; have HN6 := Lib.hid hN6; have HC6 := Lib.hid hC6; clear hO6 hN6 hC6 hf6; have HA6 := Lib.hid (lift_arr HA5.out Hap5.out HC6.out)) | (at_builtin; refine wpList_app rfl HN6.out _ _ rfl _ (m4 + 1 + 1) (out ++ [tn] ++ [xl]) rfl HO6.out Ab xl cc bs _ rfl HA6.out Hxe.out.symm Hnil2.out (by omega) ?_; intro A7 c7 w7 hO7 hN7; have HO7 := Lib.hid hO7; have HN7 := Lib.hid hN7; clear hO7 hN7) | fail)
            go_roundg (n - (k + 1))
            case measure => omega
            case rel =>
              refine ⟨k + 1, rest, tn, out ++ [tn] ++ [xl] ++ bs, A7, m4 + 1 + 1 + xl, c7, by have := Hk.out; omega, rfl, rfl, by go_num, ?_, by omega, by omega, ?_, HLr.out, by have := HRs.out; omega, Hrr.out, ?_, HO7.out, HN7.out⟩
              · rw [Hm4.out, Hxe.out]; simp; omega
              · intro y hy
                simp only [List.mem_append, List.mem_cons, List.not_mem_nil, or_false] at hy
                rcases hy with ((hy | rfl) | rfl) | hy
                · exact Ho256.out y hy
                · omega
                · omega
                · exact Hx256.out y hy
              · rw [HRr.out, List.append_assoc, List.append_assoc]; rfl
end Go.Proofs.Ytkhlalcghdfamaa
