/-
  Shares of an amount by weights, as plain mathematics: whole parts, then a unit more for the greatest rests; and sums that stay whole numbers of 64 bits.
-/
import Derived.Below
namespace Go.Proofs.Ytgcikobloimmnaa
def tot (f : Nat → Int) : Nat → Int
  | 0 => 0
  | k + 1 => tot f k + f k
def up (f : Nat → Int) (i : Nat) (v : Int) : Nat → Int := fun j => if j = i then v else f j
theorem up_self (f : Nat → Int) (i : Nat) (v : Int) : up f i v i = v := by simp [up]
theorem up_ne (f : Nat → Int) {i j : Nat} (v : Int) (h : j ≠ i) : up f i v j = f j := by simp [up, h]
theorem tot_congr {f g : Nat → Int} : ∀ n, (∀ i, i < n → f i = g i) → tot f n = tot g n
  | 0, _ => rfl
  | n + 1, h => by rw [tot, tot, tot_congr n (fun i hi => h i (by omega)), h n (by omega)]
theorem tot_up (f : Nat → Int) (i : Nat) (v : Int) : ∀ n, i < n → tot (up f i v) n = tot f n - f i + v
  | 0, h => by omega
  | n + 1, h => by
    rw [tot, tot]
    by_cases hi : i = n
    · subst hi
      rw [up_self, tot_congr (g := f) i (fun j hj => up_ne f v (by omega))]
      omega
    · rw [tot_up f i v n (by omega), up_ne f v (by omega)]
      omega
theorem tot_le {f g : Nat → Int} : ∀ n, (∀ i, i < n → f i ≤ g i) → tot f n ≤ tot g n
  | 0, _ => Int.le_refl _
  | n + 1, h => by
    have h1 := tot_le n (fun i hi => h i (by omega))
    have h2 := h n (by omega)
    rw [tot, tot]; omega
theorem tot_const (c : Int) : ∀ n : Nat, tot (fun _ => c) n = n * c
  | 0 => by simp [tot]
  | n + 1 => by
    rw [tot, tot_const c n, Int.natCast_succ, Int.add_mul]; omega
theorem tot_zero_le {f : Nat → Int} {n : Nat} (h : ∀ i, i < n → 0 ≤ f i) : 0 ≤ tot f n := by
  have := tot_le (f := fun _ => 0) (g := f) n h
  rw [tot_const] at this; omega
theorem tot_le_zero {f : Nat → Int} {n : Nat} (h : ∀ i, i < n → f i ≤ 0) : tot f n ≤ 0 := by
  have := tot_le (f := f) (g := fun _ => 0) n h
  rw [tot_const] at this; omega
theorem tot_mul (c : Int) (f : Nat → Int) : ∀ n, tot (fun i => c * f i) n = c * tot f n
  | 0 => by simp [tot]
  | n + 1 => by rw [tot, tot, tot_mul c f n, Int.mul_add]
theorem tot_add (f g : Nat → Int) : ∀ n, tot (fun i => f i + g i) n = tot f n + tot g n
  | 0 => by simp [tot]
  | n + 1 => by rw [tot, tot, tot, tot_add f g n]; omega
theorem tot_mono {f : Nat → Int} {k : Nat} : ∀ n, k ≤ n → (∀ i, i < n → 0 ≤ f i) → tot f k ≤ tot f n
  | 0, h, _ => by
    obtain rfl : k = 0 := by omega
    exact Int.le_refl _
  | n + 1, h, hf => by
    by_cases he : k = n + 1
    · subst he; exact Int.le_refl _
    · have := tot_mono (k := k) n (by omega) (fun i hi => hf i (by omega))
      have := hf n (by omega)
      rw [tot]; omega
theorem tot_one {f : Nat → Int} {i n : Nat} (hi : i < n) (hf : ∀ i, i < n → 0 ≤ f i) : f i ≤ tot f n := by
  have h1 := tot_mono (k := i + 1) n (by omega) hf
  have h2 := tot_zero_le (f := f) (n := i) (fun j hj => hf j (by omega))
  rw [tot] at h1; omega
/-- the other way round -/
theorem tot_rev (f : Nat → Int) : ∀ n, tot (fun i => f (n - 1 - i)) n = tot f n := by
  intro n
  have key : ∀ k, k ≤ n → tot (fun i => f (n - 1 - i)) k = tot f n - tot f (n - k) := by
    intro k
    induction k with
    | zero => intro _; simp [tot]
    | succ k ih =>
      intro hk
      rw [tot, ih (by omega)]
      have e : n - k = (n - (k + 1)) + 1 := by omega
      rw [e, tot, show n - 1 - k = n - (k + 1) by omega]
      omega
  have := key n (Nat.le_refl _)
  rw [Nat.sub_self, tot] at this
  omega
/-- the place of the greatest, the first of several -/
def best (r : Nat → Int) : Nat → Nat
  | 0 => 0
  | k + 1 => if r (best r k) < r k then k else best r k
theorem best_lt (r : Nat → Int) : ∀ n, 0 < n → best r n < n
  | 0, h => by omega
  | n + 1, _ => by
    rw [best]
    split
    · omega
    · rcases Nat.eq_zero_or_pos n with rfl | h
      · simp [best]
      · have := best_lt r n h; omega
theorem best_le (r : Nat → Int) (n : Nat) : best r n ≤ n := by
  rcases Nat.eq_zero_or_pos n with rfl | h
  · simp [best]
  · have := best_lt r n h; omega
theorem best_ge (r : Nat → Int) : ∀ n j, j < n → r j ≤ r (best r n)
  | 0, j, h => by omega
  | n + 1, j, h => by
    rw [best]
    split
    · rename_i hc
      by_cases hj : j = n
      · subst hj; exact Int.le_refl _
      · have := best_ge r n j (by omega); omega
    · rename_i hc
      by_cases hj : j = n
      · subst hj; omega
      · exact best_ge r n j (by omega)
theorem best_congr {p q : Nat → Int} : ∀ n, (∀ i j, i < n → j < n → (q i < q j ↔ p i < p j)) → best q n = best p n
  | 0, _ => rfl
  | n + 1, h => by
    have e := best_congr n (fun i j hi hj => h i j (by omega) (by omega))
    rw [best, best, e]
    have := h (best p n) n (by have := best_le p n; omega) (by omega)
    by_cases hc : p (best p n) < p n
    · rw [if_pos hc, if_pos (this.2 hc)]
    · rw [if_neg hc, if_neg (fun h' => hc (this.1 h'))]
/-- k units more, each for the greatest rest that got none -/
def grow (n : Nat) (s r : Nat → Int) : Nat → (Nat → Int) × (Nat → Int)
  | 0 => (s, r)
  | k + 1 => (up (grow n s r k).1 (best (grow n s r k).2 n) ((grow n s r k).1 (best (grow n s r k).2 n) + 1), up (grow n s r k).2 (best (grow n s r k).2 n) (-1))
def pos (f : Nat → Int) : Nat → Int := fun i => if f i < 0 then 0 else f i
theorem pos_up (f : Nat → Int) (i : Nat) : pos (up f i (-1)) = up (pos f) i 0 := by
  funext j
  by_cases h : j = i
  · subst h; simp [pos, up]
  · simp [pos, up, h]
/-- what holds behind k units -/
structure Grown (n : Nat) (s r : Nat → Int) (W : Int) (L k : Nat) (S R : Nat → Int) : Prop where
  each : ∀ i, i < n → (R i = -1 ∧ S i = s i + 1 ∧ 0 < r i) ∨ (R i = r i ∧ S i = s i)
  sum : tot S n = tot s n + k
  room : W * ((L : Int) - k) + k ≤ tot (pos R) n
  order : ∀ i j, i < n → j < n → R i = -1 → R j ≠ -1 → r j ≤ r i
theorem Grown.more {n : Nat} {s r : Nat → Int} {W : Int} {L k : Nat} {S R : Nat → Int} (h : Grown n s r W L k S R) (hW : 0 < W) (hk : k < L) :
    best R n < n ∧ R (best R n) = r (best R n) ∧ S (best R n) = s (best R n) ∧ 0 < r (best R n) := by
  have hp : 0 < tot (pos R) n := by
    have h1 : W * 1 ≤ W * ((L : Int) - k) := Int.mul_le_mul_of_nonneg_left (by omega) (by omega)
    have := h.room
    omega
  obtain ⟨j, hj, hRj⟩ : ∃ j, j < n ∧ 0 < R j := by
    apply Classical.byContradiction
    intro hno
    have : tot (pos R) n ≤ 0 := tot_le_zero fun i hi => by
      have : ¬ 0 < R i := fun hh => hno ⟨i, hi, hh⟩
      simp only [pos]; split <;> omega
    omega
  have hb := best_lt R n (by omega)
  have hg := best_ge R n j hj
  refine ⟨hb, ?_⟩
  rcases h.each _ hb with ⟨h1, h2, h3⟩ | ⟨h1, h2⟩
  · omega
  · exact ⟨h1, h2, by omega⟩
theorem Grown.step {n : Nat} {s r : Nat → Int} {W : Int} {L k : Nat} {S R : Nat → Int} (h : Grown n s r W L k S R) (hW : 0 < W) (hr : ∀ i, i < n → 0 ≤ r i ∧ r i < W) (hk : k < L) :
    Grown n s r W L (k + 1) (up S (best R n) (S (best R n) + 1)) (up R (best R n) (-1)) := by
  obtain ⟨hb, hRb, hSb, hp⟩ := h.more hW hk
  have hge := best_ge R n
  obtain ⟨b, hbe⟩ : ∃ b, b = best R n := ⟨_, rfl⟩
  rw [← hbe] at hb hRb hSb hp hge ⊢
  refine ⟨fun i hi => ?_, ?_, ?_, fun i j hi hj h1 h2 => ?_⟩
  · by_cases hib : i = b
    · subst hib
      exact Or.inl ⟨up_self _ _ _, by rw [up_self, hSb], hp⟩
    · rw [up_ne _ _ hib, up_ne _ _ hib]; exact h.each i hi
  · rw [tot_up _ _ _ _ hb, h.sum]; omega
  · rw [pos_up, tot_up _ _ _ _ hb]
    have h1 := h.room
    have h2 := (hr b hb).2
    have h3 : pos R b = r b := by simp only [pos]; rw [hRb, if_neg (by omega)]
    have h4 : W * ((L : Int) - k) = W * ((L : Int) - (k + 1 : Nat)) + W := by
      rw [show (L : Int) - k = ((L : Int) - (k + 1 : Nat)) + 1 by omega, Int.mul_add, Int.mul_one]
    omega
  · have hjb : j ≠ b := by rintro rfl; exact h2 (up_self _ _ _)
    rw [up_ne _ _ hjb] at h2
    have hRj : R j = r j := by
      rcases h.each j hj with ⟨e, _⟩ | ⟨e, _⟩
      · exact absurd e h2
      · exact e
    by_cases hib : i = b
    · subst hib
      have := hge j hj
      omega
    · rw [up_ne _ _ hib] at h1
      exact h.order i j hi hj h1 h2
theorem grow_grown {n : Nat} {s r : Nat → Int} {W : Int} {L : Nat} (hW : 0 < W) (hr : ∀ i, i < n → 0 ≤ r i ∧ r i < W) (ht : tot r n = W * L) : ∀ k, k ≤ L → Grown n s r W L k (grow n s r k).1 (grow n s r k).2
  | 0, _ => by
    refine ⟨fun i hi => Or.inr ⟨rfl, rfl⟩, by simp [grow], ?_, fun i j hi hj h1 h2 => ?_⟩
    · have : tot (pos r) n = tot r n := tot_congr n fun i hi => by have := (hr i hi).1; simp only [pos]; rw [if_neg (by omega)]
      simp only [grow]
      rw [this, ht]
      simp
    · have := (hr i hi).1
      simp only [grow] at h1
      omega
  | k + 1, hk => (grow_grown hW hr ht k (by omega)).step hW hr (by omega)
/-- an amount and weights that may be shared -/
structure Fine (a : Int) (x : Nat → Int) (n : Nat) : Prop where
  a0 : 0 ≤ a
  a1 : a ≤ 2147483648
  n1 : n ≤ 16
  x0 : ∀ i, i < n → 0 ≤ x i ∧ x i ≤ 1000
  W0 : 0 < tot x n
def whole (a : Int) (x : Nat → Int) (n : Nat) : Nat → Int := fun i => a * x i / tot x n
def rests (a : Int) (x : Nat → Int) (n : Nat) : Nat → Int := fun i => a * x i % tot x n
def left (a : Int) (x : Nat → Int) (n : Nat) : Nat := (a - tot (whole a x n) n).toNat
def spl (a : Int) (x : Nat → Int) (n : Nat) : Nat → Int := (grow n (whole a x n) (rests a x n) (left a x n)).1
section
variable {a : Int} {x : Nat → Int} {n : Nat}
theorem Fine.rest (h : Fine a x n) : ∀ i, i < n → 0 ≤ rests a x n i ∧ rests a x n i < tot x n := fun i _ => ⟨Int.emod_nonneg _ (by have := h.W0; omega), Int.emod_lt_of_pos _ h.W0⟩
theorem Fine.part (_h : Fine a x n) (i : Nat) : tot x n * whole a x n i + rests a x n i = a * x i := Int.mul_ediv_add_emod _ _
theorem Fine.whole0 (h : Fine a x n) (i : Nat) (hi : i < n) : 0 ≤ whole a x n i := Int.ediv_nonneg (Int.mul_nonneg h.a0 (h.x0 i hi).1) (by have := h.W0; omega)
theorem Fine.eq (h : Fine a x n) : tot x n * tot (whole a x n) n + tot (rests a x n) n = tot x n * a := by
  rw [← tot_mul, ← tot_add, tot_congr (g := fun i => a * x i) n (fun i _ => h.part i), tot_mul, Int.mul_comm]
theorem Fine.sum_le (h : Fine a x n) : tot (whole a x n) n ≤ a := by
  have h1 := h.eq
  have h2 : 0 ≤ tot (rests a x n) n := tot_zero_le fun i hi => (h.rest i hi).1
  have h3 : tot x n * tot (whole a x n) n ≤ tot x n * a := by omega
  exact Int.le_of_mul_le_mul_left h3 h.W0
theorem Fine.left_eq (h : Fine a x n) : ((left a x n : Nat) : Int) = a - tot (whole a x n) n := by
  have := h.sum_le
  unfold left; omega
theorem Fine.rests_sum (h : Fine a x n) : tot (rests a x n) n = tot x n * (left a x n : Nat) := by
  rw [h.left_eq, Int.mul_sub]
  have := h.eq
  omega
theorem Fine.n0 (h : Fine a x n) : 0 < n := by
  rcases Nat.eq_zero_or_pos n with rfl | h0
  · have := h.W0; simp [tot] at this
  · exact h0
theorem Fine.left_lt (h : Fine a x n) : left a x n < n := by
  have h1 := h.rests_sum
  have h2 : tot (rests a x n) n ≤ n * (tot x n - 1) := by
    rw [← tot_const]
    exact tot_le n fun i hi => by have := (h.rest i hi).2; omega
  rcases Nat.lt_or_ge (left a x n) n with hl | hl
  · exact hl
  · exfalso
    have h3 : tot x n * (n : Int) ≤ tot x n * (left a x n : Nat) := Int.mul_le_mul_of_nonneg_left (by omega) (by have := h.W0; omega)
    have h4 : (n : Int) * (tot x n - 1) = tot x n * n - n := by rw [Int.mul_sub, Int.mul_comm, Int.mul_one]
    have := h.n0
    omega
theorem Fine.grown (h : Fine a x n) (k : Nat) (hk : k ≤ left a x n) : Grown n (whole a x n) (rests a x n) (tot x n) (left a x n) k (grow n (whole a x n) (rests a x n) k).1 (grow n (whole a x n) (rests a x n) k).2 := grow_grown h.W0 h.rest h.rests_sum k hk
theorem Fine.Wle (h : Fine a x n) : tot x n ≤ 16000 := by
  have h1 : tot x n ≤ n * 1000 := by
    rw [← tot_const]; exact tot_le n fun i hi => (h.x0 i hi).2
  have := h.n1
  omega
theorem Fine.prod (h : Fine a x n) (i : Nat) (hi : i < n) : 0 ≤ a * x i ∧ a * x i ≤ 2147483648000 := by
  obtain ⟨h0, h1⟩ := h.x0 i hi
  refine ⟨Int.mul_nonneg h.a0 h0, ?_⟩
  have h2 : a * x i ≤ 2147483648 * x i := Int.mul_le_mul_of_nonneg_right h.a1 h0
  omega
theorem Fine.whole_le (h : Fine a x n) (i : Nat) (hi : i < n) : whole a x n i ≤ a := by
  have h1 := tot_one hi h.whole0
  have := h.sum_le
  omega
theorem Fine.each (h : Fine a x n) (i : Nat) (hi : i < n) : (spl a x n i = whole a x n i + 1 ∧ 0 < rests a x n i) ∨ spl a x n i = whole a x n i := by
  rcases (h.grown _ (Nat.le_refl _)).each i hi with ⟨_, h1, h2⟩ | ⟨_, h1⟩
  · exact Or.inl ⟨h1, h2⟩
  · exact Or.inr h1
theorem Fine.sum (h : Fine a x n) : tot (spl a x n) n = a := by
  have := (h.grown _ (Nat.le_refl _)).sum
  rw [h.left_eq] at this
  unfold spl; omega
theorem Fine.spl0 (h : Fine a x n) (i : Nat) (hi : i < n) : 0 ≤ spl a x n i := by
  have := h.whole0 i hi
  rcases h.each i hi with ⟨e, _⟩ | e <;> omega
theorem Fine.spl_le (h : Fine a x n) (i : Nat) (hi : i < n) : spl a x n i ≤ a := by
  have h1 := tot_one hi h.spl0
  rw [h.sum] at h1; exact h1
theorem Fine.nothing (h : Fine a x n) (i : Nat) (hi : i < n) (h0 : x i = 0) : spl a x n i = 0 := by
  have hp := h.part i
  have hr := h.rest i hi
  have hw := h.whole0 i hi
  rw [h0, Int.mul_zero] at hp
  have h1 : 0 ≤ tot x n * whole a x n i := Int.mul_nonneg (by have := h.W0; omega) hw
  have h2 : whole a x n i = 0 := by
    have : tot x n * whole a x n i = 0 := by omega
    rcases Int.mul_eq_zero.1 this with e | e
    · have := h.W0; omega
    · exact e
  rcases h.each i hi with ⟨_, e⟩ | e <;> omega
theorem Fine.far (h : Fine a x n) (i : Nat) (hi : i < n) : spl a x n i * tot x n - a * x i < tot x n ∧ - tot x n < spl a x n i * tot x n - a * x i := by
  have hp := h.part i
  have hr := h.rest i hi
  rcases h.each i hi with ⟨e, e2⟩ | e
  · rw [e, Int.add_mul, Int.mul_comm (whole a x n i)]; omega
  · rw [e, Int.mul_comm (whole a x n i)]; omega
theorem Fine.fair (h : Fine a x n) (i k : Nat) (hi : i < n) (hk : k < n) (hx : x i < x k) : spl a x n i ≤ spl a x n k := by
  have hm : whole a x n i ≤ whole a x n k := by
    have : a * x i ≤ a * x k := Int.mul_le_mul_of_nonneg_left (by omega) h.a0
    exact Int.ediv_le_ediv h.W0 this
  have gi := (h.grown _ (Nat.le_refl _)).each i hi
  have gk := (h.grown _ (Nat.le_refl _)).each k hk
  have go := (h.grown _ (Nat.le_refl _)).order i k hi hk
  change (_ ∧ spl a x n i = _ ∧ _) ∨ (_ ∧ spl a x n i = _) at gi
  change (_ ∧ spl a x n k = _ ∧ _) ∨ (_ ∧ spl a x n k = _) at gk
  rcases gi with ⟨i1, i2, i3⟩ | ⟨i1, i2⟩
  · rcases gk with ⟨k1, k2, k3⟩ | ⟨k1, k2⟩
    · omega
    · have hr := go i1 (by rw [k1]; have := (h.rest k hk).1; omega)
      have hpi := h.part i
      have hpk := h.part k
      by_cases he : whole a x n i = whole a x n k
      · exfalso
        rw [he] at hpi
        have hd : a * x k ≤ a * x i := by omega
        have ha : 0 < a := by
          rcases Int.lt_or_le 0 a with ha | ha
          · exact ha
          · have : a = 0 := by have := h.a0; omega
            subst this
            have e0 : rests 0 x n i = 0 := by simp [rests]
            omega
        have := Int.le_of_mul_le_mul_left hd ha
        omega
      · omega
  · rcases gk with ⟨k1, k2, k3⟩ | ⟨k1, k2⟩ <;> omega
end
/-- weights c times as great -/
theorem grow_scale {n : Nat} {s r : Nat → Int} {c : Int} (hc : 0 < c) (hr : ∀ i, i < n → 0 ≤ r i) : ∀ k,
    (∀ i, i < n → (grow n s (fun i => c * r i) k).1 i = (grow n s r k).1 i) ∧
    (∀ i, i < n → ((grow n s r k).2 i = -1 ∧ (grow n s (fun i => c * r i) k).2 i = -1) ∨ (0 ≤ (grow n s r k).2 i ∧ (grow n s (fun i => c * r i) k).2 i = c * (grow n s r k).2 i))
  | 0 => ⟨fun i _ => rfl, fun i hi => Or.inr ⟨hr i hi, rfl⟩⟩
  | k + 1 => by
    obtain ⟨h1, h2⟩ := grow_scale hc hr k
    have hb : best (grow n s (fun i => c * r i) k).2 n = best (grow n s r k).2 n := best_congr n fun i j hi hj => by
      rcases h2 i hi with ⟨i1, i2⟩ | ⟨i1, i2⟩ <;> rcases h2 j hj with ⟨j1, j2⟩ | ⟨j1, j2⟩
      · rw [i2, j2, i1, j1]
      · rw [i2, j2]
        have := Int.mul_nonneg (Int.le_of_lt hc) j1
        omega
      · rw [i2, j2]
        have := Int.mul_nonneg (Int.le_of_lt hc) i1
        omega
      · rw [i2, j2]
        exact ⟨fun h => Int.lt_of_mul_lt_mul_left h (Int.le_of_lt hc), fun h => Int.mul_lt_mul_of_pos_left h hc⟩
    simp only [grow]
    rw [hb]
    refine ⟨fun i hi => ?_, fun i hi => ?_⟩
    · by_cases he : i = best (grow n s r k).2 n
      · rw [he, up_self, up_self, h1 _ (by rw [← he]; exact hi)]
      · rw [up_ne _ _ he, up_ne _ _ he]; exact h1 i hi
    · by_cases he : i = best (grow n s r k).2 n
      · rw [he, up_self, up_self]; exact Or.inl ⟨rfl, rfl⟩
      · rw [up_ne _ _ he, up_ne _ _ he]; exact h2 i hi
theorem spl_scale {a : Int} {x : Nat → Int} {n : Nat} {c : Int} (hc : 0 < c) (h : Fine a x n) (i : Nat) (hi : i < n) : spl a (fun i => c * x i) n i = spl a x n i := by
  have hT : tot (fun i => c * x i) n = c * tot x n := tot_mul c x n
  have hw : whole a (fun i => c * x i) n = whole a x n := by
    funext j
    simp only [whole]
    rw [hT, show a * (c * x j) = c * (a * x j) by rw [Int.mul_left_comm]]
    exact Int.mul_ediv_mul_of_pos _ _ hc
  have hr : rests a (fun i => c * x i) n = fun j => c * rests a x n j := by
    funext j
    simp only [rests]
    rw [hT, show a * (c * x j) = c * (a * x j) by rw [Int.mul_left_comm]]
    exact Int.mul_emod_mul_of_pos _ _ hc
  have hl : left a (fun i => c * x i) n = left a x n := by unfold left; rw [hw]
  unfold spl
  rw [hw, hr, hl]
  exact (grow_scale hc (fun i hi => (h.rest i hi).1) _).1 i hi
/-- of more, hardly less -/
theorem spl_more {a b : Int} {x : Nat → Int} {n : Nat} (h : Fine a x n) (h' : Fine b x n) (hab : a ≤ b) (i : Nat) (hi : i < n) : spl a x n i - 1 ≤ spl b x n i := by
  have hm : whole a x n i ≤ whole b x n i := by
    have : a * x i ≤ b * x i := Int.mul_le_mul_of_nonneg_right hab (h.x0 i hi).1
    exact Int.ediv_le_ediv h.W0 this
  rcases h.each i hi with ⟨e, _⟩ | e <;> rcases h'.each i hi with ⟨e', _⟩ | e' <;> omega
/-- the other way round -/
theorem Fine.rev {a : Int} {x : Nat → Int} {n : Nat} (h : Fine a x n) : Fine a (fun i => x (n - 1 - i)) n :=
  ⟨h.a0, h.a1, h.n1, fun i hi => h.x0 _ (by omega), by rw [tot_rev]; exact h.W0⟩
theorem spl_rev {a : Int} {x : Nat → Int} {n : Nat} (h : Fine a x n) (i : Nat) (hi : i < n) :
    -1 ≤ spl a x n i - spl a (fun i => x (n - 1 - i)) n (n - 1 - i) ∧ spl a x n i - spl a (fun i => x (n - 1 - i)) n (n - 1 - i) ≤ 1 := by
  have hw : whole a (fun i => x (n - 1 - i)) n (n - 1 - i) = whole a x n i := by
    simp only [whole]
    rw [tot_rev, show n - 1 - (n - 1 - i) = i by omega]
  have hj : n - 1 - i < n := by omega
  rcases h.each i hi with ⟨e, _⟩ | e <;> rcases h.rev.each _ hj with ⟨e', _⟩ | e' <;> omega
theorem spl_rev_sum {a : Int} {x : Nat → Int} {n : Nat} (h : Fine a x n) : tot (fun i => spl a x n i - spl a (fun i => x (n - 1 - i)) n (n - 1 - i)) n = 0 := by
  have h1 := tot_add (fun i => spl a x n i - spl a (fun i => x (n - 1 - i)) n (n - 1 - i)) (fun i => spl a (fun i => x (n - 1 - i)) n (n - 1 - i)) n
  have h2 : tot (fun i => spl a (fun i => x (n - 1 - i)) n (n - 1 - i)) n = a := by rw [tot_rev (spl a (fun i => x (n - 1 - i)) n)]; exact h.rev.sum
  have h3 : tot (fun i => spl a x n i - spl a (fun i => x (n - 1 - i)) n (n - 1 - i) + spl a (fun i => x (n - 1 - i)) n (n - 1 - i)) n = a := by
    rw [tot_congr (g := spl a x n) n (fun i _ => by omega)]; exact h.sum
  omega
/-- the sum so far, while each is a whole number of 64 bits -/
def acc (x : Nat → Int) : Nat → Option Int
  | 0 => some 0
  | k + 1 => match acc x k with
    | none => none
    | some s => if -9223372036854775808 ≤ s + x k ∧ s + x k ≤ 9223372036854775807 then some (s + x k) else none
theorem acc_bound (x : Nat → Int) : ∀ k s, acc x k = some s → -9223372036854775808 ≤ s ∧ s ≤ 9223372036854775807
  | 0, s, h => by
    simp only [acc, Option.some.injEq] at h
    omega
  | k + 1, s, h => by
    rw [acc] at h
    split at h
    · cases h
    · split at h
      · simp only [Option.some.injEq] at h
        omega
      · cases h
theorem acc_in {x : Nat → Int} {k : Nat} {s : Int} (h : acc x k = some s) (h0 : -9223372036854775808 ≤ s + x k ∧ s + x k ≤ 9223372036854775807) : acc x (k + 1) = some (s + x k) := by
  rw [acc, h]; exact if_pos h0
theorem acc_out {x : Nat → Int} {k : Nat} {s : Int} (h : acc x k = some s) (h0 : ¬ (-9223372036854775808 ≤ s + x k ∧ s + x k ≤ 9223372036854775807)) : acc x (k + 1) = none := by
  rw [acc, h]; exact if_neg h0
theorem acc_none {x : Nat → Int} {k : Nat} (h : acc x k = none) : ∀ n, k ≤ n → acc x n = none
  | 0, hn => by
    obtain rfl : k = 0 := by omega
    exact h
  | n + 1, hn => by
    by_cases he : k = n + 1
    · subst he; exact h
    · rw [acc, acc_none h n (by omega)]
end Go.Proofs.Ytgcikobloimmnaa
