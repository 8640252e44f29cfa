/-
  Plain mathematics of the sum: a step is one to one and goes along with exclusive or; bytes with their sum behind come to 0; a change within 16 bits never comes to 0.
-/
import Derived.Laws.BitsLemmas
namespace Go.Proofs.Ytjkpijinpfimiaa

def tick (s : Nat) : Nat := (2 * s % 65536) ^^^ (if 32768 ≤ s then 4129 else 0)
def ticks : Nat → Nat → Nat
  | 0, s => s
  | n + 1, s => tick (ticks n s)
def stir (s x : Nat) : Nat := ticks 8 (s ^^^ (256 * x))
def crc (s : Nat) (bs : List Nat) : Nat := bs.foldl stir s
theorem xor_lt16 {a b : Nat} (ha : a < 65536) (hb : b < 65536) : a ^^^ b < 65536 := Nat.xor_lt_two_pow (n := 16) ha hb
theorem tick_lt (s : Nat) : tick s < 65536 := by
  unfold tick
  refine xor_lt16 (Nat.mod_lt _ (by omega)) ?_
  split <;> omega
theorem ticks_lt (n s : Nat) (h : s < 65536) : ticks n s < 65536 := by
  cases n with
  | zero => exact h
  | succ n => exact tick_lt _
theorem top_bit {s : Nat} (h : s < 65536) : s.testBit 15 = decide (32768 ≤ s) := by
  rw [Nat.testBit_eq_decide_div_mod_eq]
  congr 1
  simp only [eq_iff_iff]
  have : (2 : Nat) ^ 15 = 32768 := by decide
  rw [this]
  omega
theorem tick_xor {a b : Nat} (ha : a < 65536) (hb : b < 65536) : tick (a ^^^ b) = tick a ^^^ tick b := by
  have e1 : 2 * (a ^^^ b) % 65536 = (2 * a % 65536) ^^^ (2 * b % 65536) := by
    have h2 : 2 * (a ^^^ b) = (2 * a) ^^^ (2 * b) := by
      have := Nat.shiftLeft_xor_distrib (a := a) (b := b) (i := 1)
      simpa [Nat.shiftLeft_eq, Nat.mul_comm] using this
    rw [h2]
    exact Nat.xor_mod_two_pow (n := 16)
  have e2 : decide (32768 ≤ a ^^^ b) = (decide (32768 ≤ a) ^^ decide (32768 ≤ b)) := by
    rw [← top_bit (xor_lt16 ha hb), Nat.testBit_xor, top_bit ha, top_bit hb]
  unfold tick
  rw [e1]
  by_cases h1 : 32768 ≤ a <;> by_cases h2 : 32768 ≤ b <;> simp only [h1, h2, decide_true, decide_false, Bool.xor_true, Bool.xor_false, Bool.not_true, Bool.not_false, decide_eq_true_eq, decide_eq_false_iff_not] at e2 <;> simp only [h1, h2, e2, if_true, if_false, Nat.xor_zero]
  · rw [Nat.xor_assoc, ← Nat.xor_assoc 4129, Nat.xor_comm 4129, Nat.xor_assoc, Nat.xor_self, Nat.xor_zero]
  · rw [Nat.xor_assoc, Nat.xor_comm _ 4129, ← Nat.xor_assoc]
  · rw [Nat.xor_assoc]
theorem ticks_xor (n : Nat) {a b : Nat} (ha : a < 65536) (hb : b < 65536) : ticks n (a ^^^ b) = ticks n a ^^^ ticks n b := by
  induction n with
  | zero => rfl
  | succ n ih => simp only [ticks, ih, tick_xor (ticks_lt n a ha) (ticks_lt n b hb)]
theorem ticks_add (m n s : Nat) : ticks (m + n) s = ticks m (ticks n s) := by
  induction m with
  | zero => rw [Nat.zero_add]; rfl
  | succ m ih => rw [Nat.succ_add]; simp only [ticks, ih]
theorem tick_small {s : Nat} (h : s < 32768) : tick s = 2 * s := by
  unfold tick
  rw [if_neg (by omega), Nat.xor_zero]
  omega
theorem tick_odd {s : Nat} : tick s % 2 = if 32768 ≤ s then 1 else 0 := by
  have h := Nat.xor_mod_two_pow (a := 2 * s % 65536) (b := if 32768 ≤ s then 4129 else 0) (n := 1)
  unfold tick
  have e : (2 : Nat) ^ 1 = 2 := rfl
  rw [e] at h
  rw [h]
  have h0 : 2 * s % 65536 % 2 = 0 := by omega
  rw [h0]
  split <;> simp
theorem tick_nought {s : Nat} (h : tick s = 0) (hs : s < 65536) : s = 0 := by
  have ho := tick_odd (s := s)
  rw [h] at ho
  by_cases h1 : 32768 ≤ s
  · simp [h1] at ho
  · rw [tick_small (by omega)] at h
    omega
theorem ticks_nought (n : Nat) {s : Nat} (h : ticks n s = 0) (hs : s < 65536) : s = 0 := by
  induction n with
  | zero => exact h
  | succ n ih => exact ih (tick_nought h (ticks_lt n s hs))
theorem tick_zero : tick 0 = 0 := by decide
theorem ticks_zero (n : Nat) : ticks n 0 = 0 := by
  induction n with
  | zero => rfl
  | succ n ih => simp only [ticks, ih, tick_zero]
theorem ticks_small (n x : Nat) (h : x * 2 ^ n < 65536) : ticks n x = x * 2 ^ n := by
  induction n with
  | zero => simp [ticks]
  | succ n ih =>
    rw [Nat.pow_succ] at h ⊢
    have h1 : x * (2 ^ n * 2) = 2 * (x * 2 ^ n) := by rw [← Nat.mul_assoc, Nat.mul_comm]
    simp only [ticks]
    rw [ih (by omega), tick_small (by omega)]
    omega
theorem stir_lt (s x : Nat) : stir s x < 65536 := tick_lt _
theorem crc_lt (bs : List Nat) : ∀ (s : Nat), s < 65536 → crc s bs < 65536 := by
  induction bs with
  | nil => intro s h; exact h
  | cons x bs ih => intro s _; exact ih _ (stir_lt _ _)
theorem stir_two {s hi lo : Nat} (hs : s < 65536) (h1 : hi < 256) (h2 : lo < 256) : stir (stir s hi) lo = ticks 16 (s ^^^ (256 * hi + lo)) := by
  have e1 : 256 * lo = ticks 8 lo := by rw [ticks_small 8 lo (by omega)]; omega
  have hx : s ^^^ 256 * hi < 65536 := xor_lt16 hs (by omega)
  have e2 : 256 * hi + lo = 256 * hi ^^^ lo := by
    have := Nat.shiftLeft_add_eq_or_of_lt (i := 8) (b := lo) (by omega) hi
    rw [Nat.shiftLeft_eq, Nat.mul_comm] at this
    have e : (2 : Nat) ^ 8 = 256 := rfl
    rw [e] at this
    rw [this]
    apply Nat.eq_of_testBit_eq
    intro i
    rw [Nat.testBit_or, Nat.testBit_xor]
    have e256 : 256 * hi = 2 ^ 8 * hi := by rw [e]
    rw [e256, Nat.testBit_two_pow_mul]
    by_cases hi8 : 8 ≤ i
    · have : lo.testBit i = false := Nat.testBit_lt_two_pow (Nat.lt_of_lt_of_le h2 (by rw [← e]; exact Nat.pow_le_pow_right (by omega) hi8))
      simp [this]
    · simp [hi8]
  have e3 : stir (stir s hi) lo = ticks 8 (ticks 8 (s ^^^ 256 * hi) ^^^ 256 * lo) := rfl
  rw [e3, e1, ← ticks_xor 8 hx (by omega), ← ticks_add, Nat.xor_assoc, ← e2]
theorem crc_append (s : Nat) (a b : List Nat) : crc s (a ++ b) = crc (crc s a) b := List.foldl_append
theorem crc_sealed {s hi lo : Nat} (bs : List Nat) (hs : s < 65536) (h1 : hi < 256) (h2 : lo < 256) : crc s (bs ++ [hi, lo]) = 0 ↔ crc s bs = 256 * hi + lo := by
  rw [crc_append]
  have hc := crc_lt bs s hs
  have e : crc (crc s bs) [hi, lo] = stir (stir (crc s bs) hi) lo := rfl
  rw [e, stir_two hc h1 h2]
  constructor
  · intro h
    have := ticks_nought 16 h (xor_lt16 hc (by omega))
    have h3 := congrArg (· ^^^ (256 * hi + lo)) this
    simpa [Nat.xor_assoc] using h3
  · intro h
    rw [h, Nat.xor_self, ticks_zero]
/-- bit by bit -/
def run (f : Nat → Bool) : Nat → Nat → Nat
  | 0, s => s
  | n + 1, s => tick (run f n s ^^^ (if f n then 32768 else 0))
theorem run_lt (f : Nat → Bool) (n s : Nat) (h : s < 65536) : run f n s < 65536 := by
  cases n with
  | zero => exact h
  | succ n => exact tick_lt _
theorem bit_lt (b : Bool) : (if b then 32768 else 0) < 65536 := by cases b <;> decide
theorem run_congr {f g : Nat → Bool} (n s : Nat) (h : ∀ i, i < n → f i = g i) : run f n s = run g n s := by
  induction n with
  | zero => rfl
  | succ n ih => simp only [run]; rw [ih (fun i hi => h i (by omega)), h n (by omega)]
theorem run_add (f : Nat → Bool) (m n s : Nat) : run f (m + n) s = run (fun i => f (m + i)) n (run f m s) := by
  induction n with
  | zero => rfl
  | succ n ih => rw [← Nat.add_assoc]; simp only [run]; rw [ih]
theorem run_xor (f g : Nat → Bool) (n : Nat) {s t : Nat} (hs : s < 65536) (ht : t < 65536) : run (fun i => f i ^^ g i) n (s ^^^ t) = run f n s ^^^ run g n t := by
  induction n with
  | zero => rfl
  | succ n ih =>
    simp only [run]
    rw [ih, ← tick_xor (xor_lt16 (run_lt f n s hs) (bit_lt _)) (xor_lt16 (run_lt g n t ht) (bit_lt _))]
    congr 1
    have hb : (if (f n ^^ g n) = true then 32768 else 0) = (if f n = true then 32768 else 0) ^^^ (if g n = true then 32768 else 0) := by cases f n <;> cases g n <;> decide
    rw [hb, Nat.xor_assoc, Nat.xor_assoc]
    congr 1
    rw [← Nat.xor_assoc, ← Nat.xor_assoc, Nat.xor_comm (run g n t)]
theorem run_false (n s : Nat) : run (fun _ => false) n s = ticks n s := by
  induction n with
  | zero => rfl
  | succ n ih => simp only [run, ticks, ih]; simp
theorem run_byte0 : ∀ x, x < 256 → run (fun i => x.testBit (7 - i)) 8 0 = ticks 8 (256 * x) := by decide +kernel
theorem run_byte {t x : Nat} (ht : t < 65536) (hx : x < 256) : run (fun i => x.testBit (7 - i)) 8 t = stir t x := by
  have h := run_xor (fun _ => false) (fun i => x.testBit (7 - i)) 8 ht (show 0 < 65536 by omega)
  simp only [Bool.false_xor, Nat.xor_zero] at h
  rw [h, run_false, run_byte0 x hx, stir, ticks_xor 8 ht (by omega)]
/-- bit i of bytes, the first byte's highest being 0 -/
def bitAt (bs : List Nat) (i : Nat) : Bool := (bs.getD (i / 8) 0).testBit (7 - i % 8)
theorem crc_run (bs : List Nat) : (∀ x ∈ bs, x < 256) → ∀ s, s < 65536 → crc s bs = run (bitAt bs) (8 * bs.length) s := by
  induction bs with
  | nil => intro _ s _; rfl
  | cons x bs ih =>
    intro h s hs
    have h0 : crc s (x :: bs) = crc (stir s x) bs := rfl
    have hl : 8 * (x :: bs).length = 8 + 8 * bs.length := by simp only [List.length_cons]; omega
    rw [h0, ih (fun y hy => h y (List.mem_cons_of_mem _ hy)) _ (stir_lt _ _), hl, run_add]
    have e1 : run (bitAt (x :: bs)) 8 s = stir s x := by
      rw [← run_byte hs (h x (List.mem_cons_self ..))]
      refine run_congr 8 s fun i hi => ?_
      have a1 : i / 8 = 0 := by omega
      have a2 : i % 8 = i := by omega
      simp [bitAt, a1, a2]
    rw [e1]
    refine run_congr _ _ fun i hi => ?_
    have a1 : (8 + i) / 8 = i / 8 + 1 := by omega
    have a2 : (8 + i) % 8 = i % 8 := by omega
    simp [bitAt, a1, a2]
theorem dvd_xor {k a b : Nat} (ha : 2 ^ k ∣ a) (hb : 2 ^ k ∣ b) : 2 ^ k ∣ a ^^^ b := by
  apply Nat.dvd_of_mod_eq_zero
  rw [Nat.xor_mod_two_pow, Nat.mod_eq_zero_of_dvd ha, Nat.mod_eq_zero_of_dvd hb, Nat.xor_self]
theorem tick_low {k s : Nat} (hs : s < 65536) (h : 2 ^ (k + 1) ∣ tick s) : 2 ^ k ∣ s := by
  have h2 : tick s % 2 = 0 := Nat.mod_eq_zero_of_dvd (Nat.dvd_trans ⟨2 ^ k, by rw [Nat.pow_succ, Nat.mul_comm]⟩ h)
  rw [tick_odd] at h2
  by_cases h1 : 32768 ≤ s
  · simp [h1] at h2
  · rw [tick_small (by omega), Nat.pow_succ, Nat.mul_comm 2 s] at h
    exact Nat.dvd_of_mul_dvd_mul_right (by omega) h
theorem run_low (e : Nat → Bool) {k m : Nat} (hk : k ≤ 15) (h : 2 ^ (k + 1) ∣ run e (m + 1) 0) : 2 ^ k ∣ run e m 0 := by
  have hr := run_lt e m 0 (by omega)
  have h1 := tick_low (xor_lt16 hr (bit_lt (e m))) h
  have h2 : 2 ^ k ∣ (if e m then 32768 else 0) := by
    cases e m
    · exact ⟨0, rfl⟩
    · have : (32768 : Nat) = 2 ^ 15 := by decide
      simp only [if_true]
      rw [this]
      exact Nat.pow_dvd_pow 2 hk
  have h3 := dvd_xor h1 h2
  rwa [Nat.xor_assoc, Nat.xor_self, Nat.xor_zero] at h3
theorem run_low_many (e : Nat → Bool) (m : Nat) : ∀ j, j ≤ 15 → run e (m + j) 0 = 0 → 2 ^ (16 - j) ∣ run e m 0 := by
  have key : ∀ j k, j + k ≤ 16 → 2 ^ (j + k) ∣ run e (m + j) 0 → 2 ^ k ∣ run e m 0 := by
    intro j
    induction j with
    | zero => intro k _ h; simpa using h
    | succ j ih =>
      intro k hk h
      refine ih k (by omega) ?_
      refine run_low e (k := j + k) (by omega) ?_
      rw [← Nat.add_assoc] at h
      have : j + 1 + k = j + k + 1 := by omega
      rw [← this]
      exact h
  intro j hj h
  refine key j (16 - j) (by omega) ?_
  rw [h]
  exact ⟨0, rfl⟩
theorem run_none (e : Nat → Bool) (n : Nat) (h : ∀ i, i < n → e i = false) : run e n 0 = 0 := by
  rw [run_congr (g := fun _ => false) n 0 h, run_false, ticks_zero]
theorem run_back (e : Nat → Bool) (m d : Nat) (h : ∀ i, m ≤ i → e i = false) (h0 : run e (m + d) 0 = 0) : run e m 0 = 0 := by
  rw [run_add, run_congr (g := fun _ => false) d _ (fun i _ => h (m + i) (by omega)), run_false] at h0
  exact ticks_nought d h0 (run_lt e m 0 (by omega))
/-- what changes within 16 bits alone never comes to 0, but where nothing is changed -/
theorem run_burst (e : Nat → Bool) (p N : Nat) (hlo : ∀ i, i < p → e i = false) (hhi : ∀ i, p + 16 ≤ i → e i = false) (h0 : run e N 0 = 0) : ∀ i, i < N → e i = false := by
  intro i
  induction i using Nat.strongRecOn with
  | _ i ih =>
    intro hi
    cases he : e i with
    | false => rfl
    | true =>
      exfalso
      have hp : p ≤ i := by
        rcases Nat.lt_or_ge i p with h | h
        · rw [hlo i h] at he; cases he
        · exact h
      have hz : run e i 0 = 0 := run_none e i fun j hj => ih j hj (by omega)
      have h1 : run e (i + 1) 0 = 4129 := by simp only [run, hz, he]; decide
      have fin : ∀ j, j ≤ 15 → run e (i + 1 + j) 0 = 0 → False := by
        intro j hj h
        have := run_low_many e (i + 1) j hj h
        rw [h1] at this
        have h2 : 2 ∣ 4129 := Nat.dvd_trans ⟨2 ^ (15 - j), by rw [Nat.mul_comm, ← Nat.pow_succ]; congr 1; omega⟩ this
        omega
      rcases Nat.lt_or_ge N (i + 17) with h | h
      · refine fin (N - (i + 1)) (by omega) ?_
        have : i + 1 + (N - (i + 1)) = N := by omega
        rw [this]; exact h0
      · refine fin 15 (by omega) ?_
        refine run_back e (i + 1 + 15) (N - (i + 16)) (fun j hj => hhi j (by omega)) ?_
        have : i + 1 + 15 + (N - (i + 16)) = N := by omega
        rw [this]; exact h0
/-- one bit turned -/
def flip (bs : List Nat) (p : Nat) : List Nat := bs.set (p / 8) ((bs.getD (p / 8) 0) ^^^ (128 / 2 ^ (p % 8)))
theorem flip_length (bs : List Nat) (p : Nat) : (flip bs p).length = bs.length := by simp [flip]
theorem flip_lt (bs : List Nat) (p : Nat) (h : ∀ x ∈ bs, x < 256) : ∀ x ∈ flip bs p, x < 256 := by
  intro x hx
  rcases List.mem_or_eq_of_mem_set hx with h1 | rfl
  · exact h x h1
  · refine Nat.xor_lt_two_pow (n := 8) ?_ ?_
    · by_cases hp : p / 8 < bs.length
      · rw [List.getD_eq_getElem?_getD, List.getElem?_eq_getElem hp]; exact h _ (List.getElem_mem hp)
      · rw [List.getD_eq_getElem?_getD, List.getElem?_eq_none (by omega)]; decide
    · exact Nat.lt_of_le_of_lt (Nat.div_le_self _ _) (by decide)
theorem turn_bit (p : Nat) (hp : p < 8) (i : Nat) : (128 / 2 ^ p).testBit i = decide (i = 7 - p) := by
  have : 128 / 2 ^ p = 2 ^ (7 - p) := by
    have h : ∀ p, p < 8 → 128 / 2 ^ p = 2 ^ (7 - p) := by decide
    exact h p hp
  rw [this, Nat.testBit_two_pow]
  congr 1
  simp only [eq_iff_iff]
  omega
theorem bitAt_flip (bs : List Nat) (p i : Nat) (hp : p < 8 * bs.length) : bitAt (flip bs p) i = (bitAt bs i ^^ decide (i = p)) := by
  unfold bitAt flip
  by_cases hq : p / 8 = i / 8
  · have hl : i / 8 < bs.length := by omega
    rw [hq, List.getD_eq_getElem?_getD, List.getElem?_set_self hl, Option.getD_some, Nat.testBit_xor, turn_bit _ (Nat.mod_lt _ (by omega))]
    congr 1
    congr 1
    simp only [eq_iff_iff]
    omega
  · rw [List.getD_eq_getElem?_getD, List.getElem?_set_ne hq, ← List.getD_eq_getElem?_getD]
    have : ¬ i = p := fun h => hq (by rw [h])
    simp [this]
/-- is one of the first k set? -/
def anyB (f : Nat → Bool) : Nat → Bool
  | 0 => false
  | k + 1 => anyB f k || f k
theorem anyB_false {f : Nat → Bool} {k : Nat} (h : anyB f k = false) : ∀ j, j < k → f j = false := by
  induction k with
  | zero => intro j hj; omega
  | succ k ih =>
    simp only [anyB, Bool.or_eq_false_iff] at h
    intro j hj
    rcases Nat.lt_succ_iff_lt_or_eq.1 hj with h1 | rfl
    · exact ih h.1 j h1
    · exact h.2
theorem anyB_true {f : Nat → Bool} {k : Nat} (h : anyB f k = true) : ∃ j, j < k ∧ f j = true := by
  induction k with
  | zero => cases h
  | succ k ih =>
    simp only [anyB, Bool.or_eq_true] at h
    rcases h with h | h
    · obtain ⟨j, hj, hf⟩ := ih h
      exact ⟨j, by omega, hf⟩
    · exact ⟨k, by omega, h⟩
/-- the bits f turned, from p on, k of them -/
def Bent (bs ys : List Nat) (p : Nat) (f : Nat → Bool) (k : Nat) : Prop := ys.length = bs.length ∧ (∀ x ∈ ys, x < 256) ∧ ∀ i, bitAt ys i = (bitAt bs i ^^ (decide (p ≤ i ∧ i < p + k) && f (i - p)))
theorem Bent.zero {bs : List Nat} {p : Nat} {f : Nat → Bool} (h : ∀ x ∈ bs, x < 256) : Bent bs bs p f 0 :=
  ⟨rfl, h, fun i => by
    have : ¬ (p ≤ i ∧ i < p + 0) := by omega
    rw [decide_eq_false this, Bool.false_and, Bool.xor_false]⟩
theorem Bent.flip {bs ys : List Nat} {p k : Nat} {f : Nat → Bool} (h : Bent bs ys p f k) (hp : p + k < 8 * bs.length) (hf : f k = true) : Bent bs (flip ys (p + k)) p f (k + 1) := by
  refine ⟨by rw [flip_length]; exact h.1, flip_lt _ _ h.2.1, fun i => ?_⟩
  rw [bitAt_flip _ _ _ (by rw [h.1]; exact hp), h.2.2 i]
  by_cases hi : i = p + k
  · subst hi
    have a1 : ¬ (p ≤ p + k ∧ p + k < p + k) := by omega
    have a2 : p ≤ p + k ∧ p + k < p + (k + 1) := by omega
    have a3 : p + k - p = k := by omega
    simp [a3, hf]
  · have : (p ≤ i ∧ i < p + k) ↔ (p ≤ i ∧ i < p + (k + 1)) := by omega
    simp [hi, this]
theorem Bent.same {bs ys : List Nat} {p k : Nat} {f : Nat → Bool} (h : Bent bs ys p f k) (hf : f k = false) : Bent bs ys p f (k + 1) := by
  refine ⟨h.1, h.2.1, fun i => ?_⟩
  rw [h.2.2 i]
  by_cases hi : i = p + k
  · subst hi
    have a1 : ¬ (p ≤ p + k ∧ p + k < p + k) := by omega
    have a3 : p + k - p = k := by omega
    simp [a3, hf]
  · have : (p ≤ i ∧ i < p + k) ↔ (p ≤ i ∧ i < p + (k + 1)) := by omega
    simp [this]
/-- bytes whose sum is 0, of which at most 16 bits in a row are turned: the sum is 0 just where none is -/
theorem Bent.sum {bs ys : List Nat} {p k s : Nat} {f : Nat → Bool} (h : Bent bs ys p f k) (hk : k ≤ 16) (hpk : p + k ≤ 8 * bs.length) (hs : s < 65536) (h256 : ∀ x ∈ bs, x < 256) (h0 : crc s bs = 0) : crc s ys = 0 ↔ anyB f k = false := by
  have hx : crc s ys = run (fun i => decide (p ≤ i ∧ i < p + k) && f (i - p)) (8 * bs.length) 0 := by
    rw [crc_run ys h.2.1 s hs, h.1]
    have h1 := run_xor (bitAt bs) (fun i => decide (p ≤ i ∧ i < p + k) && f (i - p)) (8 * bs.length) hs (show 0 < 65536 by omega)
    rw [Nat.xor_zero, ← crc_run bs h256 s hs, h0, Nat.zero_xor] at h1
    rw [← h1]
    exact run_congr _ _ fun i _ => h.2.2 i
  rw [hx]
  constructor
  · intro hz
    have hb := run_burst _ p _ (fun i hi => by
      have : ¬ (p ≤ i ∧ i < p + k) := by omega
      simp [this]) (fun i hi => by
      have : ¬ (p ≤ i ∧ i < p + k) := by omega
      simp [this]) hz
    cases hc : anyB f k with
    | false => rfl
    | true =>
      obtain ⟨j, hj, hf⟩ := anyB_true hc
      have := hb (p + j) (by omega)
      have a1 : p ≤ p + j ∧ p + j < p + k := by omega
      have a2 : p + j - p = j := by omega
      rw [a2, hf] at this
      simp [a1] at this
  · intro hz
    refine run_none _ _ fun i _ => ?_
    by_cases hi : p ≤ i ∧ i < p + k
    · rw [anyB_false hz (i - p) (by omega), Bool.and_false]
    · simp [hi]
end Go.Proofs.Ytjkpijinpfimiaa
