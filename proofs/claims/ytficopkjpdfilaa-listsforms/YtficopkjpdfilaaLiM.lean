/-
  Plain mathematics of package lists: items, what is valid, what a delta makes of a list.
-/
import Derived.Below
namespace Go.Proofs.Ytficopkjpdfilaa
structure It where
  c : Int
  o : Int
  i : Int
  n : Int
  a : Int
deriving DecidableEq
def itz : It := ⟨0, 0, 0, 0, 0⟩
/-- the document's valid -/
def rightI (act : Bool) (x : It) : Bool :=
  if x.c < 0 ∨ 65535 < x.c ∨ x.o < 0 ∨ 4 < x.o ∨ x.i < 0 ∨ 65535 < x.i then false
  else if (x.o = 0 ∧ x.i ≠ 0) ∨ (x.o ≠ 0 ∧ x.i = 0) ∨ (x.o = 0 ∧ x.c = 0) then false
  else if act = false then decide (x.n = 0 ∧ x.a = 0)
  else decide (0 < x.o ∧ 0 < x.n ∧ x.n < 65536 ∧ 0 ≤ x.a ∧ x.a ≤ 2147483648)
def inB (lo hi : Int) (xs : List Int) : Bool := xs.all fun n => decide (lo ≤ n) && decide (n ≤ hi)
theorem inB_no {lo hi : Int} {m : List Int} {i : Nat} (hi' : i < m.length) (h : m.getD i 0 < lo ∨ hi < m.getD i 0) : inB lo hi m = false := by
  unfold inB
  rw [List.all_eq_false]
  refine ⟨m[i], List.getElem_mem hi', ?_⟩
  have e : m[i] = m.getD i 0 := by simp [List.getD_eq_getElem?_getD, List.getElem?_eq_getElem hi']
  rw [e]
  simp only [Bool.and_eq_true, decide_eq_true_eq, not_and]
  omega
theorem inB_yes {lo hi : Int} {m : List Int} (h : ∀ j, j < m.length → lo ≤ m.getD j 0 ∧ m.getD j 0 ≤ hi) : inB lo hi m = true := by
  unfold inB
  rw [List.all_eq_true]
  intro x hx
  obtain ⟨j, hj, rfl⟩ := List.getElem_of_mem hx
  have e : m[j] = m.getD j 0 := by simp [List.getD_eq_getElem?_getD, List.getElem?_eq_getElem hj]
  rw [e]
  simp only [Bool.and_eq_true, decide_eq_true_eq]
  exact h j hj
/-- the item says which card or product it is about -/
def idB (x : It) : Bool := inB 0 65535 [x.c, x.i] && inB 0 4 [x.o] && (if x.o = 0 then decide (x.i = 0) && decide (x.c ≠ 0) else decide (x.i ≠ 0))
theorem right_hot (x : It) : rightI false x = (idB x && decide (x.n = 0) && decide (x.a = 0)) := by
  rw [Bool.eq_iff_iff]
  unfold rightI idB inB
  simp only [List.all_cons, List.all_nil, Bool.and_true, if_true, Bool.and_eq_true, decide_eq_true_eq]
  repeat' split
  all_goals simp only [Bool.and_eq_true, decide_eq_true_eq, Bool.false_eq_true, false_iff]
  all_goals omega
theorem right_act (x : It) : rightI true x = (idB x && decide (x.o ≠ 0) && inB 1 65535 [x.n] && inB 0 2147483648 [x.a]) := by
  rw [Bool.eq_iff_iff]
  unfold rightI idB inB
  simp only [List.all_cons, List.all_nil, Bool.and_true, Bool.and_eq_true, decide_eq_true_eq, Bool.true_eq_false, if_false]
  repeat' split
  all_goals simp only [Bool.and_eq_true, decide_eq_true_eq, Bool.false_eq_true, false_iff]
  all_goals omega
/-- what is appended, one by one, if it is not there yet -/
def addI (L : List It) : List It → List It
  | [] => L
  | x :: r => addI (if L.contains x then L else L ++ [x]) r
def keepI (L off : List It) : List It := L.filter fun x => !off.contains x
def nextI (L add off : List It) : List It := addI (keepI L off) add
def appE (act : Bool) (ver : Int) (L : List It) (to : Int) (add off : List It) : Int :=
  if to ≤ ver then 31 else if to ≠ ver + 1 then 28
  else if !(add.all (rightI act)) || !(off.all (rightI act)) then 2
  else if 64 < (nextI L add off).length then 20 else 0
def appV (act : Bool) (ver : Int) (L : List It) (to : Int) (add off : List It) : Int := if appE act ver L to add off = 0 then to else ver
def appL (act : Bool) (ver : Int) (L : List It) (to : Int) (add off : List It) : List It := if appE act ver L to add off = 0 then nextI L add off else L
theorem addI_len (r : List It) : ∀ L : List It, L.length ≤ (addI L r).length ∧ (addI L r).length ≤ L.length + r.length := by
  induction r with
  | nil => intro L; simp [addI]
  | cons x r ih =>
    intro L
    simp only [addI, List.length_cons]
    have h := ih (if L.contains x then L else L ++ [x])
    split at h <;> rename_i hc <;> simp only [hc, if_true, List.length_append, List.length_cons, List.length_nil, Bool.false_eq_true, if_false] at h ⊢ <;> omega
theorem addI_app (r s : List It) : ∀ L : List It, addI L (r ++ s) = addI (addI L r) s := by
  induction r with
  | nil => intro L; rfl
  | cons x r ih => intro L; simp only [List.cons_append, addI]; exact ih _
theorem addI_snoc (L r : List It) (x : It) : addI L (r ++ [x]) = if (addI L r).contains x then addI L r else addI L r ++ [x] := by rw [addI_app]; rfl
theorem keepI_len (L off : List It) : (keepI L off).length ≤ L.length := List.length_filter_le ..
theorem keepI_snoc (L off : List It) (x : It) : keepI (L ++ [x]) off = if off.contains x then keepI L off else keepI L off ++ [x] := by
  unfold keepI
  rw [List.filter_append]
  cases h : off.contains x <;> simp only [List.filter_cons, h, List.filter_nil, Bool.not_true, Bool.not_false, if_true, Bool.false_eq_true, if_false, List.append_nil]
theorem take_snoc {α : Type} {L : List α} {k : Nat} {x : α} (h : L[k]? = some x) : L.take (k + 1) = L.take k ++ [x] := by rw [List.take_add_one, h]; rfl
theorem nextI_len (L add off : List It) : (nextI L add off).length ≤ L.length + add.length := by
  have h1 := (addI_len add (keepI L off)).2
  have h2 := keepI_len L off
  unfold nextI; omega
theorem app_len {act : Bool} {ver : Int} {L : List It} {to : Int} {add off : List It} (h : L.length ≤ 64) : (appL act ver L to add off).length ≤ 64 := by
  unfold appL
  split
  case isFalse => exact h
  case isTrue he =>
    unfold appE at he
    repeat' split at he
    all_goals first | omega | (exfalso; revert he; decide)
theorem app_ver {act : Bool} {ver : Int} {L : List It} {to : Int} {add off : List It} : appV act ver L to add off = ver ∨ appV act ver L to add off = ver + 1 := by
  unfold appV
  split
  case isFalse => exact Or.inl rfl
  case isTrue he =>
    right
    unfold appE at he
    repeat' split at he
    all_goals first | omega | (exfalso; revert he; decide)
theorem app_none {act : Bool} {ver : Int} {L : List It} {to : Int} {add off : List It} (h : appE act ver L to add off ≠ 0) : appV act ver L to add off = ver ∧ appL act ver L to add off = L := by
  unfold appV appL; rw [if_neg h, if_neg h]; exact ⟨rfl, rfl⟩
theorem app_some {act : Bool} {ver : Int} {L : List It} {to : Int} {add off : List It} (h : appE act ver L to add off = 0) : appV act ver L to add off = to ∧ appL act ver L to add off = nextI L add off ∧ to = ver + 1 ∧ add.all (rightI act) = true ∧ off.all (rightI act) = true ∧ (nextI L add off).length ≤ 64 := by
  unfold appV appL; rw [if_pos h, if_pos h]
  refine ⟨rfl, rfl, ?_⟩
  unfold appE at h
  by_cases h1 : to ≤ ver
  · rw [if_pos h1] at h; omega
  rw [if_neg h1] at h
  by_cases h2 : to = ver + 1
  case neg => rw [if_pos h2] at h; omega
  rw [if_neg (by simpa using h2)] at h
  cases h3 : add.all (rightI act) <;> cases h4 : off.all (rightI act) <;> rw [h3, h4] at h <;> simp at h
  exact ⟨h2, rfl, rfl, h⟩
/-- an item is about a product -/
def isB (x : It) (card owner id : Int) : Bool := decide (x.o = owner) && (decide (x.i = id) && (decide (x.c = 0) || decide (x.c = card)))
def hasB (x : It) (card owner id : Int) : Bool := (decide (x.o = 0) && decide (x.c = card)) || isB x card owner id
end Go.Proofs.Ytficopkjpdfilaa
