/- Plain mathematics: a number's text taken apart. Own text. -/
import Derived.Test.YthdcceackfdbbaaDoorDec
namespace Go.Proofs.YthdcceackfdbbaaDoor

theorem takeWhile_at {α : Type} {p : α → Bool} {l : List α} {k : Nat} (h1 : ∀ x ∈ l.take k, p x = true) (h2 : ∀ x, l[k]? = some x → p x = false) : l.takeWhile p = l.take k ∧ l.dropWhile p = l.drop k := by
  induction l generalizing k with
  | nil => simp
  | cons a r ih =>
    cases k with
    | zero =>
      have := h2 a (by simp)
      simp [this]
    | succ k =>
      have ha := h1 a (by simp)
      obtain ⟨e1, e2⟩ := ih (k := k) (fun x hx => h1 x (by simp [hx])) (fun x hx => h2 x (by simpa using hx))
      simp [ha, e1, e2]

/-- A sign ahead. -/
def signL : List UInt8 → Bool × List UInt8
  | [] => (false, [])
  | c :: r => if c = 43 then (false, r) else if c = 45 then (true, r) else (false, c :: r)

/-- What small powers tell, and of great ones some thousands. -/
def smallW (l : List UInt8) : Nat := l.foldl (fun v c => if v < 1000 then v * 10 + (c.toNat - 48) else v) 0

theorem smallW_snoc (l : List UInt8) (c : UInt8) : smallW (l ++ [c]) = if smallW l < 1000 then smallW l * 10 + (c.toNat - 48) else smallW l := by unfold smallW; rw [List.foldl_append]; rfl

theorem smallW_le {l : List UInt8} (h : Digs l) : smallW l ≤ 10000 := by
  induction l using list_snoc_ind with
  | h0 => simp [smallW]
  | h1 l c ih =>
    obtain ⟨h1, h2⟩ := digs_snoc h
    have := ih h1
    have := isDig_bd h2
    rw [smallW_snoc]
    split <;> omega

theorem smallW_stay (l r : List UInt8) (h : 1000 ≤ smallW l) : smallW (l ++ r) = smallW l := by
  induction r using list_snoc_ind with
  | h0 => simp
  | h1 r c ih => rw [← List.append_assoc, smallW_snoc, ih, if_neg (by omega)]

/-- What stands behind the digits. -/
def powL : List UInt8 → Option Int
  | [] => some 0
  | c :: r =>
    if c = 101 ∨ c = 69 then
      (if (signL r).2.takeWhile isDig = [] ∨ (signL r).2.dropWhile isDig ≠ [] then none
       else some (if (signL r).1 then -(smallW ((signL r).2.takeWhile isDig) : Int) else (smallW ((signL r).2.takeWhile isDig) : Int)))
    else none

/-- The digits behind a point, and what stands behind them. -/
def fracL : List UInt8 → List UInt8 × List UInt8
  | [] => ([], [])
  | c :: r => if c = 46 then (r.takeWhile isDig, r.dropWhile isDig) else ([], c :: r)

/-- Digits without noughts ahead, and the power of ten. -/
def decL (l : List UInt8) : Option (List UInt8 × Int) :=
  if l.takeWhile isDig ++ (fracL (l.dropWhile isDig)).1 = [] then none
  else (powL (fracL (l.dropWhile isDig)).2).map fun p => ((l.takeWhile isDig ++ (fracL (l.dropWhile isDig)).1).dropWhile (· == 48), p - (fracL (l.dropWhile isDig)).1.length)

/-- The answer, out of the digits and the sign. -/
def finL : Option (List UInt8 × Int) → Bool → Nat × Nat
  | none, _ => (0, 1)
  | some dp, m => (decRnd (dval dp.1) dp.2 + (if m then 9223372036854775808 else 0), 0)

/-- The number that a text tells, and the error. -/
def scanL (l : List UInt8) : Nat × Nat :=
  if 60 < l.length then (0, 1)
  else if l = [105, 110, 102] ∨ l = [43, 105, 110, 102] then (9218868437227405312, 0)
  else if l = [45, 105, 110, 102] then (18442240474082181120, 0)
  else if l = [110, 97, 110] then (9221120237041090560, 0)
  else finL (decL (signL l).2) (signL l).1

end Go.Proofs.YthdcceackfdbbaaDoor
