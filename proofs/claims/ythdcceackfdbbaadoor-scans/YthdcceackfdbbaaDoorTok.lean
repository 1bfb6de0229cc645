/- Plain mathematics: the reference's token against ours. Own text. -/
import Derived.Test.YthdcceackfdbbaaDoorDig
namespace Go.Proofs.YthdcceackfdbbaaDoor

def bigW (l : List UInt8) : Nat := l.foldl (fun v c => if v < 100000 then 10 * v + (c.toNat - 48) else v) 0

theorem bigW_snoc (l : List UInt8) (c : UInt8) : bigW (l ++ [c]) = if bigW l < 100000 then 10 * bigW l + (c.toNat - 48) else bigW l := by unfold bigW; rw [List.foldl_append]; rfl

theorem bigW_le {l : List UInt8} (h : Digs l) : bigW l ≤ 1000000 := by
  induction l using list_snoc_ind with
  | h0 => simp [bigW]
  | h1 l c ih =>
    obtain ⟨h1, h2⟩ := digs_snoc h
    have := ih h1
    have := isDig_bd h2
    rw [bigW_snoc]
    split <;> omega

theorem big_small (l : List UInt8) : (smallW l < 1000 → bigW l = smallW l) ∧ (1000 ≤ smallW l → 1000 ≤ bigW l) := by
  induction l using list_snoc_ind with
  | h0 => simp [smallW, bigW]
  | h1 l c ih =>
    obtain ⟨i1, i2⟩ := ih
    rw [smallW_snoc, bigW_snoc]
    by_cases h : smallW l < 1000
    · rw [if_pos h, i1 h, if_pos (by omega)]
      exact ⟨fun _ => by omega, fun _ => by omega⟩
    · rw [if_neg h]
      have := i2 (by omega)
      refine ⟨fun h' => absurd h' h, fun _ => ?_⟩
      split <;> omega

def powT : List UInt8 → Option Int
  | [] => some 0
  | c :: r =>
    if c = 101 ∨ c = 69 then
      (if (signL r).2.takeWhile isDig = [] ∨ (signL r).2.dropWhile isDig ≠ [] then none
       else some (if (signL r).1 then -(bigW ((signL r).2.takeWhile isDig) : Int) else (bigW ((signL r).2.takeWhile isDig) : Int)))
    else none

/-- What the reference's token answers. -/
def tokL (l : List UInt8) : Option (List UInt8 × Int) :=
  if l.takeWhile isDig ++ (fracL (l.dropWhile isDig)).1 = [] then none
  else (powT (fracL (l.dropWhile isDig)).2).map fun p => (l.takeWhile isDig ++ (fracL (l.dropWhile isDig)).1, -((fracL (l.dropWhile isDig)).1.length : Int) + p)

theorem pow_both (l : List UInt8) : (powL l = none ∧ powT l = none) ∨ ∃ p q, powL l = some p ∧ powT l = some q ∧ (p = q ∨ (1000 ≤ p ∧ 1000 ≤ q) ∨ (p ≤ -1000 ∧ q ≤ -1000)) := by
  cases l with
  | nil => exact .inr ⟨0, 0, rfl, rfl, .inl rfl⟩
  | cons c r =>
    simp only [powL, powT]
    by_cases h1 : c = 101 ∨ c = 69
    · rw [if_pos h1, if_pos h1]
      by_cases h2 : (signL r).2.takeWhile isDig = [] ∨ (signL r).2.dropWhile isDig ≠ []
      · rw [if_pos h2, if_pos h2]; exact .inl ⟨rfl, rfl⟩
      · rw [if_neg h2, if_neg h2]
        obtain ⟨b1, b2⟩ := big_small ((signL r).2.takeWhile isDig)
        refine .inr ⟨_, _, rfl, rfl, ?_⟩
        by_cases hs : smallW ((signL r).2.takeWhile isDig) < 1000
        · rw [b1 hs]; exact .inl rfl
        · have := b2 (by omega)
          right
          split
          · right; omega
          · left; omega
    · rw [if_neg h1, if_neg h1]; exact .inl ⟨rfl, rfl⟩

/-- The reference's answer for digits and a power. -/
def refR (D : Nat) (e : Int) : Nat := if D = 0 ∨ e < -500 then 0 else if 500 < e then 9218868437227405312 else decRnd D e

theorem refR_eq {D n : Nat} {k e : Int} (hD : D < 10 ^ n) (hn : n ≤ 60) (h : k = e ∨ (900 ≤ k ∧ 900 ≤ e) ∨ (k ≤ -900 ∧ e ≤ -900)) : refR D e = decRnd D k := by
  unfold refR
  by_cases h0 : D = 0
  · rw [if_pos (.inl h0)]; unfold decRnd; rw [if_pos h0]
  · have tiny : ∀ x : Int, x < -500 → decRnd D x = 0 := fun x hx => decRnd_tiny hD h0 (by omega)
    have big : ∀ x : Int, 500 < x → decRnd D x = 9218868437227405312 := fun x hx => decRnd_big (n := 0) (by simp; omega) (by omega) (by omega)
    by_cases h1 : e < -500
    · rw [if_pos (.inr h1)]
      rw [tiny k (by omega)]
    · rw [if_neg (by omega)]
      by_cases h2 : 500 < e
      · rw [if_pos h2, big k (by omega)]
      · rw [if_neg h2]
        rcases h with h | h | h
        · rw [h]
        · omega
        · omega

/-- What the reference answers behind its sign. -/
def finT : Option (List UInt8 × Int) → Bool → Nat × Nat
  | none, _ => (0, 1)
  | some dp, m => ((if m then 9223372036854775808 else 0) + refR (dval dp.1) dp.2, 0)

theorem frac_digs (l : List UInt8) : Digs (fracL l).1 := by
  cases l with
  | nil => intro x hx; simp [fracL] at hx
  | cons c r =>
    simp only [fracL]
    split
    · intro x hx
      exact List.all_eq_true.1 (List.all_takeWhile (p := isDig) (l := r)) x hx
    · intro x hx; simp at hx

theorem frac_len (l : List UInt8) : (fracL l).1.length + (fracL l).2.length ≤ l.length := by
  cases l with
  | nil => simp [fracL]
  | cons c r =>
    simp only [fracL]
    split
    · have : (r.takeWhile isDig).length + (r.dropWhile isDig).length = r.length := by rw [← List.length_append, List.takeWhile_append_dropWhile]
      simp; omega
    · simp

theorem fin_both {l : List UInt8} (hl : l.length ≤ 60) (m : Bool) : finT (tokL l) m = finL (decL l) m := by
  have hA : Digs (l.takeWhile isDig) := fun x hx => List.all_eq_true.1 (List.all_takeWhile (p := isDig) (l := l)) x hx
  have hF := frac_digs (l.dropWhile isDig)
  have h1 : (l.takeWhile isDig).length + (l.dropWhile isDig).length = l.length := by rw [← List.length_append, List.takeWhile_append_dropWhile]
  have h2 := frac_len (l.dropWhile isDig)
  unfold tokL decL
  generalize l.takeWhile isDig = A at *
  generalize fracL (l.dropWhile isDig) = fr at *
  obtain ⟨F, RR⟩ := fr
  simp only at hF h2 ⊢
  by_cases hne : A ++ F = []
  · rw [if_pos hne, if_pos hne]; rfl
  · rw [if_neg hne, if_neg hne]
    rcases pow_both RR with ⟨e1, e2⟩ | ⟨p, q, e1, e2, hpq⟩
    · rw [e1, e2]; rfl
    · rw [e1, e2]
      simp only [Option.map_some, finT, finL]
      rw [dval_drop]
      have hd := dval_lt (digs_append hA hF)
      rw [refR_eq (k := p - F.length) (n := (A ++ F).length) hd (by rw [List.length_append]; omega) (by omega)]
      rw [Nat.add_comm]

end Go.Proofs.YthdcceackfdbbaaDoor
