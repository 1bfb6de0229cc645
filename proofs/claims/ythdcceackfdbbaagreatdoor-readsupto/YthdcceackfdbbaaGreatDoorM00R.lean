import Derived.Test.YthdcceackfdbbaaGreatDoorRows
import Derived.Test.YthdcceackfdbbaaGreatDoorProg
import Derived.WalkKit
import Derived.ProofKit
import Derived.OpenShut
import Derived.Deep.DeepHandedRow
import Derived.Lib.LaidTab
import Derived.Lib.ItoaNum
import Derived.BigQuiet
import Derived.KernelRfl
import Derived.RangeFuncNested
import Derived.RangeFuncBound
import Derived.RangeFuncCalls
import Derived.RangeFuncLeaves
import Derived.Lib.OthersKept
import Derived.OwnWalkIn
import Derived.Laws.MakeOwn
namespace Go.Proofs.YthdcceackfdbbaaGreatDoor
open Go.ChangeShapes Go.WideShapes Go.ChangeAt Go.RowKit
theorem ownK : ownKnob Tryz.prog.godebug = none := by kernel_rfl
def cellsD : DataW Unit → List Value
  | .agg l => l.flatMap fun x => match x with
    | .lit (.int k n) => [Value.int k n]
    | .agg m => m.flatMap fun y => match y with
      | .lit (.int k n) => [Value.int k n]
      | _ => []
    | _ => []
  | _ => []
def layInto (d : DataW Unit) : Obj → Obj
  | .cells _ t frozen => .cells (cellsD d).toArray t frozen
  | o => o
noncomputable def laidWorld (os : Os) : World :=
  { World.holding Tryz.prog os ⟨#[], #[], []⟩ with heap :=
      (((((World.holding Tryz.prog os ⟨#[], #[], []⟩).heap.modify 0 (layInto Rows.laid_internal_strconv_uint64pow10)).modify 4 (layInto Rows.laid_math_bits_deBruijn32tab)).modify 5 (layInto Rows.laid_math_bits_deBruijn64tab)).modify 2 (layInto Rows.laid_unicode_utf8_first)).modify 3 (layInto Rows.laid_unicode_utf8_acceptRanges) }
theorem cellsU64 : Tryz.prog.cellsOf 65 = 1 := by kernel_rfl
end Go.Proofs.YthdcceackfdbbaaGreatDoor
namespace Go.Proofs.YthdcceackfdbbaaGreatDoor
open Go Go.RowKit
def crcBit (h b i : Nat) : Nat := if (b >>> i + h) % 2 = 1 then (h >>> 1) ^^^ 3988292384 else h >>> 1
def crcTo (h b : Nat) : Nat → Nat
  | 0 => h
  | i + 1 => crcBit (crcTo h b i) b i
theorem crcBit_lt {h b i : Nat} (hh : h < 4294967296) : crcBit h b i < 4294967296 := by
  unfold crcBit
  have h1 : h >>> 1 < 2 ^ 32 := by rw [Nat.shiftRight_eq_div_pow]; omega
  split
  · exact Nat.xor_lt_two_pow h1 (by decide)
  · exact h1
theorem crcTo_lt {h b : Nat} (hh : h < 4294967296) : ∀ i, crcTo h b i < 4294967296
  | 0 => hh
  | i + 1 => crcBit_lt (crcTo_lt hh i)
def crcAll (h : Nat) (l : List UInt8) : Nat := l.foldl (fun h b => crcTo h b.toNat 8) h
theorem crcAll_cons (h : Nat) (b : UInt8) (l : List UInt8) : crcAll h (b :: l) = crcAll (crcTo h b.toNat 8) l := by unfold crcAll; rw [List.foldl_cons]
theorem crcAll_lt {h : Nat} (hh : h < 4294967296) (l : List UInt8) : crcAll h l < 4294967296 := by
  induction l generalizing h with
  | nil => exact hh
  | cons b r ih =>
    have := ih (crcTo_lt (b := b.toNat) hh 8)
    rw [crcAll_cons]; exact this
theorem crcAll_snoc (h : Nat) (l : List UInt8) (b : UInt8) : crcAll h (l ++ [b]) = crcTo (crcAll h l) b.toNat 8 := by simp [crcAll, List.foldl_append]
def flip32 (h : Nat) : Nat := 4294967295 - h
def sumL (l : List UInt8) : Nat := flip32 (crcAll 4294967295 l)
theorem flip_flip {h : Nat} (hh : h < 4294967296) : flip32 (flip32 h) = h := by unfold flip32; omega
theorem sumL_lt (l : List UInt8) : sumL l < 4294967296 := by unfold sumL flip32; omega
theorem sumL_nil : sumL [] = 0 := rfl
theorem sumL_snoc (l : List UInt8) (b : UInt8) : sumL (l ++ [b]) = flip32 (crcTo (flip32 (sumL l)) b.toNat 8) := by
  unfold sumL; rw [crcAll_snoc, flip_flip (crcAll_lt (by omega) l)]
theorem flip_xor {h : Nat} (hh : h < 4294967296) : h ^^^ 4294967295 = flip32 h := by
  have := Nat.eq_of_testBit_eq (x := h ^^^ 4294967295) (y := flip32 h) fun i => by
    unfold flip32
    rw [show 4294967295 - h = 2 ^ 32 - (h + 1) by omega, Nat.testBit_two_pow_sub_succ (by omega), Nat.testBit_xor]
    rw [show (4294967295 : Nat) = 2 ^ 32 - 1 by rfl, Nat.testBit_two_pow_sub_one]
    by_cases hi : i < 32
    · simp [hi]
    · have : h.testBit i = false := Nat.testBit_lt_two_pow (Nat.lt_of_lt_of_le hh (by rw [show 4294967296 = 2 ^ 32 by rfl]; exact Nat.pow_le_pow_right (by omega) (by omega)))
      simp [hi, this]
  exact this
end Go.Proofs.YthdcceackfdbbaaGreatDoor
namespace Go.Proofs.YthdcceackfdbbaaGreatDoor
open Go Go.RowKit
def Fit (R C : Nat) (off rs cs : Int) (n : Nat) : Prop :=
  (∀ i j : Nat, i < R → j < C → 0 ≤ off + i * rs + j * cs ∧ off + i * rs + j * cs < n) ∧
  (∀ i j i' j' : Nat, i < R → j < C → i' < R → j' < C → off + i * rs + j * cs = off + i' * rs + j' * cs → i = i' ∧ j = j')
theorem between {i m : Nat} (s : Int) (h : i ≤ m) : (0 ≤ (i : Int) * s ∧ (i : Int) * s ≤ m * s) ∨ ((m : Int) * s ≤ i * s ∧ (i : Int) * s ≤ 0) := by
  by_cases hs : 0 ≤ s
  · left; exact ⟨Int.mul_nonneg (by omega) hs, Int.mul_le_mul_of_nonneg_right (by omega) hs⟩
  · right; exact ⟨Int.mul_le_mul_of_nonpos_right (by omega) (by omega), Int.mul_nonpos_of_nonneg_of_nonpos (by omega) (by omega)⟩
def Corner (R C : Nat) (off rs cs : Int) (n : Nat) : Prop :=
  (0 ≤ off ∧ off < n) ∧ (0 ≤ off + ((R - 1 : Nat) : Int) * rs ∧ off + ((R - 1 : Nat) : Int) * rs < n) ∧ (0 ≤ off + ((C - 1 : Nat) : Int) * cs ∧ off + ((C - 1 : Nat) : Int) * cs < n) ∧
  (0 ≤ off + ((R - 1 : Nat) : Int) * rs + ((C - 1 : Nat) : Int) * cs ∧ off + ((R - 1 : Nat) : Int) * rs + ((C - 1 : Nat) : Int) * cs < n)
theorem corner_iff {R C : Nat} {off rs cs : Int} {n : Nat} (hR : 0 < R) (hC : 0 < C) :
    Corner R C off rs cs n ↔ ∀ i j : Nat, i < R → j < C → 0 ≤ off + i * rs + j * cs ∧ off + i * rs + j * cs < n := by
  constructor
  · rintro ⟨h1, h2, h3, h4⟩ i j hi hj
    have b1 := between rs (show i ≤ R - 1 by omega)
    have b2 := between cs (show j ≤ C - 1 by omega)
    generalize (i : Int) * rs = x at *
    generalize (j : Int) * cs = y at *
    generalize ((R - 1 : Nat) : Int) * rs = X at *
    generalize ((C - 1 : Nat) : Int) * cs = Y at *
    omega
  · intro h
    refine ⟨?_, ?_, ?_, h (R - 1) (C - 1) (by omega) (by omega)⟩
    · have := h 0 0 hR hC; simpa using this
    · have := h (R - 1) 0 (by omega) hC; simpa using this
    · have := h 0 (C - 1) hR (by omega); simpa using this
def Meets (R C : Nat) (rs cs : Int) : Prop := ∃ d : Nat, d < R ∧ ∃ r : Int, -(C : Int) < r ∧ r < C ∧ (d ≠ 0 ∨ r ≠ 0) ∧ (d : Int) * rs + r * cs = 0
theorem meets_iff {R C : Nat} {off rs cs : Int} :
    ¬ Meets R C rs cs ↔ ∀ i j i' j' : Nat, i < R → j < C → i' < R → j' < C → off + i * rs + j * cs = off + i' * rs + j' * cs → i = i' ∧ j = j' := by
  constructor
  · intro h i j i' j' hi hj hi' hj' e
    apply Classical.byContradiction
    intro hne
    apply h
    have e1 : ((i : Int) - i') * rs + ((j : Int) - j') * cs = 0 := by rw [Int.sub_mul, Int.sub_mul]; omega
    by_cases hle : i' ≤ i
    · refine ⟨i - i', by omega, (j : Int) - j', by omega, by omega, by omega, ?_⟩
      rw [show ((i - i' : Nat) : Int) = (i : Int) - i' by omega]; exact e1
    · refine ⟨i' - i, by omega, (j' : Int) - j, by omega, by omega, by omega, ?_⟩
      rw [show ((i' - i : Nat) : Int) = -((i : Int) - i') by omega, show (j' : Int) - j = -((j : Int) - j') by omega, Int.neg_mul, Int.neg_mul]; omega
  · rintro h ⟨d, hd, r, h1, h2, h3, h4⟩
    by_cases hr : 0 ≤ r
    · obtain ⟨k, rfl⟩ := Int.eq_ofNat_of_zero_le hr
      have := h d k 0 0 hd (by omega) (by omega) (by omega) (by simp; omega)
      omega
    · obtain ⟨k, hk⟩ := Int.eq_ofNat_of_zero_le (show 0 ≤ -r by omega)
      have hr' : r = -(k : Int) := by omega
      subst hr'
      rw [Int.neg_mul] at h4
      have := h d 0 0 k hd (by omega) (by omega) (by omega) (by simp; omega)
      omega
theorem fit_prog {R C : Nat} {off rs cs : Int} {n : Nat} (hR : 0 < R) (hC : 0 < C) : Fit R C off rs cs n ↔ Corner R C off rs cs n ∧ ¬ Meets R C rs cs := by
  unfold Fit
  rw [← corner_iff hR hC, ← meets_iff]
theorem fit_step {R C : Nat} {off rs cs : Int} {n : Nat} (hR : 0 < R) (hC : 0 < C) (h : Fit R C off rs cs n) :
    (0 ≤ off ∧ off < n) ∧ (R = 1 ∨ (-(n : Int) < rs ∧ rs < n)) ∧ (C = 1 ∨ (-(n : Int) < cs ∧ cs < n)) := by
  have h0 := h.1 0 0 hR hC
  simp at h0
  refine ⟨h0, ?_, ?_⟩
  · by_cases e : R = 1
    · exact .inl e
    · have := h.1 1 0 (by omega) hC; simp at this; right; omega
  · by_cases e : C = 1
    · exact .inl e
    · have := h.1 0 1 hR (by omega); simp at this; right; omega
def Ahead (C : Nat) (i j : Nat) (i' j' : Nat) : Prop := (i' < i ∧ j' < C) ∨ (i' = i ∧ j' < j)
def SeenTo (C : Nat) (off rs cs : Int) (n i j : Nat) : Prop :=
  (∀ a b : Nat, Ahead C i j a b → 0 ≤ off + a * rs + b * cs ∧ off + a * rs + b * cs < n) ∧
  (∀ a b a' b' : Nat, Ahead C i j a b → Ahead C i j a' b' → off + a * rs + b * cs = off + a' * rs + b' * cs → a = a' ∧ b = b')
theorem seen_zero (C : Nat) (off rs cs : Int) (n : Nat) : SeenTo C off rs cs n 0 0 := by
  refine ⟨fun a b h => ?_, fun a b a' b' h => ?_⟩ <;> · unfold Ahead at h; omega
theorem ahead_step {C i j a b : Nat} : Ahead C i (j + 1) a b ↔ Ahead C i j a b ∨ (a = i ∧ b = j) := by unfold Ahead; omega
theorem ahead_row {C i a b : Nat} : Ahead C (i + 1) 0 a b ↔ Ahead C i C a b := by unfold Ahead; omega
theorem seen_row {C : Nat} {off rs cs : Int} {n i : Nat} (h : SeenTo C off rs cs n i C) : SeenTo C off rs cs n (i + 1) 0 := by
  unfold SeenTo at h ⊢
  simp only [ahead_row]
  exact h
theorem seen_step {C : Nat} {off rs cs : Int} {n i j : Nat} (h : SeenTo C off rs cs n i j) (hp : 0 ≤ off + i * rs + j * cs ∧ off + i * rs + j * cs < n)
    (hnew : ∀ a b : Nat, Ahead C i j a b → off + a * rs + b * cs ≠ off + i * rs + j * cs) : SeenTo C off rs cs n i (j + 1) := by
  refine ⟨fun a b hab => ?_, fun a b a' b' hab hab' e => ?_⟩
  · rcases ahead_step.1 hab with h1 | ⟨rfl, rfl⟩
    · exact h.1 a b h1
    · exact hp
  · rcases ahead_step.1 hab with h1 | ⟨rfl, rfl⟩ <;> rcases ahead_step.1 hab' with h2 | ⟨rfl, rfl⟩
    · exact h.2 a b a' b' h1 h2 e
    · exact absurd e (hnew _ _ h1)
    · exact absurd e.symm (hnew _ _ h2)
    · exact ⟨rfl, rfl⟩
theorem seen_fit {R C : Nat} {off rs cs : Int} {n : Nat} (h : SeenTo C off rs cs n R 0) : Fit R C off rs cs n := by
  refine ⟨fun i j hi hj => h.1 i j ?_, fun i j i' j' hi hj hi' hj' e => h.2 i j i' j' ?_ ?_ e⟩ <;> · unfold Ahead; omega
def FitV (R C off rs cs : Int) (n : Nat) : Prop := n ≤ 100000 ∧ (0 ≤ R ∧ R ≤ 40) ∧ (0 ≤ C ∧ C ≤ 40) ∧ (R = 0 ∨ C = 0 ∨ Fit R.toNat C.toNat off rs cs n)
end Go.Proofs.YthdcceackfdbbaaGreatDoor
namespace Go.Proofs.YthdcceackfdbbaaGreatDoor
open Go Go.RowKit
def rowsL (R C : Nat) (f : Nat → Nat → Nat) : List (Nat × Nat × Nat) := (List.range (R * C)).map fun k => (k / C, k % C, f (k / C) (k % C))
def colsL (R C : Nat) (f : Nat → Nat → Nat) : List (Nat × Nat × Nat) := (List.range (R * C)).map fun k => (k % R, k / R, f (k % R) (k / R))
theorem rowsL_len (R C : Nat) (f : Nat → Nat → Nat) : (rowsL R C f).length = R * C := by simp [rowsL]
theorem colsL_len (R C : Nat) (f : Nat → Nat → Nat) : (colsL R C f).length = R * C := by simp [colsL]
theorem idx_lt {R C i j : Nat} (hi : i < R) (hj : j < C) : i * C + j < R * C := by
  have h1 : (i + 1) * C ≤ R * C := Nat.mul_le_mul_right _ hi
  rw [Nat.add_mul] at h1
  omega
theorem rowsL_at {R C : Nat} (f : Nat → Nat → Nat) {i j : Nat} (hi : i < R) (hj : j < C) : (rowsL R C f)[i * C + j]? = some (i, j, f i j) := by
  have h := idx_lt hi hj
  have e1 : (i * C + j) / C = i := by rw [Nat.add_comm, Nat.add_mul_div_right _ _ (by omega), Nat.div_eq_of_lt hj]; omega
  have e2 : (i * C + j) % C = j := by rw [Nat.add_comm, Nat.add_mul_mod_self_right, Nat.mod_eq_of_lt hj]
  simp [rowsL, h, e1, e2]
theorem colsL_at {R C : Nat} (f : Nat → Nat → Nat) {i j : Nat} (hi : i < R) (hj : j < C) : (colsL R C f)[j * R + i]? = some (i, j, f i j) := by
  have h := idx_lt hj hi
  rw [Nat.mul_comm C R] at h
  have e1 : (j * R + i) / R = j := by rw [Nat.add_comm, Nat.add_mul_div_right _ _ (by omega), Nat.div_eq_of_lt hi]; omega
  have e2 : (j * R + i) % R = i := by rw [Nat.add_comm, Nat.add_mul_mod_self_right, Nat.mod_eq_of_lt hi]
  simp [colsL, h, e1, e2]
theorem mod_div_lt {R C k : Nat} (h : k < R * C) : k % R < R ∧ k / R < C := by
  have hR : 0 < R := by rcases Nat.eq_zero_or_pos R with e | e; · subst e; simp at h
                        exact e
  exact ⟨Nat.mod_lt _ hR, Nat.div_lt_of_lt_mul h⟩
theorem div_mod_lt {R C k : Nat} (h : k < R * C) : k / C < R ∧ k % C < C := by
  have := mod_div_lt (R := C) (C := R) (by rw [Nat.mul_comm]; exact h)
  exact ⟨this.2, this.1⟩
theorem rowsL_mem {R C : Nat} {f : Nat → Nat → Nat} {x : Nat × Nat × Nat} (h : x ∈ rowsL R C f) : x.1 < R ∧ x.2.1 < C ∧ x.2.2 = f x.1 x.2.1 := by
  obtain ⟨k, hk, rfl⟩ := List.mem_map.1 h
  have := div_mod_lt (List.mem_range.1 hk)
  exact ⟨this.1, this.2, rfl⟩
theorem colsL_mem {R C : Nat} {f : Nat → Nat → Nat} {x : Nat × Nat × Nat} (h : x ∈ colsL R C f) : x.1 < R ∧ x.2.1 < C ∧ x.2.2 = f x.1 x.2.1 := by
  obtain ⟨k, hk, rfl⟩ := List.mem_map.1 h
  have := mod_div_lt (List.mem_range.1 hk)
  exact ⟨this.1, this.2, rfl⟩
theorem filter_next {α : Type} (p : α → Bool) (l : List α) (k : Nat) (x : α) (h : l[k]? = some x) :
    (p x = true → (l.filter p)[((l.take k).filter p).length]? = some x ∧ ((l.take (k + 1)).filter p).length = ((l.take k).filter p).length + 1) ∧
    (p x = false → ((l.take (k + 1)).filter p).length = ((l.take k).filter p).length) := by
  have hk : k < l.length := (List.getElem?_eq_some_iff.1 h).1
  have h2 : l.take (k + 1) = l.take k ++ [x] := by rw [List.take_add_one, h]; rfl
  have h3 : l = l.take k ++ x :: l.drop (k + 1) := by
    have := (List.take_append_drop (k + 1) l).symm
    rw [h2, List.append_assoc] at this
    exact this
  constructor
  · intro hp
    constructor
    · have h4 : l.filter p = (l.take k).filter p ++ x :: (l.drop (k + 1)).filter p := by
        conv => lhs; rw [h3]
        rw [List.filter_append, List.filter_cons_of_pos hp]
      rw [h4]; simp
    · rw [h2, List.filter_append, List.filter_cons_of_pos hp]; simp
  · intro hp
    rw [h2, List.filter_append, List.filter_cons_of_neg (by simp [hp])]; simp
end Go.Proofs.YthdcceackfdbbaaGreatDoor
namespace Go.Proofs.YthdcceackfdbbaaGreatDoor
open Go Go.RowKit
theorem hid {p : Prop} (h : p) : Hid p := h
theorem below_dn {B : Nat} {a w : World} (h : Below B a w) (n : Nat) : Below B a (w.drewN n) := ⟨h.os, h.tape, h.output, h.size, h.block⟩
theorem known_any (w : World) (k : Int) : Calls Tryz.prog 67 #[.int .i64 k] w fun e w' => e = .returned (.bool (decide (0 ≤ k ∧ k ≤ 5))) ∧ w' = w := by
  go_enter Tryz.func67, Tryz.ntmps67
  go_wp2
  all_goals go_ret
  all_goals refine ⟨?_, rfl⟩
  all_goals simp [*]
  all_goals first | omega | (rw [Bool.eq_iff_iff]; simp [*])
theorem ksym_any (w : World) (k : Int) : Calls Tryz.prog 68 #[.int .i64 k] w fun e w' => e = .returned (.bool (decide (k = 1 ∨ k = 3))) ∧ w' = w := by
  go_enter Tryz.func68, Tryz.ntmps68
  go_wp2
  all_goals go_ret
  all_goals refine ⟨?_, rfl⟩
  all_goals simp [*]
  all_goals first | omega | (rw [Bool.eq_iff_iff]; simp [*])
theorem kcoord_any (w : World) (k : Int) : Calls Tryz.prog 145 #[.int .i64 k] w fun e w' => e = .returned (.bool (decide (k = 2 ∨ k = 3))) ∧ w' = w := by
  go_enter Tryz.func145, Tryz.ntmps145
  go_wp2
  all_goals go_ret
  all_goals refine ⟨?_, rfl⟩
  all_goals simp [*]
  all_goals first | omega | (rw [Bool.eq_iff_iff]; simp [*])
theorem isSide_any (w : World) (k : Int) : Calls Tryz.prog 60 #[.int .i64 k] w fun e w' => e = .returned (.bool (decide (0 ≤ k ∧ k ≤ 40))) ∧ w' = w := by
  go_enter Tryz.func60, Tryz.ntmps60
  go_wp2
  all_goals go_ret
  all_goals refine ⟨?_, rfl⟩
  all_goals simp [*]
  all_goals first | omega | (rw [Bool.eq_iff_iff]; simp [*])
theorem isPlace_any (w : World) (k n : Int) : Calls Tryz.prog 95 #[.int .i64 k, .int .i64 n] w fun e w' => e = .returned (.bool (decide (0 ≤ k ∧ k < n))) ∧ w' = w := by
  go_enter Tryz.func95, Tryz.ntmps95
  go_wp2
  all_goals go_ret
  all_goals refine ⟨?_, rfl⟩
  all_goals simp [*]
  all_goals first | omega | (rw [Bool.eq_iff_iff]; simp [*])
theorem leaves_any (w : World) (k s : Int) : Calls Tryz.prog 96 #[.int .i64 k, .int .i64 s] w fun e w' => e = .returned (.bool (decide (1 < k ∧ (s ≤ -100000 ∨ 100000 ≤ s)))) ∧ w' = w := by
  go_enter Tryz.func96, Tryz.ntmps96
  go_wp2
  all_goals go_ret
  all_goals refine ⟨?_, rfl⟩
  all_goals simp [*]
  all_goals first | omega | (rw [Bool.eq_iff_iff]; simp [*]; omega)
def viewV (R C off rs cs : Int) : Value := .agg #[.int .i64 R, .int .i64 C, .int .i64 off, .int .i64 rs, .int .i64 cs]
theorem at_any (w : World) (R C off rs cs i j : Int) (h0 : -4611686018427387904 ≤ off ∧ off ≤ 4611686018427387903) (h1 : -1000000000 ≤ i * rs ∧ i * rs ≤ 1000000000) (h2 : -1000000000 ≤ j * cs ∧ j * cs ≤ 1000000000) :
    Calls Tryz.prog 65 #[viewV R C off rs cs, .int .i64 i, .int .i64 j] w fun e w' => e = .returned (.int .i64 (off + i * rs + j * cs)) ∧ w' = w.alloc (.cells #[.int .i64 R, .int .i64 C, .int .i64 off, .int .i64 rs, .int .i64 cs] 24) := by
  unfold viewV
  go_enter Tryz.func65, Tryz.ntmps65
  go_wp2
  go_ret
  exact ⟨rfl, rfl⟩
end Go.Proofs.YthdcceackfdbbaaGreatDoor
namespace Go.Proofs.YthdcceackfdbbaaGreatDoor
open Go Go.RowKit
theorem roundAny {m m' : Nat} {P : Program} {l : Nat} {f : FuncId} {tmps : Array Value} {assign body : Code} {w : World} {R : Ending → World → Prop}
    (h : RoundIn Fence.wide m P l f tmps assign body w R) : RoundIn Fence.wide m' P l f tmps assign body w R :=
  ⟨h.1, fun c cs _ => h.2 c cs (fun d hd => by cases hd)⟩
theorem yieldAny {m : Nat} (m' : Nat) {P : Program} {l : Nat} {args : Array Value} {W : World} {R : Ending → World → Prop}
    (h : YieldAt Fence.wide m P l args W R) : YieldAt Fence.wide m' P l args W R := by
  obtain ⟨fn, tmps, assign, body, hy, hR⟩ := h
  exact ⟨fn, tmps, assign, body, hy, roundAny hR⟩
theorem callAny {m : Nat} (m' : Nat) {P : Program} {f : FuncId} {args : Array Value} {W : World} {R : Ending → World → Prop}
    (h : CallsIn Fence.wide m P f args W R) : CallsIn Fence.wide m' P f args W R := callsIn_wide.2 (callsIn_wide.1 h)
structure Sim (B : Nat) (W W' : World) : Prop where
  os : W'.os = W.os
  tape : W'.tape = W.tape
  output : W'.output = W.output
  size : W.heap.size ≤ W'.heap.size
  block : ∀ k o, W.heap[k]? = some o → (k < B ∨ o.isCells = true) → W'.heap[k]? = some o
theorem Sim.trans {B : Nat} {X Y Z : World} (h : Sim B X Y) (k : Sim B Y Z) : Sim B X Z :=
  ⟨k.os.trans h.os, k.tape.trans h.tape, k.output.trans h.output, Nat.le_trans h.size k.size, fun i o hi ho => k.block i o (h.block i o hi ho) ho⟩
theorem Sim.down {B B' : Nat} {X Y : World} (h : Sim B' X Y) (hB : B ≤ B') : Sim B X Y :=
  ⟨h.os, h.tape, h.output, h.size, fun i o hi ho => h.block i o hi (ho.imp (fun h => Nat.lt_of_lt_of_le h hB) id)⟩
theorem Sim.below {B : Nat} {X Y : World} (h : Below X.heap.size X Y) : Sim B X Y :=
  ⟨h.os, h.tape, h.output, h.size, fun i _ hi _ => (h.block i (Array.getElem?_eq_some_iff.1 hi).1).trans hi⟩
theorem Sim.alloc (B : Nat) (W : World) (o : Obj) : Sim B W (W.alloc o) := Sim.below ((Below.refl _ W).alloc (Nat.le_refl _) o)
theorem Sim.drew (B : Nat) (W : World) : Sim B W W.drew := ⟨rfl, rfl, rfl, Nat.le_refl _, fun _ _ h _ => h⟩
theorem Sim.putObj {B : Nat} {W : World} {l : Nat} {o : Obj} (o' : Obj) (hB : B ≤ l) (hl : W.heap[l]? = some o) (ho : o.isCells = false) : Sim B W (W.putObj l o') :=
  ⟨rfl, rfl, rfl, by simp [World.putObj], fun k x hk hx => by
    have : k ≠ l := fun e => by subst e; rw [hl] at hk; cases hk; rcases hx with hx | hx; · omega
                                rw [ho] at hx; cases hx
    rw [World.putObj_heap_other this]; exact hk⟩
theorem Sim.cell {B : Nat} {W W' : World} (h : Sim B W W') {a : Addr} {v : Value} (hc : W.cell? a = some v) : W'.cell? a = some v := by
  obtain ⟨o, ho, hi⟩ := cells_of_cell hc
  have := h.block a.block o ho (.inr hi)
  unfold World.cell? at hc ⊢
  rw [ho] at hc; rw [this]; exact hc
def Stays {β : Type} (B : Nat) (I : β → World → Prop) : Prop := ∀ s W W', I s W → Sim B W W' → I s W'
def Firm (o : Obj) : Prop := ∀ c t fz, o = .cells c t fz → t ≠ 5 ∧ t ≠ 117
structure KeptFrom (B : Nat) (W W' : World) : Prop where
  size : W.heap.size ≤ W'.heap.size
  same : ∀ (k : Nat) (o : Obj), B ≤ k → W.heap[k]? = some o → Firm o → W'.heap[k]? = some o
theorem KeptFrom.refl (B : Nat) (W : World) : KeptFrom B W W := ⟨Nat.le_refl _, fun _ _ _ h _ => h⟩
theorem KeptFrom.trans {B : Nat} {X Y Z : World} (h : KeptFrom B X Y) (k : KeptFrom B Y Z) : KeptFrom B X Z :=
  ⟨Nat.le_trans h.size k.size, fun i o hB hi ho => k.same i o hB (h.same i o hB hi ho) ho⟩
theorem KeptFrom.up {B B' : Nat} {X Y : World} (h : KeptFrom B X Y) (hB : B ≤ B') : KeptFrom B' X Y := ⟨h.size, fun i o hi => h.same i o (Nat.le_trans hB hi)⟩
theorem KeptFrom.below {B : Nat} {X Y : World} (h : Below X.heap.size X Y) : KeptFrom B X Y :=
  ⟨h.size, fun i _ _ hi _ => (h.block i (Array.getElem?_eq_some_iff.1 hi).1).trans hi⟩
theorem KeptFrom.set {B b j : Nat} {X : World} (hb : b < B) (v : Value) : KeptFrom B X (X.setCell ⟨b, j, none⟩ v) :=
  ⟨by simp [World.setCell], fun i o hB hi _ => by rw [Below.heap_setCell _ _ _ _ (by simp; omega)]; exact hi⟩
def Gives (P : Program) (g : Nat) (fst lb : Array Value) (xs : List (Array Value)) (Mem : Nat → World → Prop) : Prop :=
  ∀ (l : Nat) (J : Nat → World → Prop) (Jx : Unit → World → Prop) (W : World),
    (∀ k W1, J k W1 → Mem k W1) → Stays W.heap.size J → Stays W.heap.size Jx →
    (∀ k a W1, xs[k]? = some a → J k W1 → YieldAt Fence.wide 0 P l a W1 fun e W' =>
      (e = .returned (.bool true) ∧ J (k + 1) W' ∧ KeptFrom W.heap.size W1 W') ∨ (e = .returned (.bool false) ∧ Jx () W' ∧ KeptFrom W.heap.size W1 W')) →
    J 0 W →
    CallsIn Fence.wide 0 P g (fst ++ #[.func (.yield l) #[] #[]] ++ lb) W fun e W' =>
      (∃ v, e = .returned v) ∧ (J xs.length W' ∨ Jx () W')
def roundEnd (B : Nat) (I : Nat → World → Prop) (Ix : Code → World → Prop) (k : Nat) (W : World) : Exit → Act → World → Prop
  | .normal, _, W' => KeptFrom B W W' ∧ I k W'
  | .ret, _, W' => KeptFrom B W W' ∧ Ix .ret W'
  | .exit id, _, W' => KeptFrom B W W' ∧ Ix (.exit id) W'
  | .goto t, _, W' => KeptFrom B W W' ∧ Ix (.goto t) W'
  | .panic _, _, _ => False
  | .outgrown, _, _ => False
theorem range_gives {P : Program} {g : Operand} {ps : Array Tmp} {assign body : Code} {Q : Exit → Act → World → Prop} {a : Act} {w : World} {n : Nat} (m : Nat)
    {gf : Nat} {fst lb : Array Value} (hg : a.eval g = .func (.func gf) fst lb) (eg : ∀ args w, (callFunc gf args).run P w = .ok (.enter gf args) w)
    {xs : List (Array Value)} {Mem : Nat → World → Prop} (hgv : Gives P gf fst lb xs Mem) (hps : ∀ x ∈ xs, x.size = ps.size)
    (I : Nat → World → Prop) (Ix : Code → World → Prop) (Ax : Array Value → Act → World → Prop) (hMem : ∀ k W, I k W → Mem k W)
    (hI : Stays w.heap.size I) (hIx : Stays w.heap.size Ix) (hAx : ∀ x, Stays w.heap.size (Ax x)) (h0 : I 0 w)
    (hassign : ∀ (l k : Nat) (x : Array Value) (W : World) (K : Act → World → Prop), xs[k]? = some x → I k W → (∀ a' W', KeptFrom w.heap.size W W' → I k W' → Ax x a' W' → K a' W') →
      assign.wpIn (Fence.wide.inRound l) m P (Exit.then K (fun _ _ _ => False)) { tmps := (ps.zip x).foldl (fun t (p, v) => t.setIfInBounds p v) a.tmps, defers := [] } W)
    (hbody : ∀ (l k : Nat) (x : Array Value) (a' : Act) (W : World), xs[k]? = some x → I k W → Ax x a' W → body.wpIn (Fence.wide.inRound l) m P (roundEnd w.heap.size I Ix (k + 1) W) a' W)
    (hdone : ∀ (D : Nat) (W : World), w.heap.size ≤ D → I xs.length W → W.heap[D]? = some (.deferred (some [])) → Q .normal { a with defers := { target := .collected D, args := #[] } :: a.defers } W)
    (hstop : ∀ (D : Nat) (c : Code) (W : World), w.heap.size ≤ D → Ix c W → W.heap[D]? = some (.deferred (some [])) → c.wpIn Fence.wide n P Q { a with defers := { target := .collected D, args := #[] } :: a.defers } W) :
    (Code.rangeFunc g ps assign body).wpIn Fence.wide n P Q a w := by
  refine wpIn_rangeFunc ?_
  intro fn hfn
  obtain ⟨d0, hd0⟩ : ∃ d0, w.heap.size = d0 := ⟨_, rfl⟩
  obtain ⟨rc, hrc⟩ : ∃ rc : LoopState → Option Code → Loop, rc = fun st pe => { state := st, pending := pe, fn, tmps := a.tmps, params := ps, assign, body, defers := d0 } := ⟨_, rfl⟩
  obtain ⟨W1, hW1⟩ : ∃ W1, (w.alloc (.deferred (some []))).alloc (.loop (rc .ready none)) = W1 := ⟨_, rfl⟩
  have hs1 : W1.heap.size = d0 + 2 := by rw [← hW1]; simp [hd0]
  have hL1 : W1.heap[d0 + 1]? = some (.loop (rc .ready none)) := by
    have := World.alloc_heap_new (w.alloc (.deferred (some []))) (.loop (rc .ready none)); rw [World.size_alloc, hd0, hW1] at this; exact this
  have hD1 : W1.heap[d0]? = some (.deferred (some [])) := by
    have h := World.alloc_heap_new w (.deferred (some [])); rw [hd0] at h
    rw [← hW1]; exact (Below.heap_alloc _ _ _ (by simp [hd0])).trans h
  have hen : (Instr.enterLoop fn a.tmps ps assign body Fence.wide.round).run P w = .ok (d0 + 1, [{ target := .collected d0, args := #[] }]) W1 := by
    rw [← hW1, hrc, ← hd0]; exact run_enterLoop_outer _ _ _ _ _
  rw [hd0] at hI hIx hAx hassign hbody hdone hstop
  refine ⟨d0 + 1, [{ target := .collected d0, args := #[] }], W1, { target := .fn (.func gf) lb, args := fst ++ #[.func (.yield (d0 + 1)) #[] #[]] }, W1, gf,
    fst ++ #[.func (.yield (d0 + 1)) #[] #[]] ++ lb, W1, hen, ?_, ?_, ?_, ?_, ?_⟩
  · simp only [resolve, hg]; simp [go_sem]
  · intro _ _; trivial
  · simp [invoke, go_sem, eg]
  · intro h; cases h
  refine callAny _ ((hgv (d0 + 1)
    (fun k W => I k W ∧ W.heap[d0 + 1]? = some (.loop (rc .ready none)) ∧ W.heap[d0]? = some (.deferred (some [])))
    (fun _ W => ∃ c, Ix c W ∧ W.heap[d0 + 1]? = some (.loop (rc .done (some c))) ∧ W.heap[d0]? = some (.deferred (some [])))
    W1 (fun k W h => hMem k W h.1) ?_ ?_ ?_ ⟨?_, hL1, hD1⟩).mono ?_)
  · intro k A B hs hw
    exact ⟨hI k A B hs.1 (hw.down (by omega)), hw.block _ _ hs.2.1 (.inl (by omega)), hw.block _ _ hs.2.2 (.inl (by omega))⟩
  · rintro k A B ⟨c, hc, hs1, hs2⟩ hw
    exact ⟨c, hIx c A B hc (hw.down (by omega)), hw.block _ _ hs1 (.inl (by omega)), hw.block _ _ hs2 (.inl (by omega))⟩
  · rintro k x W hx ⟨hi, hl, hdf⟩
    rw [hs1]
    have hy := run_yield (P := P) (args := x) hl (by rw [hrc]; exact hps x (List.mem_of_getElem? hx))
    rw [hrc] at hy
    refine yieldAny (m := m) 0 ⟨fn, _, assign, body, hy, roundIn_of_wpIn hfn (hassign _ k x W _ hx hi ?_)⟩
    clear hy
    intro a' Wa hka hia hax
    have hla := hka.same _ _ (by omega) hl (fun c t fz e => by cases e)
    have hda := hka.same _ _ (by omega) hdf (fun c t fz e => by cases e)
    have hlt : d0 + 1 < Wa.heap.size := (Array.getElem?_eq_some_iff.1 hla).1
    refine ⟨_, run_beginRound hla (by rw [hrc]), ?_⟩
    obtain ⟨Wb, hWb⟩ : ∃ Wb, Wa.putObj (d0 + 1) (.loop { rc .ready none with state := .busy }) = Wb := ⟨_, rfl⟩
    have hl2 : Wb.heap[d0 + 1]? = some (.loop { rc .ready none with state := .busy }) := by rw [← hWb]; exact World.putObj_heap_same hlt
    have hk2 : Wb.heap[d0]? = some (.deferred (some [])) := by rw [← hWb]; exact (World.putObj_heap_other (by omega)).trans hda
    have hsb : Sim d0 Wa Wb := by rw [← hWb]; exact Sim.putObj _ (by omega) hla rfl
    have hkb : KeptFrom (d0 + 2) Wa Wb := by
      rw [← hWb]; exact ⟨by simp [World.putObj], fun i o hB hi _ => by rw [World.putObj_heap_other (by omega)]; exact hi⟩
    rw [hWb]
    refine wpIn_mono (hbody _ k x a' Wb hx (hI _ _ _ hia hsb) (hAx _ _ _ _ hax hsb)) ?_
    have fin : ∀ (jump : Option Code) (W3 : World), KeptFrom d0 Wb W3 → ∃ W4,
        (Instr.endRound (d0 + 1) jump).run P W3 = .ok (.bool jump.isNone) W4 ∧ Sim d0 W3 W4 ∧ KeptFrom (d0 + 2) W W4 ∧
        W4.heap[d0 + 1]? = some (.loop (rc (if jump.isNone then .ready else .done) jump)) ∧
        W4.heap[d0]? = some (.deferred (some [])) := fun jump W3 hk3 => by
      have hl3 := hk3.same _ _ (by omega) hl2 (fun c t fz e => by cases e)
      have hr := run_endRound (P := P) jump hl3
      refine ⟨W3.putObj (d0 + 1) (.loop (rc (if jump.isNone then .ready else .done) jump)), ?_, Sim.putObj _ (by omega) hl3 rfl, ?_, World.putObj_heap_same (Array.getElem?_eq_some_iff.1 hl3).1,
        (World.putObj_heap_other (by omega)).trans (hk3.same _ _ (Nat.le_refl _) hk2 (fun c t fz e => by cases e))⟩
      · rw [hrc] at hr ⊢
        exact hr
      · refine ((hka.up (by omega)).trans (hkb.trans (hk3.up (by omega)))).trans ⟨by simp [World.putObj], fun i o hB hi _ => by rw [World.putObj_heap_other (by omega)]; exact hi⟩
    rintro e a3 W3 hp
    cases e with
    | normal =>
      obtain ⟨W4, hr, hs4, hkk, hl4, hk4⟩ := fin none W3 hp.1
      exact ⟨_, _, hr, .inl ⟨rfl, ⟨hI _ _ _ hp.2 hs4, hl4, hk4⟩, hkk⟩⟩
    | ret =>
      obtain ⟨W4, hr, hs4, hkk, hl4, hk4⟩ := fin (some .ret) W3 hp.1
      exact ⟨_, _, hr, .inr ⟨rfl, ⟨.ret, hIx _ _ _ hp.2 hs4, hl4, hk4⟩, hkk⟩⟩
    | exit id =>
      obtain ⟨W4, hr, hs4, hkk, hl4, hk4⟩ := fin (some (.exit id)) W3 hp.1
      exact ⟨_, _, hr, .inr ⟨rfl, ⟨.exit id, hIx _ _ _ hp.2 hs4, hl4, hk4⟩, hkk⟩⟩
    | goto t =>
      obtain ⟨W4, hr, hs4, hkk, hl4, hk4⟩ := fin (some (.goto t)) W3 hp.1
      exact ⟨_, _, hr, .inr ⟨rfl, ⟨.goto t, hIx _ _ _ hp.2 hs4, hl4, hk4⟩, hkk⟩⟩
    | panic ch => exact hp.elim
    | outgrown => exact hp.elim
  · rw [← hW1]; exact hI _ _ _ h0 ((Sim.alloc _ _ _).trans (Sim.alloc _ _ _))
  · rintro e W2 ⟨⟨v, rfl⟩, (⟨hi, hl, hk⟩ | ⟨c, hi, hl, hk⟩)⟩
    · exact ⟨none, _, by have := run_endLoop (P := P) hl (by rw [hrc]; simp); rw [hrc] at this; exact this, hdone _ _ (Nat.le_refl _) (hI _ _ _ hi (Sim.putObj _ (by omega) hl rfl)) ((World.putObj_heap_other (by omega)).trans hk)⟩
    · exact ⟨some c, _, by have := run_endLoop (P := P) hl (by rw [hrc]; simp); rw [hrc] at this; exact this, hstop _ c _ (Nat.le_refl _) (hIx _ _ _ hi (Sim.putObj _ (by omega) hl rfl)) ((World.putObj_heap_other (by omega)).trans hk)⟩
end Go.Proofs.YthdcceackfdbbaaGreatDoor
namespace Go.Proofs.YthdcceackfdbbaaGreatDoor
open Go Go.RowKit
def Arr (w : World) (g : Nat) (t : TypeId) (l : List Value) : Prop := w.heap[g]? = some (.cells l.toArray t (0, 0))
theorem Arr.lt {w : World} {g : Nat} {t : TypeId} {l : List Value} (h : Arr w g t l) : g < w.heap.size := (Array.getElem?_eq_some_iff.1 h).1
theorem Arr.cell {w : World} {g : Nat} {t : TypeId} {l : List Value} (h : Arr w g t l) {i : Nat} {v : Value} (hi : l[i]? = some v) : w.cell? ⟨g, i, none⟩ = some v := by
  simp [World.cell?, show w.heap[g]? = _ from h, hi]
theorem Arr.frozen {w : World} {g : Nat} {t : TypeId} {l : List Value} (h : Arr w g t l) (i : Nat) : w.frozen? ⟨g, i, none⟩ = false := by
  simp [World.frozen?, show w.heap[g]? = _ from h]
theorem Arr.new (w : World) (t : TypeId) (a : Array Value) : Arr (w.alloc (.cells a t)) w.heap.size t a.toList := by
  unfold Arr; rw [World.alloc_heap_new]
theorem Arr.newL (w : World) (t : TypeId) (l : List Value) : Arr (w.alloc (.cells l.toArray t)) w.heap.size t l := World.alloc_heap_new w _
theorem Arr.eq {w w' : World} {g : Nat} {t : TypeId} {l : List Value} (h : Arr w g t l) (e : w'.heap[g]? = w.heap[g]?) : Arr w' g t l := e.trans h
theorem Arr.alloc {w : World} {g : Nat} {t : TypeId} {l : List Value} (h : Arr w g t l) (o : Obj) : Arr (w.alloc o) g t l := h.eq (Below.heap_alloc _ _ _ h.lt)
theorem Arr.drewN {w : World} {g : Nat} {t : TypeId} {l : List Value} (h : Arr w g t l) (n : Nat) : Arr (w.drewN n) g t l := h
theorem Arr.drew {w : World} {g : Nat} {t : TypeId} {l : List Value} (h : Arr w g t l) : Arr w.drew g t l := h
theorem Arr.below {w w' : World} {B g : Nat} {t : TypeId} {l : List Value} (h : Arr w g t l) (b : Below B w w') (hg : g < B) : Arr w' g t l := h.eq (b.block g hg)
theorem Arr.belowAll {w w' : World} {g : Nat} {t : TypeId} {l : List Value} (h : Arr w g t l) (b : Below w.heap.size w w') : Arr w' g t l := h.below b h.lt
theorem Arr.other {w : World} {g : Nat} {t : TypeId} {l : List Value} (h : Arr w g t l) {g' i : Nat} (v : Value) (hne : g ≠ g') : Arr (w.setCell ⟨g', i, none⟩ v) g t l :=
  h.eq (Below.heap_setCell _ _ _ _ hne)
theorem Arr.sim {B : Nat} {w w' : World} {g : Nat} {t : TypeId} {l : List Value} (h : Arr w g t l) (s : Sim B w w') : Arr w' g t l := s.block g _ h (.inr rfl)
theorem Arr.kept {B : Nat} {w w' : World} {g : Nat} {t : TypeId} {l : List Value} (h : Arr w g t l) (k : KeptFrom B w w') (hB : B ≤ g) (ht : t ≠ 5 ∧ t ≠ 117) : Arr w' g t l :=
  k.same g _ hB h (fun c t' fz e => by cases e; exact ht)
theorem Arr.set {w : World} {g : Nat} {t : TypeId} {l : List Value} (h : Arr w g t l) (i : Nat) (v : Value) : Arr (w.setCell ⟨g, i, none⟩ v) g t (l.set i v) := by
  unfold Arr at h ⊢
  unfold World.setCell
  simp only [Array.getElem?_modify, h]
  simp
def allocs (w : World) : List Obj → World
  | [] => w
  | o :: r => allocs (w.alloc o) r
theorem allocs_size (w : World) : ∀ os : List Obj, (allocs w os).heap.size = w.heap.size + os.length
  | [] => rfl
  | o :: r => by rw [allocs, allocs_size, World.size_alloc, List.length_cons]; omega
theorem allocs_below (w : World) : ∀ os : List Obj, Below w.heap.size w (allocs w os)
  | [] => Below.refl _ _
  | o :: r => ((Below.refl _ _).alloc (Nat.le_refl _) o).trans ((allocs_below (w.alloc o) r).mono (by simp))
theorem allocs_at : ∀ (os : List Obj) (w : World) (i : Nat) (o : Obj), os[i]? = some o → (allocs w os).heap[w.heap.size + i]? = some o
  | [], _, _, _, h => by simp at h
  | x :: r, w, 0, o, h => by
    simp at h; subst h
    exact ((allocs_below (w.alloc x) r).block _ (by simp)).trans (World.alloc_heap_new w x)
  | x :: r, w, i + 1, o, h => by
    have := allocs_at r (w.alloc x) i o (by simpa using h)
    rw [World.size_alloc] at this
    rw [allocs, show w.heap.size + (i + 1) = w.heap.size + 1 + i by omega]; exact this
theorem madeCells_one (z : Value) (hz : z.cells = #[z]) (n : Nat) : madeCells z.cells n = Array.replicate n z := by
  rw [hz]; unfold madeCells
  apply Array.ext
  · simp
  · intro i h1 h2; simp [Nat.mod_one]
theorem run_make1 {P : Program} (t e : TypeId) (i : TypeInfo) (z : Value) (ht : P.underlying t = some (.slice e)) (hi : P.info? e = some i) (hz : i.zero = some z) (hs : i.size = 1) (hzc : z.cells = #[z])
    (n : Nat) (hb : i.bytes * n ≤ 281474976710656) (hn : n ≤ 140737488355328) (w : World) :
    (Instr.makeSlice t (.int .i64 (n : Int)) (.int .i64 (n : Int))).run P w = .ok (.slice (some ⟨w.heap.size, 0, none⟩) n n) (w.alloc (.cells (Array.replicate n z) e)) := by
  have h := run_make (P := P) w t e i z ht hi hz .i64 .i64 (n : Int) (n : Int) (by omega) (by omega) (by rw [← Int.natCast_mul]; omega) (by omega)
  rw [Int.toNat_natCast, hs, Nat.mul_one, madeCells_one z hzc] at h
  exact h
theorem Arr.newR (w : World) (t : TypeId) (n : Nat) (z : Value) : Arr (w.alloc (.cells (Array.replicate n z) t)) w.heap.size t (List.replicate n z) := by
  have := Arr.new w t (Array.replicate n z)
  rw [Array.toList_replicate] at this; exact this
end Go.Proofs.YthdcceackfdbbaaGreatDoor
