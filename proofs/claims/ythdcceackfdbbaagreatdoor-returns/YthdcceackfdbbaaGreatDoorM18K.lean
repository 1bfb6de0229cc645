import Derived.Test.YthdcceackfdbbaaGreatDoorM09K
import Derived.Test.YthdcceackfdbbaaGreatDoorM17K
import Derived.Test.YthdcceackfdbbaaGreatDoorM11K
import Derived.Test.YthdcceackfdbbaaGreatDoorM10K
import Derived.Test.YthdcceackfdbbaaGreatDoorM06K
import Derived.Deep.QuietTactic
import Derived.BigQuiet
import Derived.ArgAppend
import Derived.OwnWalk
/- Own text: rows of numbers (what the laws without the document's answer need of it). -/
namespace Go.Proofs.YthdcceackfdbbaaGreatDoor
open Go Go.RowKit

def u64s (l : List Nat) : List Value := l.map fun x : Nat => Value.int .u64 (x : Int)
def u64L (xs : List Nat) : List Value := xs.map fun (x : Nat) => .int .u64 (x : Int)

theorem BufIs.below {w w' : World} {ao : Option Addr} {xs : List Nat} (h : BufIs w ao xs) (b : Below w.heap.size w w') : BufIs w' ao xs := fun k x hk => by
  obtain ⟨h1, ad, h2, h3, h4⟩ := h k x hk
  exact ⟨h1, ad, h2, Nat.lt_of_lt_of_le h3 b.size, (b.cell (p := ad.add k) (by rw [Go.ChangeShapes.block_add]; exact h3)).trans h4⟩
theorem BufIs.lt {w : World} {ao : Option Addr} {xs : List Nat} (h : BufIs w ao xs) : ∀ x ∈ xs, x < 18446744073709551616 := fun x hx => by
  obtain ⟨k, hk, he⟩ := List.getElem_of_mem hx
  exact (h k x (by rw [← he]; simp [hk])).1
theorem bytes_ext {s t : ByteArray} {l : List UInt8} (h : s.data.toList = l) (h' : t.data.toList = l) : s = t := by rw [bytes_of_list h, bytes_of_list h']

end Go.Proofs.YthdcceackfdbbaaGreatDoor
/- Own text: words out of bytes. -/
namespace Go.Proofs.YthdcceackfdbbaaGreatDoor
open Go Go.RowKit

/-- the number of bytes, the low one first -/
def valL : List UInt8 → Nat
  | [] => 0
  | b :: r => b.toNat + 256 * valL r

theorem valL_lt : ∀ l, valL l < 256 ^ l.length
  | [] => by simp [valL]
  | b :: r => by
    have h1 := valL_lt r
    have h2 := b.toNat_lt
    simp only [valL, List.length_cons, Nat.pow_succ]
    omega

theorem valL_snoc : ∀ (l : List UInt8) (b : UInt8), valL (l ++ [b]) = valL l + b.toNat * 256 ^ l.length
  | [], b => by simp [valL]
  | c :: r, b => by
    have := valL_snoc r b
    simp only [List.cons_append, valL, this, List.length_cons, Nat.pow_succ]
    rw [Nat.mul_add, Nat.mul_left_comm 256 b.toNat, Nat.mul_comm 256 (256 ^ r.length), Nat.add_assoc]

theorem or_add {a b k : Nat} (h : a < 2 ^ k) : a ||| (b * 2 ^ k) = a + b * 2 ^ k := by
  rw [Nat.mul_comm b, Nat.add_comm, Nat.or_comm]
  exact (Nat.two_pow_add_eq_or_of_lt h b).symm

/-- the bytes of a row, from a place on -/
def BytesAt (w : World) (g off : Nat) (l : List UInt8) : Prop := ∀ k x, l[k]? = some x → w.cell? ⟨g, off + k, none⟩ = some (.int .u8 (x.toNat : Int))

theorem cut_step8 {l : List UInt8} {i : Nat} {x : UInt8} (hx : l[i]? = some x) (hi : i < 1) : bits .or .u8 (valL (l.take i) : Int) ((x.toNat : Int) * 2 ^ (8 * i) % 256) = (valL (l.take (i + 1)) : Int) := by
  have h2 := x.toNat_lt
  have hil : i < l.length := (List.getElem?_eq_some_iff.1 hx).1
  have hpw : 2 ^ (8 * i) = 256 ^ i := by rw [Nat.pow_mul]
  have h4 : valL (l.take i) < 2 ^ (8 * i) := by
    have := valL_lt (l.take i)
    rw [List.length_take, Nat.min_eq_left (by omega)] at this
    rw [hpw]; exact this
  have h5 : 2 ^ (8 * i) * 256 ≤ 256 := by
    have : 2 ^ (8 * i) ≤ 2 ^ 0 := Nat.pow_le_pow_right (by omega) (by omega)
    have e : (2 : Nat) ^ 0 * 256 = 256 := by decide
    omega
  have h3 : x.toNat * 2 ^ (8 * i) < 256 := by
    have : x.toNat * 2 ^ (8 * i) < 256 * 2 ^ (8 * i) := Nat.mul_lt_mul_of_pos_right h2 (Nat.two_pow_pos _)
    omega
  have e2 : (x.toNat : Int) * 2 ^ (8 * i) = ((x.toNat * 2 ^ (8 * i) : Nat) : Int) := by simp
  have e3 : ((x.toNat * 2 ^ (8 * i) : Nat) : Int) % 256 = ((x.toNat * 2 ^ (8 * i) : Nat) : Int) := by omega
  rw [e2, e3, u8_or_nat _ _ (by omega) h3, or_add h4, List.take_add_one, hx, Option.toList_some, valL_snoc, List.length_take, Nat.min_eq_left (by omega), hpw]

set_option maxRecDepth 20000 in
set_option maxHeartbeats 1000000 in
theorem cut8_any (w : World) (g off cap : Nat) (l : List UInt8) (h : BytesAt w g off l) (hl : 1 ≤ l.length) (hcap : l.length ≤ cap) (hm : cap ≤ 9223372036854775807) :
    Calls Tryz.prog 183 #[.slice (some ⟨g, off, none⟩) l.length cap] w fun e w' => e = .returned (.tuple #[.int .u8 (valL (l.take 1) : Int), .slice (if cap = 1 then some ⟨g, off, none⟩ else some ⟨g, off + 1, none⟩) (l.length - 1) (cap - 1)]) ∧ ∃ m, w' = w.drewN m := by
  have HB := hid h
  clear h
  obtain ⟨n, hn⟩ : ∃ n, l.length = n := ⟨_, rfl⟩
  rw [hn] at hl hcap ⊢
  go_enter Tryz.func183, Tryz.ntmps183
  go_wp2_with fail
  refine (size8 _).mono ?_
  rintro e w1 ⟨rfl, hw1⟩
  rw [hw1]
  clear hw1
  go_wp2
  go_loopw [2, 8] (fun vx vi wr => ∃ i : Nat, vi = .int .i64 (i : Int) ∧ i ≤ 1 ∧ vx = .int .u8 (valL (l.take i) : Int) ∧ wr = w) (fun _ vi _ => 1 - (intOf vi).toNat)
  case atStart => exact ⟨0, rfl, by omega, rfl, rfl⟩
  case round =>
    obtain ⟨i, rfl, hi, rfl, rfl⟩ := hrel
    by_cases hlt : i < 1
    · have hlt' : (i : Int) < 1 := by omega
      have hlt2 : (i : Int) < n := by omega
      obtain ⟨x, hx⟩ : ∃ x, l[i]? = some x := ⟨l[i]'(by omega), by simp⟩
      have hc := HB.out i x hx
      have HX := hid hx
      clear hx
      go_wp2
      refine ⟨⟨i + 1, by simp, by omega, ?_, trivial⟩, by simp [intOf]; omega⟩
      rw [cut_step8 HX.out hlt]
    · have hlt' : ¬ (i : Int) < 1 := by omega
      obtain rfl : i = 1 := by omega
      have h8 : ¬ ((n : Int) < 1) := by omega
      go_wp2
      go_quiet (fail)
      go_wp2
      all_goals (go_ret2; exact ⟨rfl, _, rfl⟩)

theorem cut_step16 {l : List UInt8} {i : Nat} {x : UInt8} (hx : l[i]? = some x) (hi : i < 2) : bits .or .u16 (valL (l.take i) : Int) (IntKind.u16.wrap ((IntKind.u16.wrap (x.toNat : Int)) * 2 ^ (8 * i))) = (valL (l.take (i + 1)) : Int) := by
  have h2 := x.toNat_lt
  have hil : i < l.length := (List.getElem?_eq_some_iff.1 hx).1
  have hpw : 2 ^ (8 * i) = 256 ^ i := by rw [Nat.pow_mul]
  have h4 : valL (l.take i) < 2 ^ (8 * i) := by
    have := valL_lt (l.take i)
    rw [List.length_take, Nat.min_eq_left (by omega)] at this
    rw [hpw]; exact this
  have h5 : 2 ^ (8 * i) * 256 ≤ 65536 := by
    have : 2 ^ (8 * i) ≤ 2 ^ 8 := Nat.pow_le_pow_right (by omega) (by omega)
    have e : (2 : Nat) ^ 8 * 256 = 65536 := by decide
    omega
  have h3 : x.toNat * 2 ^ (8 * i) < 65536 := by
    have : x.toNat * 2 ^ (8 * i) < 256 * 2 ^ (8 * i) := Nat.mul_lt_mul_of_pos_right h2 (Nat.two_pow_pos _)
    omega
  have e1 : IntKind.u16.wrap (x.toNat : Int) = (x.toNat : Int) := by rw [IntKind.wrap_u16]; omega
  rw [e1]
  have e2 : (x.toNat : Int) * 2 ^ (8 * i) = ((x.toNat * 2 ^ (8 * i) : Nat) : Int) := by simp
  have e3 : IntKind.u16.wrap ((x.toNat * 2 ^ (8 * i) : Nat) : Int) = ((x.toNat * 2 ^ (8 * i) : Nat) : Int) := by rw [IntKind.wrap_u16]; omega
  rw [e2, e3, u16_or_nat _ _ (by omega) h3, or_add h4, List.take_add_one, hx, Option.toList_some, valL_snoc, List.length_take, Nat.min_eq_left (by omega), hpw]

set_option maxRecDepth 20000 in
set_option maxHeartbeats 1000000 in
theorem cut16_any (w : World) (g off cap : Nat) (l : List UInt8) (h : BytesAt w g off l) (hl : 2 ≤ l.length) (hcap : l.length ≤ cap) (hm : cap ≤ 9223372036854775807) :
    Calls Tryz.prog 184 #[.slice (some ⟨g, off, none⟩) l.length cap] w fun e w' => e = .returned (.tuple #[.int .u16 (valL (l.take 2) : Int), .slice (if cap = 2 then some ⟨g, off, none⟩ else some ⟨g, off + 2, none⟩) (l.length - 2) (cap - 2)]) ∧ ∃ m, w' = w.drewN m := by
  have HB := hid h
  clear h
  obtain ⟨n, hn⟩ : ∃ n, l.length = n := ⟨_, rfl⟩
  rw [hn] at hl hcap ⊢
  go_enter Tryz.func184, Tryz.ntmps184
  go_wp2_with fail
  refine (size16 _).mono ?_
  rintro e w1 ⟨rfl, hw1⟩
  rw [hw1]
  clear hw1
  go_wp2
  go_loopw [2, 8] (fun vx vi wr => ∃ i : Nat, vi = .int .i64 (i : Int) ∧ i ≤ 2 ∧ vx = .int .u16 (valL (l.take i) : Int) ∧ wr = w) (fun _ vi _ => 2 - (intOf vi).toNat)
  case atStart => exact ⟨0, rfl, by omega, rfl, rfl⟩
  case round =>
    obtain ⟨i, rfl, hi, rfl, rfl⟩ := hrel
    by_cases hlt : i < 2
    · have hlt' : (i : Int) < 2 := by omega
      have hlt2 : (i : Int) < n := by omega
      obtain ⟨x, hx⟩ : ∃ x, l[i]? = some x := ⟨l[i]'(by omega), by simp⟩
      have hc := HB.out i x hx
      have HX := hid hx
      clear hx
      go_wp2
      refine ⟨⟨i + 1, by simp, by omega, ?_, trivial⟩, by simp [intOf]; omega⟩
      rw [cut_step16 HX.out hlt]
    · have hlt' : ¬ (i : Int) < 2 := by omega
      obtain rfl : i = 2 := by omega
      have h8 : ¬ ((n : Int) < 2) := by omega
      go_wp2
      go_quiet (fail)
      go_wp2
      all_goals (go_ret2; exact ⟨rfl, _, rfl⟩)

theorem cut_step32 {l : List UInt8} {i : Nat} {x : UInt8} (hx : l[i]? = some x) (hi : i < 4) : bits .or .u32 (valL (l.take i) : Int) ((x.toNat : Int) % 4294967296 * 2 ^ (8 * i) % 4294967296) = (valL (l.take (i + 1)) : Int) := by
  have h2 := x.toNat_lt
  have hil : i < l.length := (List.getElem?_eq_some_iff.1 hx).1
  have hpw : 2 ^ (8 * i) = 256 ^ i := by rw [Nat.pow_mul]
  have h4 : valL (l.take i) < 2 ^ (8 * i) := by
    have := valL_lt (l.take i)
    rw [List.length_take, Nat.min_eq_left (by omega)] at this
    rw [hpw]; exact this
  have h5 : 2 ^ (8 * i) * 256 ≤ 4294967296 := by
    have : 2 ^ (8 * i) ≤ 2 ^ 24 := Nat.pow_le_pow_right (by omega) (by omega)
    have e : (2 : Nat) ^ 24 * 256 = 4294967296 := by decide
    omega
  have h3 : x.toNat * 2 ^ (8 * i) < 4294967296 := by
    have : x.toNat * 2 ^ (8 * i) < 256 * 2 ^ (8 * i) := Nat.mul_lt_mul_of_pos_right h2 (Nat.two_pow_pos _)
    omega
  have e1 : (x.toNat : Int) % 4294967296 = (x.toNat : Int) := by omega
  rw [e1]
  have e2 : (x.toNat : Int) * 2 ^ (8 * i) = ((x.toNat * 2 ^ (8 * i) : Nat) : Int) := by simp
  have e3 : ((x.toNat * 2 ^ (8 * i) : Nat) : Int) % 4294967296 = ((x.toNat * 2 ^ (8 * i) : Nat) : Int) := by omega
  rw [e2, e3, u32_or_nat _ _ (by omega) h3, or_add h4, List.take_add_one, hx, Option.toList_some, valL_snoc, List.length_take, Nat.min_eq_left (by omega), hpw]

set_option maxRecDepth 20000 in
set_option maxHeartbeats 1000000 in
theorem cut32_any (w : World) (g off cap : Nat) (l : List UInt8) (h : BytesAt w g off l) (hl : 4 ≤ l.length) (hcap : l.length ≤ cap) (hm : cap ≤ 9223372036854775807) :
    Calls Tryz.prog 215 #[.slice (some ⟨g, off, none⟩) l.length cap] w fun e w' => e = .returned (.tuple #[.int .u32 (valL (l.take 4) : Int), .slice (if cap = 4 then some ⟨g, off, none⟩ else some ⟨g, off + 4, none⟩) (l.length - 4) (cap - 4)]) ∧ ∃ m, w' = w.drewN m := by
  have HB := hid h
  clear h
  obtain ⟨n, hn⟩ : ∃ n, l.length = n := ⟨_, rfl⟩
  rw [hn] at hl hcap ⊢
  go_enter Tryz.func215, Tryz.ntmps215
  go_wp2_with fail
  refine (size32 _).mono ?_
  rintro e w1 ⟨rfl, hw1⟩
  rw [hw1]
  clear hw1
  go_wp2
  go_loopw [2, 8] (fun vx vi wr => ∃ i : Nat, vi = .int .i64 (i : Int) ∧ i ≤ 4 ∧ vx = .int .u32 (valL (l.take i) : Int) ∧ wr = w) (fun _ vi _ => 4 - (intOf vi).toNat)
  case atStart => exact ⟨0, rfl, by omega, rfl, rfl⟩
  case round =>
    obtain ⟨i, rfl, hi, rfl, rfl⟩ := hrel
    by_cases hlt : i < 4
    · have hlt' : (i : Int) < 4 := by omega
      have hlt2 : (i : Int) < n := by omega
      obtain ⟨x, hx⟩ : ∃ x, l[i]? = some x := ⟨l[i]'(by omega), by simp⟩
      have hc := HB.out i x hx
      have HX := hid hx
      clear hx
      go_wp2
      refine ⟨⟨i + 1, by simp, by omega, ?_, trivial⟩, by simp [intOf]; omega⟩
      rw [cut_step32 HX.out hlt]
    · have hlt' : ¬ (i : Int) < 4 := by omega
      obtain rfl : i = 4 := by omega
      have h8 : ¬ ((n : Int) < 4) := by omega
      go_wp2
      go_quiet (fail)
      go_wp2
      all_goals (go_ret2; exact ⟨rfl, _, rfl⟩)

theorem cut_step64 {l : List UInt8} {i : Nat} {x : UInt8} (hx : l[i]? = some x) (hi : i < 8) : bits .or .u64 (valL (l.take i) : Int) (IntKind.u64.wrap ((IntKind.u64.wrap (x.toNat : Int)) * 2 ^ (8 * i))) = (valL (l.take (i + 1)) : Int) := by
  have h2 := x.toNat_lt
  have hil : i < l.length := (List.getElem?_eq_some_iff.1 hx).1
  have hpw : 2 ^ (8 * i) = 256 ^ i := by rw [Nat.pow_mul]
  have h4 : valL (l.take i) < 2 ^ (8 * i) := by
    have := valL_lt (l.take i)
    rw [List.length_take, Nat.min_eq_left (by omega)] at this
    rw [hpw]; exact this
  have h5 : 2 ^ (8 * i) * 256 ≤ 18446744073709551616 := by
    have : 2 ^ (8 * i) ≤ 2 ^ 56 := Nat.pow_le_pow_right (by omega) (by omega)
    have e : (2 : Nat) ^ 56 * 256 = 18446744073709551616 := by decide
    omega
  have h3 : x.toNat * 2 ^ (8 * i) < 18446744073709551616 := by
    have : x.toNat * 2 ^ (8 * i) < 256 * 2 ^ (8 * i) := Nat.mul_lt_mul_of_pos_right h2 (Nat.two_pow_pos _)
    omega
  have e1 : IntKind.u64.wrap (x.toNat : Int) = (x.toNat : Int) := by rw [IntKind.wrap_u64]; omega
  rw [e1]
  have e2 : (x.toNat : Int) * 2 ^ (8 * i) = ((x.toNat * 2 ^ (8 * i) : Nat) : Int) := by simp
  have e3 : IntKind.u64.wrap ((x.toNat * 2 ^ (8 * i) : Nat) : Int) = ((x.toNat * 2 ^ (8 * i) : Nat) : Int) := by rw [IntKind.wrap_u64]; omega
  rw [e2, e3, u64_or_nat _ _ (by omega) h3, or_add h4, List.take_add_one, hx, Option.toList_some, valL_snoc, List.length_take, Nat.min_eq_left (by omega), hpw]

set_option maxRecDepth 20000 in
set_option maxHeartbeats 1000000 in
theorem cut64_any (w : World) (g off cap : Nat) (l : List UInt8) (h : BytesAt w g off l) (hl : 8 ≤ l.length) (hcap : l.length ≤ cap) (hm : cap ≤ 9223372036854775807) :
    Calls Tryz.prog 236 #[.slice (some ⟨g, off, none⟩) l.length cap] w fun e w' => e = .returned (.tuple #[.int .u64 (valL (l.take 8) : Int), .slice (if cap = 8 then some ⟨g, off, none⟩ else some ⟨g, off + 8, none⟩) (l.length - 8) (cap - 8)]) ∧ ∃ m, w' = w.drewN m := by
  have HB := hid h
  clear h
  obtain ⟨n, hn⟩ : ∃ n, l.length = n := ⟨_, rfl⟩
  rw [hn] at hl hcap ⊢
  go_enter Tryz.func236, Tryz.ntmps236
  go_wp2_with fail
  refine (size64 _).mono ?_
  rintro e w1 ⟨rfl, hw1⟩
  rw [hw1]
  clear hw1
  go_wp2
  go_loopw [2, 8] (fun vx vi wr => ∃ i : Nat, vi = .int .i64 (i : Int) ∧ i ≤ 8 ∧ vx = .int .u64 (valL (l.take i) : Int) ∧ wr = w) (fun _ vi _ => 8 - (intOf vi).toNat)
  case atStart => exact ⟨0, rfl, by omega, rfl, rfl⟩
  case round =>
    obtain ⟨i, rfl, hi, rfl, rfl⟩ := hrel
    by_cases hlt : i < 8
    · have hlt' : (i : Int) < 8 := by omega
      have hlt2 : (i : Int) < n := by omega
      obtain ⟨x, hx⟩ : ∃ x, l[i]? = some x := ⟨l[i]'(by omega), by simp⟩
      have hc := HB.out i x hx
      have HX := hid hx
      clear hx
      go_wp2
      refine ⟨⟨i + 1, by simp, by omega, ?_, trivial⟩, by simp [intOf]; omega⟩
      rw [cut_step64 HX.out hlt]
    · have hlt' : ¬ (i : Int) < 8 := by omega
      obtain rfl : i = 8 := by omega
      have h8 : ¬ ((n : Int) < 8) := by omega
      go_wp2
      go_quiet (fail)
      go_wp2
      all_goals (go_ret2; exact ⟨rfl, _, rfl⟩)

end Go.Proofs.YthdcceackfdbbaaGreatDoor
/- Own text: what a call may turn; rows of one's own; cutSum. -/
namespace Go.Proofs.YthdcceackfdbbaaGreatDoor
open Go Go.RowKit

/-- only what lies in S may turn; what is new besides -/
structure Kept (S : Nat → Prop) (w w' : World) : Prop where
  os : w'.os = w.os
  tape : w'.tape = w.tape
  output : w'.output = w.output
  size : w.heap.size ≤ w'.heap.size
  block : ∀ k, k < w.heap.size → ¬ S k → w'.heap[k]? = w.heap[k]?

/-- S, and what is new -/
def plus (S : Nat → Prop) (w w' : World) : Nat → Prop := fun k => S k ∨ (w.heap.size ≤ k ∧ k < w'.heap.size)

theorem Kept.refl (S : Nat → Prop) (w : World) : Kept S w w := ⟨rfl, rfl, rfl, Nat.le_refl _, fun _ _ _ => rfl⟩
theorem Kept.trans {S T : Nat → Prop} {w w1 w2 : World} (h : Kept S w w1) (k : Kept T w1 w2) (hT : ∀ q, T q → S q ∨ w.heap.size ≤ q) : Kept S w w2 :=
  ⟨k.os.trans h.os, k.tape.trans h.tape, k.output.trans h.output, Nat.le_trans h.size k.size, fun q hq hs =>
    (k.block q (Nat.lt_of_lt_of_le hq h.size) (fun ht => by rcases hT q ht with h1 | h1; · exact hs h1
                                                            omega)).trans (h.block q hq hs)⟩
theorem Kept.mono {S T : Nat → Prop} {w w' : World} (h : Kept S w w') (hT : ∀ q, S q → T q) : Kept T w w' :=
  ⟨h.os, h.tape, h.output, h.size, fun q hq hs => h.block q hq (fun ht => hs (hT q ht))⟩
theorem Kept.ofBelow {S : Nat → Prop} {w w' : World} (h : Below w.heap.size w w') : Kept S w w' := ⟨h.os, h.tape, h.output, h.size, fun q hq _ => h.block q hq⟩
theorem Kept.below {B : Nat} {S : Nat → Prop} {w w' : World} (h : Kept S w w') (hS : ∀ q, S q → B ≤ q) (hB : B ≤ w.heap.size) : Below B w w' :=
  ⟨h.os, h.tape, h.output, h.size, fun q hq => h.block q (by omega) (fun hs => by have := hS q hs; omega)⟩
theorem Kept.grown {S : Nat → Prop} {w w' : World} {row : Option Nat} (h : w.grownBy w' row) (hr : ∀ k, row = some k → S k) : Kept S w w' :=
  ⟨h.os, h.tape, h.output, h.size, fun k hk hs => h.block k hk (fun e => hs (hr k e.symm))⟩
theorem Kept.set {S : Nat → Prop} {w : World} {b j : Nat} (hb : S b) (v : Value) : Kept S w (w.setCell ⟨b, j, none⟩ v) :=
  ⟨rfl, rfl, rfl, by simp [World.setCell], fun k _ hs => Below.heap_setCell _ _ _ _ (fun e => hs (by have e' : k = b := e; rw [e']; exact hb))⟩
theorem Kept.drewN {S : Nat → Prop} {w : World} (n : Nat) : Kept S w (w.drewN n) := ⟨rfl, rfl, rfl, Nat.le_refl _, fun _ _ _ => rfl⟩
theorem Kept.arr {S : Nat → Prop} {w w' : World} {g : Nat} {t : TypeId} {l : List Value} (h : Kept S w w') (ha : Arr w g t l) (hg : ¬ S g) : Arr w' g t l := (h.block g ha.lt hg).trans ha

/-- a row of one's own, its block in S -/
structure RowIn (w : World) (S : Nat → Prop) (e : TypeId) (size : Nat) (v : Value) (n : Nat) (xs : List Value) : Prop where
  row : w.ownsRow 0 e size v n xs
  own : ∀ g, v.ownBlock = some g → S g

theorem RowIn.nil (w : World) (S : Nat → Prop) (e : TypeId) (size : Nat) : RowIn w S e size (.slice none 0 0) 0 [] := ⟨World.ownsRow_nil _ _ _ _, fun g h => by cases h⟩
theorem RowIn.mono {w : World} {S T : Nat → Prop} {e : TypeId} {size : Nat} {v : Value} {n : Nat} {xs : List Value} (h : RowIn w S e size v n xs) (hT : ∀ q, S q → T q) : RowIn w T e size v n xs := ⟨h.row, fun g hg => hT g (h.own g hg)⟩
theorem RowIn.keep {w w' : World} {S : Nat → Prop} {e : TypeId} {size : Nat} {v : Value} {n : Nat} {xs : List Value} (h : RowIn w S e size v n xs) (hk : ∀ g, v.ownBlock = some g → w'.heap[g]? = w.heap[g]?) : RowIn w' S e size v n xs := by
  refine ⟨?_, h.own⟩
  obtain ⟨h0, h1 | ⟨g, cap, cur, rfl, hB, h2, h3⟩⟩ := h.row
  · exact ⟨h0, .inl h1⟩
  · exact ⟨h0, .inr ⟨g, cap, cur, rfl, hB, (hk g rfl).trans h2, h3⟩⟩
theorem RowIn.lt {w : World} {S : Nat → Prop} {e : TypeId} {size : Nat} {v : Value} {n : Nat} {xs : List Value} (h : RowIn w S e size v n xs) (g : Nat) (hg : v.ownBlock = some g) : g < w.heap.size ∧ ∃ c, w.heap[g]? = some (.cells c e (0, 0)) := by
  obtain ⟨h0, h1 | ⟨g', cap, cur, rfl, hB, h2, h3⟩⟩ := h.row
  · rw [h1.1] at hg; cases hg
  · obtain rfl : g' = g := Option.some.inj hg
    exact ⟨(Array.getElem?_eq_some_iff.1 h2).1, cur, h2⟩
theorem RowIn.below {w w' : World} {S : Nat → Prop} {e : TypeId} {size : Nat} {v : Value} {n : Nat} {xs : List Value} (h : RowIn w S e size v n xs) (b : Below w.heap.size w w') : RowIn w' S e size v n xs :=
  h.keep (fun g hg => b.block g (h.lt g hg).1)
theorem RowIn.set {w : World} {S : Nat → Prop} {e : TypeId} {size : Nat} {v : Value} {n : Nat} {xs : List Value} (h : RowIn w S e size v n xs) {b j : Nat} {t : TypeId} {c : List Value} (ha : Arr w b t c) (ht : t ≠ e) (u : Value) : RowIn (w.setCell ⟨b, j, none⟩ u) S e size v n xs :=
  h.keep (fun g hg => Below.heap_setCell _ _ _ _ (fun e' => by
    have e' : g = b := e'
    obtain ⟨_, c', hc⟩ := h.lt g hg
    rw [e', show w.heap[b]? = _ from ha] at hc
    cases hc
    exact ht rfl))
theorem RowIn.shape {w : World} {S : Nat → Prop} {e : TypeId} {size : Nat} {v : Value} {n : Nat} {xs : List Value} (h : RowIn w S e size v n xs) : ∃ a cap, v = .slice a n cap ∧ n ≤ cap ∧ cap ≤ maxLen := by
  obtain ⟨h0, ⟨h1, h2⟩ | ⟨g, cap, cur, rfl, _, h2, h3, h4, _⟩⟩ := h.row
  · exact ⟨none, 0, by rw [h1, h2], by omega, Nat.zero_le _⟩
  · exact ⟨_, cap, rfl, h3, h4⟩

/-- an append to a row of one's own: where it lies then -/
theorem run_append_mine {P : Program} (w : World) (t ty e : TypeId) (i : TypeInfo) (z : Value) (size bytes : Nat) (ht : P.underlying t = some (.slice e)) (hi : P.info? e = some i) (hz : i.zero = some z)
    (hsize : i.size = size) (hby : i.bytes = bytes) (hzs : z.cells.size = size) (hsz : 0 < size)
    (v : Value) (n : Nat) (xs : List Value) (hown : w.ownsRow 0 e size v n xs)
    (a : Addr) (m c : Nat) (news : List Value) (hl : news.length = m * size) (hnews : ∀ j u, news[j]? = some u → w.cell? (a.add j) = some u) (h1 : ∀ u ∈ news, u.oneCell' = true)
    (h63 : n + m ≤ maxLen) (hbytes : (n + m) * bytes ≤ 140737488355328) :
    ∃ v' w', (Builtin.append_ #[t, t] ty #[v, .slice (some a) m c]).run P w = .ok v' w' ∧ w'.ownsRow 0 e size v' (n + m) (xs ++ news) ∧ w.grownBy w' v.ownBlock ∧ (∀ g, v'.ownBlock = some g → v.ownBlock = some g ∨ w.heap.size ≤ g) := by
  obtain ⟨v', w', hr, h2, h3, h4⟩ := run_append_own (P := P) w 0 t ty e i z size bytes ht hi hz hsize hby hzs hsz v n xs hown a m c news hl hnews h1 h63 hbytes (Nat.zero_le _)
  refine ⟨v', w', hr, h2, h3, ?_⟩
  have new : ∀ v'' w'', (Builtin.append_ #[t, t] ty #[v, .slice (some a) m c]).run P w = .ok v'' w'' → w''.ownsRow w.heap.size e size v'' (n + m) (xs ++ news) → ∀ g, v'.ownBlock = some g → w.heap.size ≤ g := by
    intro v'' w'' hr2 ho g hg
    rw [hr] at hr2
    cases hr2
    obtain ⟨_, ⟨e1, _⟩ | ⟨g', cap, cur, rfl, hB, _⟩⟩ := ho
    · rw [e1] at hg; cases hg
    · obtain rfl : g' = g := Option.some.inj hg
      exact hB
  obtain ⟨h0, ⟨rfl, rfl⟩ | ⟨g, cap, cur, rfl, _, k2, k3, k4, k5, k6⟩⟩ := hown
  · obtain rfl : xs = [] := List.eq_nil_of_length_eq_zero (by simpa using h0)
    obtain ⟨v'', w'', hr2, ho, _⟩ := run_append_own (P := P) w w.heap.size t ty e i z size bytes ht hi hz hsize hby hzs hsz (.slice none 0 0) 0 [] (World.ownsRow_nil w _ e size) a m c news hl hnews h1 h63 hbytes (Nat.le_refl _)
    exact fun g hg => .inr (new v'' w'' hr2 ho g hg)
  · have ha : Arr w g e cur.toList := by unfold Arr; rw [Array.toArray_toList]; exact k2
    by_cases hroom : n + m ≤ cap
    · subst hsize
      have hin : ∀ j, j < news.length → 0 + n * i.size + j < cur.toList.length := fun j hj => by
        rw [Array.length_toList, k5]
        have : (n + m) * i.size ≤ cap * i.size := Nat.mul_le_mul_right _ hroom
        rw [Nat.add_mul] at this
        omega
      have hrun := run_append_room_cells (P := P) w t ty e i ht hi g 0 n cap a m c news hl hnews h1 hroom
        (fun j hj => by rw [ha.cell (List.getElem?_eq_getElem (hin j hj))]; rfl) (fun j hj => ha.frozen _)
      rw [hr] at hrun
      cases hrun
      exact fun g' hg' => .inl hg'
    · have hcells : ∀ j u, xs[j]? = some u → w.cell? ((⟨g, 0, none⟩ : Addr).add j) = some u := fun j u hj => by
        rw [Addr.add_lit]
        have hj' : j < n * size := by have := (List.getElem?_eq_some_iff.1 hj).1; omega
        rw [← k6, List.getElem?_take, if_pos hj'] at hj
        have := ha.cell hj
        simpa using this
      obtain ⟨v'', w'', hr2, ho, _⟩ := run_append_arg_grows (P := P) w t ty e i z size bytes ht hi hz hsize hby hzs hsz ⟨g, 0, none⟩ n cap xs h0 hcells a m c news hl hnews (by omega) h63 hbytes
      exact fun g' hg' => .inr (new v'' w'' hr2 ho g' hg')

theorem wpList_append_mine {P : Program} (w : World) {ops : Array Oper} {rest : List Oper} {o : Oper} {a : Act} {Q : Exit → Act → World → Prop} (hgd : o.guard = none) (s x : Operand) (t : TypeId)
    (ho : o.op = .call { callee := .builtin .append, args := #[s, x], argTypes := #[t, t] })
    (S : Nat → Prop) (e : TypeId) (i : TypeInfo) (z : Value) (size bytes : Nat) (ht : P.underlying t = some (.slice e)) (hi : P.info? e = some i) (hz : i.zero = some z)
    (hsize : i.size = size) (hby : i.bytes = bytes) (hzs : z.cells.size = size) (hsz : 0 < size)
    (v : Value) (n : Nat) (xs : List Value) (hs : a.eval s = v) (hown : RowIn w S e size v n xs)
    (ad : Addr) (m c : Nat) (news : List Value) (hx : a.eval x = .slice (some ad) m c) (hl : news.length = m * size) (hnews : ∀ j u, news[j]? = some u → w.cell? (ad.add j) = some u) (h1 : ∀ u ∈ news, u.oneCell' = true)
    (h63 : n + m ≤ maxLen) (hbytes : (n + m) * bytes ≤ 140737488355328)
    (h : ∀ v' w', RowIn w' (fun q => S q ∨ w.heap.size ≤ q) e size v' (n + m) (xs ++ news) → w.grownBy w' v.ownBlock → wpList P ops Q rest (a.put o.dst v') w') : wpList P ops Q (o :: rest) a w := by
  refine wpList_plain hgd fun K hK => ?_
  obtain ⟨v', w', hr, h2, h3, h4⟩ := run_append_mine (P := P) w t o.type e i z size bytes ht hi hz hsize hby hzs hsz v n xs hown.row ad m c news hl hnews h1 h63 hbytes
  unfold Oper.wp execOp
  simp only [ho, resolve, invoke, builtin, Sem.run_bind, Sem.run_pure, Result.andThen_ok, List.map_toArray, List.map_cons, List.map_nil, hs, hx, hr]
  exact hK _ _ (h v' w' ⟨h2, fun g hg => (h4 g hg).imp (hown.own g) id⟩ h3)

/-- the bytes of a row of one's own -/
theorem RowIn.bytes {w : World} {S : Nat → Prop} {v : Value} {l : List UInt8} (h : RowIn w S 5 1 v l.length (u8s l)) : ∃ ao cap, v = .slice ao l.length cap ∧ l.length ≤ cap ∧ cap ≤ 9223372036854775807 ∧ ((ao = none ∧ l = []) ∨ ∃ g, ao = some ⟨g, 0, none⟩ ∧ BytesAt w g 0 l) := by
  obtain ⟨h0, ⟨h1, h2⟩ | ⟨g, cap, cur, rfl, _, h2, h3, h4, h5, h6⟩⟩ := h.row
  · have : l = [] := List.eq_nil_of_length_eq_zero h2
    subst this
    exact ⟨none, 0, h1, by simp, by omega, .inl ⟨rfl, rfl⟩⟩
  · refine ⟨some ⟨g, 0, none⟩, cap, rfl, h3, by unfold maxLen at h4; omega, .inr ⟨g, rfl, fun k x hx => ?_⟩⟩
    have hk : k < l.length := (List.getElem?_eq_some_iff.1 hx).1
    have h7 : (cur.toList.take (l.length * 1))[k]? = (u8s l)[k]? := by rw [h6]
    rw [List.getElem?_take, if_pos (by omega)] at h7
    have h8 : (u8s l)[k]? = some (.int .u8 (x.toNat : Int)) := by simp [u8s, hx]
    rw [h8] at h7
    rw [Nat.zero_add]
    simp [World.cell?, h2]
    simpa using h7

theorem BytesAt.drewN {w : World} {g off : Nat} {l : List UInt8} (h : BytesAt w g off l) (n : Nat) : BytesAt (w.drewN n) g off l := h
theorem BytesAt.take {w : World} {g off : Nat} {l : List UInt8} (h : BytesAt w g off l) (n : Nat) : BytesAt w g off (l.take n) := fun k x hx => by
  rw [List.getElem?_take] at hx
  split at hx
  · exact h k x hx
  · cases hx
theorem BytesAt.drop {w : World} {g off : Nat} {l : List UInt8} (h : BytesAt w g off l) (n : Nat) : BytesAt w g (off + n) (l.drop n) := fun k x hx => by
  rw [List.getElem?_drop] at hx
  rw [Nat.add_assoc]; exact h (n + k) x hx

set_option maxRecDepth 20000 in
set_option maxHeartbeats 1000000 in
theorem sumOfB (w : World) (g n cap : Nat) (l : List UInt8) (hn : l.length = n) (hcap : n ≤ cap) (hmax : cap ≤ 9223372036854775807) (hbc : BytesAt w g 0 l) :
    Calls Tryz.prog 138 #[.slice (some ⟨g, 0, none⟩) n cap] w fun e w' => e = .returned (.int .u32 ((sumL l : Nat) : Int)) ∧ w' = w := by
  have HBC : Hid (∀ k x, l[k]? = some x → w.cell? ⟨g, k, none⟩ = some (.int .u8 (x.toNat : Int))) := fun k x hx => by have := hbc k x hx; rw [Nat.zero_add] at this; exact this
  clear hbc
  go_enter Tryz.func138, Tryz.ntmps138
  go_wp2
  go_loop [3, 8] (fun vs vi => ∃ k S : Nat, vi = .int .i64 (k : Int) ∧ k ≤ n ∧ vs = .int .u32 (S : Int) ∧ S < 4294967296 ∧ Hid (S = sumL (l.take k))) (fun _ vi => n - (intOf vi).toNat)
  case atStart => exact ⟨0, 0, rfl, by omega, rfl, by omega, by rw [List.take_zero]; exact sumL_nil.symm⟩
  case round =>
    obtain ⟨k, S, rfl, hk, rfl, hsl, HS0⟩ := hrel
    by_cases hlt : k < n
    · have hlt' : (k : Int) < n := by omega
      obtain ⟨x, hx⟩ : ∃ x, l[k]? = some x := ⟨l[k]'(by omega), by simp⟩
      have hc := HBC.out k x hx
      have hcall := sumAdd_any w S x hsl
      have HS : Hid (flip32 (crcTo (flip32 S) x.toNat 8) = sumL (l.take (k + 1))) := by
        show _ = _
        rw [HS0.out, List.take_add_one, hx]; exact (sumL_snoc _ _).symm
      have hlt2 : flip32 (crcTo (flip32 S) x.toNat 8) < 4294967296 := flip_lt _
      generalize flip32 (crcTo (flip32 S) x.toNat 8) = S' at *
      clear hx HS0
      go_wp2_with fail
      refine hcall.mono ?_
      rintro e w1 ⟨rfl, hw1⟩
      rw [hw1]
      clear hw1 hcall
      go_wp2
      go_round
      case rel => exact ⟨k + 1, S', by simp, by omega, rfl, hlt2, HS⟩
      case measure => simp [intOf]; omega
    · have hlt' : ¬ (k : Int) < n := by omega
      obtain rfl : k = n := by omega
      have HS1 : Hid (S = sumL l) := by have := HS0.out; rw [← hn, List.take_length] at this; exact this
      clear HS0
      go_wp2
      go_ret
      exact ⟨by rw [← HS1.out]; rfl, rfl⟩

/-- the sum that bytes end with, is it right? -/
def sumRight (l : List UInt8) : Bool := decide (valL (l.drop (l.length - 4)) = sumL (l.take (l.length - 4)))

set_option maxRecDepth 20000 in
set_option maxHeartbeats 1000000 in
theorem cutSum_any (w : World) (g cap : Nat) (l : List UInt8) (hl : 4 ≤ l.length) (hcap : l.length ≤ cap) (hmax : cap ≤ 9223372036854775807) (hbc : BytesAt w g 0 l) :
    Calls Tryz.prog 182 #[.slice (some ⟨g, 0, none⟩) l.length cap] w fun e w' => e = .returned (.tuple #[.slice (some ⟨g, 0, none⟩) (l.length - 4) cap, .bool (sumRight l)]) ∧ ∃ m, w' = w.drewN m := by
  obtain ⟨n, hn⟩ : ∃ n, l.length - 4 = n := ⟨_, rfl⟩
  have hln : l.length = n + 4 := by omega
  have hd : (l.drop n).length = 4 := by rw [List.length_drop]; omega
  have hcut := cut32_any w g n (cap - n) (l.drop n) (by have := hbc.drop n; rw [Nat.zero_add] at this; exact this) (by omega) (by omega) (by omega)
  rw [List.take_of_length_le (by omega), hd] at hcut
  have HC := hid hcut
  have HS : Hid (∀ m k, Calls Tryz.prog 138 #[.slice (some ⟨g, 0, none⟩) n cap] ((w.drewN k).drewN m) fun e w' => e = .returned (.int .u32 ((sumL (l.take n) : Nat) : Int)) ∧ ∃ q, w' = (w.drewN k).drewN q) :=
    fun m k => Calls.quiet_of_same (sumOfB ((w.drewN k).drewN m) g n cap (l.take n) (by rw [List.length_take]; omega) (by omega) hmax ((hbc.take n).drewN k))
  have HR : Hid (sumRight l = decide ((valL (l.drop n) : Int) = (sumL (l.take n) : Int))) := by
    show _ = _
    unfold sumRight; rw [hn]
    rw [Bool.eq_iff_iff]; simp; omega
  rw [hn, hln]
  rw [hln] at hcap
  clear hcut hbc
  have e1 : ((n + 4 : Nat) : Int) - 4 = (n : Int) := by omega
  have e2 : ¬ (((n + 4 : Nat) : Int) < (n : Int)) := by omega
  have e3 : ¬ ((cap : Int) < (n : Int)) := by omega
  have e4 : ¬ cap = n := by omega
  have e5 : n + 4 - n = 4 := by omega
  generalize valL (l.drop n) = tv at *
  generalize sumL (l.take n) = sv at *
  go_enter Tryz.func182, Tryz.ntmps182
  go_wp2_with fail
  refine HC.out.mono ?_
  rintro e W1 ⟨rfl, m1, rfl⟩
  clear HC
  obtain ⟨wd, hwd⟩ : ∃ wd, w.drewN m1 = wd := ⟨_, rfl⟩
  have HSQ := hid (fun m => HS.out m m1)
  rw [hwd] at HSQ ⊢
  have HWD := hid hwd
  clear hwd HS
  obtain ⟨sl, hsl⟩ : ∃ sl, sl = Value.slice (if cap - n = 4 then some ⟨g, n, none⟩ else some ⟨g, n + 4, none⟩) (4 - 4) (cap - n - 4) := ⟨_, rfl⟩
  rw [← hsl]
  clear hsl
  go_wp2_with fail
  go_quiet (first | (go_at_call 138; with_reducible exact HSQ.out _))
  go_wp2
  go_ret2
  refine ⟨?_, m1 + nq, by rw [← HWD.out, World.drewN_drewN]⟩
  rw [HR.out]
  rfl

end Go.Proofs.YthdcceackfdbbaaGreatDoor
/- Own text: the reader of texts: words of digits. -/
namespace Go.Proofs.YthdcceackfdbbaaGreatDoor
open Go Go.RowKit

/-- the number that a word of digits tells -/
def wholeL (l : List UInt8) : Option Nat := if l.length ≤ 9 ∧ l.all isDig = true then some (dval l) else none

def tupN : Option Nat → Ending
  | some n => .returned (.tuple #[.int .i64 (n : Int), .bool true])
  | none => .returned (.tuple #[.int .i64 0, .bool false])

theorem dval_lt9 {l : List UInt8} (h : Digs l) (hl : l.length ≤ 9) : dval l < 1000000000 := by
  have h2 := dval_lt h
  have h3 : 10 ^ l.length ≤ 10 ^ 9 := Nat.pow_le_pow_right (by omega) hl
  have h4 : (10 : Nat) ^ 9 = 1000000000 := by decide
  omega

theorem wholeL_none {l : List UInt8} {k : Nat} {c : UInt8} (h : l[k]? = some c) (hc : isDig c = false) : wholeL l = none := by
  unfold wholeL
  rw [if_neg]
  rintro ⟨_, ha⟩
  have := List.all_eq_true.1 ha c (List.mem_of_getElem? h)
  rw [hc] at this; cases this

set_option maxRecDepth 20000 in
set_option maxHeartbeats 1000000 in
theorem mwhole_any (w : World) (s : ByteArray) (hs : s.size ≤ 1000000) : Calls Tryz.prog 232 #[.string s] w fun e w' => e = tupN (wholeL s.data.toList) ∧ w' = w := by
  have hl : s.data.toList.length = s.size := (bytes_size rfl).symm
  have HL := hid hl
  clear hl
  by_cases h9 : 9 < s.size
  · have hn : wholeL s.data.toList = none := by unfold wholeL; rw [if_neg (by rw [HL.out]; omega)]
    rw [hn]
    have h9' : (9 : Int) < (s.size : Int) := by omega
    go_enter Tryz.func232, Tryz.ntmps232
    go_wp2
    go_ret2
    exact ⟨rfl, rfl⟩
  · have h9' : ¬ (9 : Int) < (s.size : Int) := by omega
    obtain ⟨r, hr⟩ : ∃ r, wholeL s.data.toList = r := ⟨_, rfl⟩
    have HR := hid hr
    rw [hr]
    clear hr
    go_enter Tryz.func232, Tryz.ntmps232
    go_wp2
    go_loop [4, 11] (fun v i => ∃ k n : Nat, k ≤ s.size ∧ i = .int .i64 (k : Int) ∧ v = .int .i64 (n : Int) ∧ n < 1000000000 ∧ Hid (n = dval (s.data.toList.take k)) ∧ Hid (Digs (s.data.toList.take k))) (fun _ i => s.size - (intOf i).toNat)
    case atStart => exact ⟨0, 0, Nat.zero_le _, rfl, rfl, by omega, by rw [List.take_zero]; rfl, by rw [List.take_zero]; exact fun c h => by cases h⟩
    case round =>
      obtain ⟨k, n, hk, rfl, rfl, hn, HN, HD⟩ := hrel
      by_cases hlt : k < s.size
      · have hlt' : (k : Int) < s.size := by omega
        have hg : s.data.toList[k]? = some s[k] := take_get hlt
        have hb8 := s[k].toNat_lt
        by_cases hd : isDig s[k] = true
        · have hbd := isDig_bd hd
          have hd2 : Digs (s.data.toList.take (k + 1)) := by
            rw [take_snoc_get hg]
            intro c hc
            rcases List.mem_append.1 hc with h | h
            · exact HD.out c h
            · simp at h; subst h; exact hd
          have hlt9 : dval (s.data.toList.take (k + 1)) < 1000000000 := dval_lt9 hd2 (by rw [List.length_take]; omega)
          have he : dval (s.data.toList.take (k + 1)) = n * 10 + (s[k].toNat - 48) := by rw [take_snoc_get hg, dval_snoc, HN.out]
          rw [he] at hlt9
          have HE := hid he
          have HD2 := hid hd2
          clear he hd2 hg hd
          have h48 : ¬ ((s[k].toNat : Int) < 48) := by omega
          have h57 : ¬ ((57 : Int) < (s[k].toNat : Int)) := by omega
          go_wp2
          go_round
          case rel => exact ⟨k + 1, n * 10 + (s[k].toNat - 48), by omega, by simp, by go_num, hlt9, HE.out.symm, HD2⟩
          case measure => simp [intOf]; omega
        · have hdf : isDig s[k] = false := by simpa using hd
          have hrn : r = none := by rw [← HR.out]; exact wholeL_none hg hdf
          subst hrn
          have hnd : s[k].toNat < 48 ∨ 57 < s[k].toNat := by
            unfold isDig at hdf
            simp at hdf
            omega
          clear hdf hd hg HR
          rcases hnd with h | h
          · have h' : (s[k].toNat : Int) < 48 := by omega
            go_wp2
            go_ret2
            exact ⟨rfl, rfl⟩
          · have h' : ¬ (s[k].toNat : Int) < 48 := by omega
            have h2 : (57 : Int) < (s[k].toNat : Int) := by omega
            go_wp2
            go_ret2
            exact ⟨rfl, rfl⟩
      · have hlt' : ¬ (k : Int) < s.size := by omega
        have hrs : r = some n := by
          rw [← HR.out]
          have hD := HD.out
          have hN := HN.out
          rw [List.take_of_length_le (by rw [HL.out]; omega)] at hD hN
          unfold wholeL
          rw [if_pos ⟨by rw [HL.out]; omega, List.all_eq_true.2 hD⟩, hN]
        subst hrs
        clear HR
        go_wp2
        go_ret2
        exact ⟨rfl, rfl⟩

/-- the numbers that words of digits tell -/
def wholesL : List (List UInt8) → Option (List Nat)
  | [] => some []
  | x :: r => match wholeL x, wholesL r with
    | some n, some l => some (n :: l)
    | _, _ => none

end Go.Proofs.YthdcceackfdbbaaGreatDoor
