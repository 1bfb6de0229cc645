import Derived.Test.YthdcceackfdbbaaGreatDoorM06K
import Derived.Test.YthdcceackfdbbaaGreatDoorM05K
import Derived.Lib.ItoaNum
import Derived.KernelRfl
import Derived.Lib.LaidTab
import Derived.Sort.Grow
import Derived.Lib.ItoaMem
import Derived.Lib.Walk
import Derived.BigCall
/- Plain mathematics: digits of whole numbers, and how their texts are read. Own text. -/
namespace Go.Proofs.YthdcceackfdbbaaGreatDoor

theorem u8_dig {d : Nat} (h : d < 10) : (UInt8.ofNat (48 + d)).toNat = 48 + d := by
  rw [UInt8.toNat_ofNat_of_lt' (by show 48 + d < 256; omega)]

theorem isDig_of {d : Nat} (h : d < 10) : isDig (UInt8.ofNat (48 + d)) = true := by
  unfold isDig; rw [u8_dig h]; simp; omega

theorem dd_all (u : Nat) : Digs (Lib.decDigits u) ∧ dval (Lib.decDigits u) = u ∧ (u ≠ 0 → ∀ c r, Lib.decDigits u = c :: r → c.toNat ≠ 48) ∧ Lib.decDigits u ≠ [] := by
  induction u using Nat.strongRecOn with
  | ind u ih =>
    by_cases h : u < 10
    · rw [Lib.decDigits, dif_pos h]
      refine ⟨?_, ?_, ?_, by simp⟩
      · intro x hx; rw [List.mem_singleton] at hx; rw [hx]; exact isDig_of h
      · simp only [dval, List.foldl_cons, List.foldl_nil]; rw [u8_dig h]; omega
      · intro h0 c r e
        simp only [List.cons.injEq] at e
        rw [← e.1, u8_dig h]; omega
    · obtain ⟨i1, i2, i3, i4⟩ := ih (u / 10) (by omega)
      have e : Lib.decDigits u = Lib.decDigits (u / 10) ++ [UInt8.ofNat (48 + u % 10)] := by rw [Lib.decDigits, dif_neg h]
      rw [e]
      refine ⟨?_, ?_, ?_, by simp⟩
      · refine digs_append i1 ?_
        intro x hx; rw [List.mem_singleton] at hx; rw [hx]; exact isDig_of (by omega)
      · rw [dval_snoc, i2, u8_dig (by omega)]; omega
      · intro _ c r e2
        cases hd : Lib.decDigits (u / 10) with
        | nil => exact absurd hd i4
        | cons c' r' =>
          rw [hd] at e2
          simp only [List.cons_append, List.cons.injEq] at e2
          rw [← e2.1]
          exact i3 (by omega) c' r' hd

theorem dd_len {u k : Nat} (h : u < 10 ^ k) (hk : 1 ≤ k) : (Lib.decDigits u).length ≤ k := by
  induction k generalizing u with
  | zero => omega
  | succ k ih =>
    by_cases h10 : u < 10
    · rw [Lib.decDigits, dif_pos h10]; simp
    · rw [Lib.decDigits, dif_neg h10, List.length_append, List.length_singleton]
      by_cases hk0 : k = 0
      · subst hk0; simp at h; omega
      · have := ih (u := u / 10) (by rw [Nat.pow_succ] at h; omega) (by omega)
        omega

theorem dval_cons_zero (l : List UInt8) : dval (48 :: l) = dval l := by simp [dval]

theorem dval_drop (l : List UInt8) : dval (l.dropWhile (· == 48)) = dval l := by
  induction l with
  | nil => rfl
  | cons c r ih =>
    by_cases h : c = 48
    · subst h; simp only [List.dropWhile_cons, beq_self_eq_true, if_true]; rw [ih, dval_cons_zero]
    · have : (c == 48) = false := by simpa using h
      simp [this]

theorem takeWhile_all {l : List UInt8} (h : Digs l) (r : List UInt8) (hr : ∀ c t, r = c :: t → isDig c = false) : (l ++ r).takeWhile isDig = l ∧ (l ++ r).dropWhile isDig = r := by
  have := takeWhile_at (p := isDig) (l := l ++ r) (k := l.length) (fun x hx => by rw [List.take_left'] at hx; exact h x hx; rfl) (fun x hx => by
    rw [List.getElem?_append_right (Nat.le_refl _), Nat.sub_self] at hx
    cases r with
    | nil => simp at hx
    | cons c t => simp at hx; subst hx; exact hr c t rfl)
  rw [List.take_left' rfl, List.drop_left' rfl] at this
  exact this

theorem decL_whole {l : List UInt8} (h : Digs l) (hne : l ≠ []) : decL l = some (l.dropWhile (· == 48), 0) := by
  obtain ⟨e1, e2⟩ := takeWhile_all h [] (by simp)
  rw [List.append_nil] at e1 e2
  unfold decL
  rw [e1, e2]
  simp [fracL, powL, hne]

theorem decL_point {l f : List UInt8} (h : Digs l) (hf : Digs f) (hne : l ≠ []) : decL (l ++ 46 :: f) = some ((l ++ f).dropWhile (· == 48), -(f.length : Int)) := by
  obtain ⟨e1, e2⟩ := takeWhile_all h (46 :: f) (by intro c t e; cases e; rfl)
  obtain ⟨e3, e4⟩ := takeWhile_all hf [] (by simp)
  rw [List.append_nil] at e3 e4
  unfold decL
  rw [e1, e2]
  have ef : fracL (46 :: f) = (f, []) := by simp [fracL, e3, e4]
  rw [ef]
  simp [powL, hne]

theorem signL_dig {c : UInt8} {r : List UInt8} (h : isDig c = true) : signL (c :: r) = (false, c :: r) := by
  have b := isDig_bd h
  have h1 : c ≠ 43 := by intro e; subst e; simp at b
  have h2 : c ≠ 45 := by intro e; subst e; simp at b
  simp [signL, h1, h2]

theorem scanL_dig {c : UInt8} {r : List UInt8} (h : isDig c = true) (hl : (c :: r).length ≤ 60) : scanL (c :: r) = finL (decL (c :: r)) false := by
  have b := isDig_bd h
  unfold scanL
  rw [if_neg (by omega), signL_dig h]
  rw [if_neg (by rintro (e | e) <;> (simp only [List.cons.injEq] at e; rw [e.1] at b; simp at b)), if_neg (by intro e; simp only [List.cons.injEq] at e; rw [e.1] at b; simp at b), if_neg (by intro e; simp only [List.cons.injEq] at e; rw [e.1] at b; simp at b)]

theorem scan_whole {u : Nat} (hl : (Lib.decDigits u).length ≤ 60) : scanL (Lib.decDigits u) = (decRnd u 0, 0) := by
  obtain ⟨h1, h2, _, h4⟩ := dd_all u
  have hd := decL_whole h1 h4
  cases hc : Lib.decDigits u with
  | nil => exact absurd hc h4
  | cons c r =>
    rw [hc] at hl h1 h2 hd
    rw [scanL_dig (h1 c (by simp)) hl, hd]
    simp only [finL]
    rw [dval_drop, h2]
    simp

theorem scan_point {u : Nat} {f : List UInt8} (hf : Digs f) (hl : (Lib.decDigits u ++ 46 :: f).length ≤ 60) : scanL (Lib.decDigits u ++ 46 :: f) = (decRnd (dval (Lib.decDigits u ++ f)) (-(f.length : Int)), 0) := by
  obtain ⟨h1, h2, _, h4⟩ := dd_all u
  have hd := decL_point h1 hf h4
  cases hc : Lib.decDigits u with
  | nil => exact absurd hc h4
  | cons c r =>
    rw [hc] at hl h1 h2 hd
    rw [List.cons_append] at hl hd ⊢
    rw [scanL_dig (h1 c (by simp)) hl, hd]
    simp only [finL]
    rw [dval_drop]
    simp

theorem dval_append (a b : List UInt8) : dval (a ++ b) = dval a * 10 ^ b.length + dval b := by
  induction b using list_snoc_ind with
  | h0 => simp [dval]
  | h1 b c ih =>
    rw [← List.append_assoc, dval_snoc, dval_snoc, ih, List.length_append, List.length_singleton, Nat.pow_succ, Nat.add_mul, Nat.mul_assoc]
    omega

theorem rhe_of' {n d q r : Nat} (h : n = d * q + r) (hr : r < d) : rhe n d = if d < 2 * r ∨ (2 * r = d ∧ q % 2 = 1) then q + 1 else q := by
  have h1 : n / d = q := by rw [h, Nat.mul_comm, Nat.add_comm, Nat.add_mul_div_right _ _ (by omega), Nat.div_eq_of_lt hr]; omega
  have h2 : n % d = r := by rw [h, Nat.mul_add_mod, Nat.mod_eq_of_lt hr]
  unfold rhe
  rw [h1, h2]

/-- Numbers from 2^53 up to below 2^54. -/
theorem rnd_53 {a b : Nat} (hb : b ≠ 0) (h1 : b * 9007199254740992 ≤ a) (h2 : a < b * 18014398509481984) : rnd a b = 2 * 2251799813685248 * 1075 + rhe a (b * 2) := by
  have hp := plog_eq (a := a) (b := b) (i := 0) (j := 53) (by have : 0 < b * 9007199254740992 := Nat.mul_pos (by omega) (by omega); omega) hb (by simpa using h1) (by omega)
  have e1 : plog a b = 53 := by rw [hp]; rfl
  unfold rnd
  rw [e1, if_neg (by omega)]
  unfold eOf
  rw [if_neg (by omega)]
  unfold rat
  rw [if_pos (by omega)]
  rfl

theorem tie_mid {k : Nat} (hk : k < 4503599627370496) : decRnd (9007199254740992 + 2 * k + 1) 0 = 4845873199050653696 + (if k % 2 = 1 then k + 1 else k) := by
  unfold decRnd
  rw [if_neg (by omega), if_pos (by omega)]
  rw [show (9007199254740992 + 2 * k + 1) * 10 ^ (0 : Int).toNat = 9007199254740992 + 2 * k + 1 from by simp]
  rw [rnd_53 (by omega) (by omega) (by omega)]
  unfold rhe
  split <;> split <;> omega

theorem tie_above {k B n : Nat} (hk : k < 4503599627370496) (hB : B = 10 ^ n) (hn : 1 ≤ n) : decRnd ((9007199254740992 + 2 * k + 1) * 10 ^ n + 1) (-(n : Int)) = 4845873199050653696 + (k + 1) := by
  have hpos := ten_pow_pos n
  have h10 : 10 ≤ 10 ^ n := by
    have : 10 ^ 1 ≤ 10 ^ n := Nat.pow_le_pow_right (by omega) hn
    omega
  unfold decRnd
  rw [if_neg (by omega), if_neg (by omega), show (-(-(n : Int))).toNat = n from by omega, ← hB] at *
  rw [rnd_53 (by omega) (by
    have : B * 9007199254740992 ≤ (9007199254740992 + 2 * k + 1) * B := by rw [Nat.mul_comm]; exact Nat.mul_le_mul_right _ (by omega)
    omega) (by
    have : (9007199254740992 + 2 * k + 1 + 1) * B ≤ 18014398509481984 * B := Nat.mul_le_mul_right _ (by omega)
    rw [Nat.add_mul _ 1, Nat.mul_comm 18014398509481984] at this
    omega)]
  have e : (9007199254740992 + 2 * k + 1) * B + 1 = B * 2 * (4503599627370496 + k) + (B + 1) := by
    rw [show 9007199254740992 + 2 * k + 1 = 2 * (4503599627370496 + k) + 1 from by omega, Nat.add_mul, Nat.one_mul, Nat.mul_right_comm, Nat.mul_comm B 2]
    omega
  rw [e]
  have hr := rhe_of' (n := B * 2 * (4503599627370496 + k) + (B + 1)) (d := B * 2) (q := 4503599627370496 + k) (r := B + 1) rfl (by omega)
  rw [hr, if_pos (by omega)]
  omega

theorem tie_below {k B n : Nat} (hk : k < 4503599627370496) (hB : B = 10 ^ n) (hn : 1 ≤ n) : decRnd ((9007199254740992 + 2 * k) * 10 ^ n + (10 ^ n - 1)) (-(n : Int)) = 4845873199050653696 + k := by
  have hpos := ten_pow_pos n
  have h10 : 10 ≤ 10 ^ n := by
    have : 10 ^ 1 ≤ 10 ^ n := Nat.pow_le_pow_right (by omega) hn
    omega
  unfold decRnd
  rw [if_neg (by omega), if_neg (by omega), show (-(-(n : Int))).toNat = n from by omega, ← hB] at *
  rw [rnd_53 (by omega) (by
    have : B * 9007199254740992 ≤ (9007199254740992 + 2 * k) * B := by rw [Nat.mul_comm]; exact Nat.mul_le_mul_right _ (by omega)
    omega) (by
    have : (9007199254740992 + 2 * k + 1) * B ≤ 18014398509481984 * B := Nat.mul_le_mul_right _ (by omega)
    rw [Nat.add_mul _ 1, Nat.mul_comm 18014398509481984] at this
    omega)]
  have e : (9007199254740992 + 2 * k) * B + (B - 1) = B * 2 * (4503599627370496 + k) + (B - 1) := by
    rw [show 9007199254740992 + 2 * k = 2 * (4503599627370496 + k) from by omega, Nat.mul_right_comm, Nat.mul_comm B 2]
  rw [e]
  have hr := rhe_of' (n := B * 2 * (4503599627370496 + k) + (B - 1)) (d := B * 2) (q := 4503599627370496 + k) (r := B - 1) rfl (by omega)
  rw [hr, if_neg (by omega)]
  omega

end Go.Proofs.YthdcceackfdbbaaGreatDoor
/- What the three texts of Ties are read as. Own text. -/
namespace Go.Proofs.YthdcceackfdbbaaGreatDoor

def zerosOne : List UInt8 := [48, 48, 48, 48, 48, 48, 48, 48, 48, 48, 48, 48, 48, 48, 48, 48, 48, 48, 48, 48, 48, 48, 48, 48, 48, 48, 48, 48, 48, 49]
def nines : List UInt8 := [57, 57, 57, 57, 57, 57, 57, 57, 57, 57, 57, 57, 57, 57, 57, 57, 57, 57, 57, 57, 57, 57, 57, 57, 57]
def pointOne : ByteArray := ⟨#[46, 48, 48, 48, 48, 48, 48, 48, 48, 48, 48, 48, 48, 48, 48, 48, 48, 48, 48, 48, 48, 48, 48, 48, 48, 48, 48, 48, 48, 48, 49]⟩
def pointNines : ByteArray := ⟨#[46, 57, 57, 57, 57, 57, 57, 57, 57, 57, 57, 57, 57, 57, 57, 57, 57, 57, 57, 57, 57, 57, 57, 57, 57, 57]⟩
theorem pointOne_list : pointOne.data.toList = 46 :: zerosOne := rfl
theorem pointNines_list : pointNines.data.toList = 46 :: nines := rfl
theorem pointOne_size : pointOne.size = 31 := rfl
theorem pointNines_size : pointNines.size = 26 := rfl
theorem zerosOne_digs : Digs zerosOne := by unfold Digs; decide
theorem nines_digs : Digs nines := by unfold Digs; decide
theorem zerosOne_val : dval zerosOne = 1 := by kernel_rfl
theorem nines_val : dval nines = 10 ^ 25 - 1 := by kernel_rfl

theorem ties_y {k : Nat} (hk : k < 4503599627370496) : scanL (Lib.decDigits (9007199254740992 + 2 * k + 1) ++ 46 :: zerosOne) = (4845873199050653696 + (k + 1), 0) := by
  have hlen1 : (Lib.decDigits (9007199254740992 + 2 * k + 1)).length ≤ 17 := dd_len (by omega) (by omega)
  have e : (46 :: zerosOne).length = 31 := rfl
  have e2 : zerosOne.length = 30 := rfl
  rw [scan_point zerosOne_digs (by rw [List.length_append]; omega), dval_append, (dd_all _).2.1, zerosOne_val, e2, tie_above (n := 30) hk rfl (by omega)]

theorem ties_z {k : Nat} (hk : k < 4503599627370496) : scanL (Lib.decDigits (9007199254740992 + 2 * k) ++ 46 :: nines) = (4845873199050653696 + k, 0) := by
  have hlen1 : (Lib.decDigits (9007199254740992 + 2 * k)).length ≤ 17 := dd_len (by omega) (by omega)
  have e : (46 :: nines).length = 26 := rfl
  have e2 : nines.length = 25 := rfl
  rw [scan_point nines_digs (by rw [List.length_append]; omega), dval_append, (dd_all _).2.1, nines_val, e2, tie_below (n := 25) hk rfl (by omega)]

theorem ties_x {k : Nat} (hk : k < 4503599627370496) : scanL (Lib.decDigits (9007199254740992 + 2 * k + 1)) = (4845873199050653696 + (if k % 2 = 1 then k + 1 else k), 0) := by
  have hlen1 : (Lib.decDigits (9007199254740992 + 2 * k + 1)).length ≤ 17 := dd_len (by omega) (by omega)
  rw [scan_whole (by omega), tie_mid hk]

end Go.Proofs.YthdcceackfdbbaaGreatDoor
/- Walk of Ties. Own text. -/
namespace Go.Proofs.YthdcceackfdbbaaGreatDoor
open Go.RowKit

theorem below_grow (w : World) (k : Nat) (os : Array Obj) : Below w.heap.size w (Sort.grow (w.drewN k) os) :=
  ⟨rfl, rfl, rfl, by simp [Sort.grow], fun i hi => by simp [Sort.grow, Array.getElem?_append_left hi]⟩

theorem gPow : Tryz.prog.globalNamed "internal/strconv.uint64pow10" = some 0 := by kernel_rfl

theorem tab_below {w w' : World} (h : Lib.TabIs Tryz.prog w "internal/strconv.uint64pow10" .u64 Lib.pow10Tab) (hb : Below w.heap.size w w') : Lib.TabIs Tryz.prog w' "internal/strconv.uint64pow10" .u64 Lib.pow10Tab := by
  have hc := h.cell gPow 0 (by rw [Lib.pow10Tab_length]; omega)
  exact var?_below hb gPow (World.block_lt_of_cell? w _ hc) h

theorem itoa_any (w : World) (n : Int) (u : Nat) (hn : n = (u : Int)) (hu : u < 9223372036854775808) (htab : Lib.TabIs Tryz.prog w "internal/strconv.uint64pow10" .u64 Lib.pow10Tab) :
    Calls Tryz.prog 146 #[.int .i64 n] w fun e w' => ∃ s : ByteArray, e = .returned (.string s) ∧ s.data.toList = Lib.decDigits u ∧ Below w.heap.size w w' := by
  subst hn
  refine (Tryz.strconv_Itoa (u : Int) (by omega) (by omega) w htab).mono ?_
  rintro e w' ⟨rfl, k, os, rfl⟩
  refine ⟨_, rfl, ?_, below_grow w k os⟩
  simp only [Lib.itoa]
  rw [if_neg (by omega)]
  simp

set_option maxHeartbeats 400000 in
theorem pick_any (w : World) (c n : Int) (h1 : -9223372036854775808 ≤ c) (h2 : c ≤ 9223372036854775807) (hn : 0 < n) (hn2 : n ≤ 9223372036854775807) :
    Calls Tryz.prog 16 #[.int .i64 c, .int .i64 n] w fun e w' => (∃ k : Nat, e = .returned (.int .i64 (k : Int)) ∧ (k : Int) < n) ∧ w' = w := by
  by_cases hc : c < 0
  · go_enter Tryz.func16, Tryz.ntmps16
    go_wp2
    go_ret
    have e1 : (c + 1).tmod n = -(-(c + 1) % n) := by
      rw [← Int.tmod_eq_emod_of_nonneg (by omega : 0 ≤ -(c + 1)), Int.neg_tmod, Int.neg_neg]
    have e2 := Int.emod_nonneg (-(c + 1)) (by omega : n ≠ 0)
    have e3 := Int.emod_lt_of_pos (-(c + 1)) hn
    exact ⟨⟨(-(c + 1) % n).toNat, ret_int (by rw [e1]; omega), by omega⟩, rfl⟩
  · go_enter Tryz.func16, Tryz.ntmps16
    go_wp2
    go_ret
    refine ⟨⟨(c % n).toNat, ret_int ?_, ?_⟩, rfl⟩
    · have := Int.emod_nonneg c (by omega : n ≠ 0); omega
    · have := Int.emod_nonneg c (by omega : n ≠ 0); have := Int.emod_lt_of_pos c hn; omega

end Go.Proofs.YthdcceackfdbbaaGreatDoor
/- Walk: strconv.FormatUint at base 10. Own text. -/
namespace Go.Proofs.YthdcceackfdbbaaGreatDoor
open Go.RowKit Go.Sort

def encU8 : UInt8 → Value := fun (b : UInt8) => Value.int .u8 (b.toNat : Int)

theorem holds_zero0 (w : World) (T : TypeId) (nd : Nat) (hs : nd ≤ 24) : Holds (fun (b : UInt8) => Value.int .u8 (b.toNat : Int)) (w.alloc (.cells Lib.zeros24 T)) w.heap.size 0 (Array.replicate nd (0 : UInt8)) := by
  intro j hj
  have hj' : j < nd := by simpa using hj
  refine ⟨?_, World.frozen?_alloc_new _ _ _ _⟩
  rw [World.cell?_alloc_new, Lib.zeros24_at _ (by omega), getElem!_pos _ j hj]
  simp

theorem below_fin (w : World) (o : Obj) (dk : Array UInt8) (k : Nat) : Below w.heap.size w ((putRow (fun (b : UInt8) => Value.int .u8 (b.toNat : Int)) (w.alloc o) w.heap.size 0 dk).drewN k) := by
  rw [alloc_eq_grow]
  obtain ⟨os', _, e⟩ := putRow_grow_new (fun (b : UInt8) => Value.int .u8 (b.toNat : Int)) w #[o] w.heap.size 0 dk (Nat.le_refl _)
  rw [e]
  refine below_drewN ?_ k
  have := below_grow w 0 os'
  rwa [World.drewN_zero] at this

set_option maxHeartbeats 3200000 in
set_option maxRecDepth 100000 in
theorem fmtu_in (w : World) (u : Nat) (hu1 : 1 ≤ u) (hu64 : u < 18446744073709551616) (htab : Lib.TabIs Tryz.prog w "internal/strconv.uint64pow10" .u64 Lib.pow10Tab) :
    Calls Tryz.prog 199 #[.int .u64 (u : Int), .int .i64 10] w fun e w' => ∃ s : ByteArray, e = .returned (.string s) ∧ s.data.toList = Lib.decDigits u ∧ Below w.heap.size w w' := by
  by_cases hs : u < 100
  · go_enter Tryz.func199, Tryz.ntmps199
    go_wp2_with fail
    refine (Tryz.internal_strconv_small u hs _).mono ?_
    rintro e w' ⟨rfl, rfl⟩
    go_wp2
    go_ret
    exact ⟨_, rfl, rfl, Below.refl _ _⟩
  · have hnd20 : Lib.nDigits u ≤ 20 := by have := Lib.numDigits_eq u hu1 hu64; split at this <;> omega
    have hal : Tryz.prog.arrayLen 280 = 24 := by simp [Program.arrayLen, Tryz.underlying280]
    have hsl : ∀ W, (Instr.sliceAt 280 (.pointer (some ⟨w.heap.size, 0, none⟩)) none (some (.int .i64 ((Lib.nDigits u : Nat) : Int))) none).run Tryz.prog W = .ok (.slice (some ⟨w.heap.size, 0, none⟩) (Lib.nDigits u) 24) W := fun W => by
      rw [run_sliceAt_array_h W 280 ⟨w.heap.size, 0, none⟩ (by simp [Program.arrayLen, Program.elem, Tryz.underlying280]) .i64 ((Lib.nDigits u : Nat) : Int) (by omega) (by rw [hal]; omega)]
      go_simp
      try omega
    have hH0 := holds_zero0 w 280 (Lib.nDigits u) (by omega)
    have hfmt := Tryz.internal_strconv_formatBase10 w.heap.size 0 24 u (Array.replicate (Lib.nDigits u) 0) (w.alloc (.cells Lib.zeros24 280)) hH0 (by rw [Array.size_replicate]; exact Lib.lt_pow_nDigits u) hu64 (by rw [Array.size_replicate]; omega)
    rw [Array.size_replicate] at hfmt
    have HH0 := Lib.hid hH0
    clear hH0 hal
    have HFMT := Lib.hid hfmt
    clear hfmt
    go_enter Tryz.func199, Tryz.ntmps199
    go_wp2_with fail
    refine (Tryz.internal_strconv_numDigits u hu1 hu64 _ (Lib.tabIs_alloc htab _)).mono ?_
    rintro e w' ⟨rfl, rfl⟩
    go_wp2_with fail
    refine HFMT.out.mono ?_
    rintro e w' ⟨rfl, k, v', dk, rfl, hF⟩
    have hcv : (convert 72 9 (.slice (some ⟨w.heap.size, 0, none⟩) (Lib.nDigits u) 24)).run Tryz.prog ((putRow (fun (b : UInt8) => Value.int .u8 (b.toNat : Int)) (w.alloc (.cells Lib.zeros24 280)) w.heap.size 0 dk).drewN k) = .ok (.string ⟨(Lib.decDigits u).toArray⟩) ((putRow (fun (b : UInt8) => Value.int .u8 (b.toNat : Int)) (w.alloc (.cells Lib.zeros24 280)) w.heap.size 0 dk).drewN k) := by
      have h := run_convert_bytes_back (P := Tryz.prog) ((putRow (fun (b : UInt8) => Value.int .u8 (b.toNat : Int)) (w.alloc (.cells Lib.zeros24 280)) w.heap.size 0 dk).drewN k) 72 9 5 ⟨w.heap.size, 0, none⟩ 24 (Lib.decDigits u) Tryz.underlying72 Tryz.underlying5 Tryz.underlying9 (fun j hj => by
        rw [Lib.row_is_numeral hF j hj, Lib.add_plain, World.cell?_drewN]
        exact cell?_putRow (fun (b : UInt8) => Value.int .u8 (b.toNat : Int)) _ w.heap.size 0 _ dk HH0.out (by rw [hF.size, Array.size_replicate]) j (by rw [hF.size]; rw [Lib.decDigits_length] at hj; exact hj))
      rw [Lib.decDigits_length] at h
      exact h
    go_wp2
    go_ret
    exact ⟨_, rfl, rfl, below_fin w _ dk k⟩

set_option maxHeartbeats 400000 in
theorem fmtu_any (w : World) (u : Nat) (hu1 : 1 ≤ u) (hu64 : u < 18446744073709551616) (htab : Lib.TabIs Tryz.prog w "internal/strconv.uint64pow10" .u64 Lib.pow10Tab) :
    Calls Tryz.prog 162 #[.int .u64 (u : Int), .int .i64 10] w fun e w' => ∃ s : ByteArray, e = .returned (.string s) ∧ s.data.toList = Lib.decDigits u ∧ Below w.heap.size w w' := by
  go_enter Tryz.func162, Tryz.ntmps162
  go_wp2_with fail
  refine (fmtu_in _ u hu1 hu64 htab).mono ?_
  rintro e w' ⟨s, rfl, h1, h2⟩
  go_wp2
  go_ret
  exact ⟨s, rfl, h1, h2⟩

theorem itoaI_any (w : World) (n : Int) (h0 : -9223372036854775808 ≤ n) (h1 : n ≤ 9223372036854775807) (htab : Lib.TabIs Tryz.prog w "internal/strconv.uint64pow10" .u64 Lib.pow10Tab) :
    Calls Tryz.prog 146 #[.int .i64 n] w fun e w' => ∃ s : ByteArray, e = .returned (.string s) ∧ s.data.toList = Lib.itoa n ∧ Below w.heap.size w w' := by
  refine (Tryz.strconv_Itoa n h0 h1 w htab).mono ?_
  rintro e w' ⟨rfl, k, os, rfl⟩
  exact ⟨_, rfl, rfl, below_grow w k os⟩

end Go.Proofs.YthdcceackfdbbaaGreatDoor
/- Walks: layOut, Print. Own text. -/
namespace Go.Proofs.YthdcceackfdbbaaGreatDoor
open Go.RowKit

def ptL (r : List UInt8) : List UInt8 := if 1 < r.length then r.take 1 ++ 46 :: r.drop 1 else r
def outL (d : Nat) (p : Int) : List UInt8 := ptL (Lib.trimRightB (Lib.decDigits d) 48) ++ 101 :: Lib.itoa (p + ((Lib.decDigits d).length : Int) - 1)

theorem trim_len (l : List UInt8) (c : UInt8) : (Lib.trimRightB l c).length ≤ l.length := by
  unfold Lib.trimRightB
  rw [List.length_reverse]
  have := (List.dropWhile_sublist (· == c) (l := l.reverse)).length_le
  simpa using this

theorem itoa_len {n : Int} (h0 : -100000 ≤ n) (h1 : n ≤ 100000) : (Lib.itoa n).length ≤ 7 := by
  unfold Lib.itoa
  have h : (Lib.decDigits n.natAbs).length ≤ 6 := dd_len (by omega) (by omega)
  have h' : (Lib.decDigits n.toNat).length ≤ 6 := dd_len (by omega) (by omega)
  split
  · simp; first | omega | (rw [show (-n).toNat = n.natAbs by omega]; omega)
  · omega

def dotB : ByteArray := ⟨#[46]⟩
def expB : ByteArray := ⟨#[101]⟩
theorem dotB_list : dotB.data.toList = [46] := rfl
theorem expB_list : expB.data.toList = [101] := rfl
theorem dotB_eq : (⟨#[46]⟩ : ByteArray) = dotB := rfl
theorem expB_eq : (⟨#[101]⟩ : ByteArray) = expB := rfl

theorem lay_dot {r : ByteArray} (h : 1 < r.size) : (r.extract 0 1 ++ dotB ++ r.extract 1 r.size).data.toList = ptL r.data.toList := by
  rw [bytes_append_list, bytes_append_list, extract_take, extract_drop, dotB_list]
  have : r.data.toList.length = r.size := by simp
  rw [ptL, if_pos (by omega)]
  simp

set_option maxRecDepth 20000 in
set_option maxHeartbeats 1600000 in
theorem layOut_any (w : World) (d : Nat) (p : Int) (hd1 : 1 ≤ d) (hd : d ≤ 100000000000000000) (hp1 : -20000 ≤ p) (hp2 : p ≤ 20000) (htab : Lib.TabIs Tryz.prog w "internal/strconv.uint64pow10" .u64 Lib.pow10Tab) :
    Calls Tryz.prog 130 #[.int .u64 (d : Int), .int .i64 p] w fun e w' => ∃ s : ByteArray, e = .returned (.string s) ∧ s.data.toList = outL d p ∧ Below w.heap.size w w' := by
  have HT : Hid (Lib.TabIs Tryz.prog w "internal/strconv.uint64pow10" .u64 Lib.pow10Tab) := htab
  clear htab
  have hlen : (Lib.decDigits d).length ≤ 18 := dd_len (by omega) (by omega)
  have HOUT : Hid (outL d p = ptL (Lib.trimRightB (Lib.decDigits d) 48) ++ 101 :: Lib.itoa (p + ((Lib.decDigits d).length : Int) - 1)) := rfl
  go_enter Tryz.func130, Tryz.ntmps130
  go_wp2_with fail
  refine (fmtu_any _ d hd1 (by omega) HT.out).mono ?_
  rintro e w1 ⟨t, rfl, ht, b1⟩
  have hts := bytes_size ht
  have hts2 : t.size ≤ 18 := by omega
  have HTT : Hid (t.data.toList = Lib.decDigits d) := ht
  have HTS : Hid (t.size = (Lib.decDigits d).length) := hts
  clear ht hts hlen
  go_wp2_with fail
  refine (Tryz.strings_TrimRight_one t 48 (by decide) _ (by omega)).mono ?_
  rintro e w2 ⟨rfl, rfl⟩
  obtain ⟨r, hr⟩ : ∃ r : ByteArray, (⟨(Lib.trimRightB t.data.toList 48).toArray⟩ : ByteArray) = r := ⟨_, rfl⟩
  have hrl : r.data.toList = Lib.trimRightB (Lib.decDigits d) 48 := by rw [← hr, ← HTT.out]
  have hrs : r.size ≤ 18 := by
    rw [bytes_size hrl]; exact Nat.le_trans (trim_len _ _) (by rw [← HTS.out]; exact hts2)
  rw [hr]
  have HRL : Hid (r.data.toList = Lib.trimRightB (Lib.decDigits d) 48) := hrl
  clear hr hrl
  have ht2 := tab_below HT.out b1
  have HT2 : Hid (Lib.TabIs Tryz.prog w2 "internal/strconv.uint64pow10" .u64 Lib.pow10Tab) := ht2
  clear ht2
  by_cases h1 : 1 < r.size
  · have hi1 : (1 : Int) ≤ (r.size : Int) := by omega
    go_wp2
    go_quiet (fail)
    go_wp2_with fail
    refine (itoaI_any _ (p + ((t.size : Int) - 1)) (by omega) (by omega) (tab_below HT2.out (below_drewN (Below.refl _ _) _))).mono ?_
    rintro e w3 ⟨q, rfl, hq, b3⟩
    have hqs : q.size ≤ 7 := by rw [bytes_size hq]; exact itoa_len (by omega) (by omega)
    have HQ := Hid.mk' hq
    clear hq
    go_wp2
    go_ret
    refine ⟨_, rfl, ?_, b1.trans ((below_drewN (Below.refl _ _) _).trans (b3.mono b1.size))⟩
    rw [bytes_append_list, bytes_append_list, dotB_eq, expB_eq, lay_dot h1, expB_list, HRL.out, HQ.out, HOUT.out, HTS.out, Int.add_sub_assoc]
    simp
  · go_wp2_with fail
    refine (itoaI_any _ (p + ((t.size : Int) - 1)) (by omega) (by omega) HT2.out).mono ?_
    rintro e w3 ⟨q, rfl, hq, b3⟩
    have hqs : q.size ≤ 7 := by rw [bytes_size hq]; exact itoa_len (by omega) (by omega)
    have HQ := Hid.mk' hq
    clear hq
    go_wp2
    go_ret
    refine ⟨_, rfl, ?_, b1.trans (b3.mono b1.size)⟩
    have hrl : r.data.toList.length = r.size := by simp
    rw [bytes_append_list, bytes_append_list, expB_eq, expB_list, HQ.out, HOUT.out, HTS.out, ← HRL.out, ptL, if_neg (by omega), Int.add_sub_assoc]
    simp

theorem pick_val {N B A D d : Nat} {ev : Bool} (h : pickO N B A D ev = some d) : d = N / D ∨ d = N / D + 1 := by
  have hn := nearS_le (N / D) (N % D) (D - N % D)
  unfold pickO at h
  split at h
  · simp at h; omega
  · split at h
    · simp at h; omega
    · split at h
      · simp at h; omega
      · simp at h

/-- What shortest answers, of a size. -/
def ShortAt (s d : Nat) (p : Int) : Prop := ∃ a b j : Nat, a ≤ 400 ∧ b ≤ 9400 ∧ j ≤ 16 ∧ p = (b : Int) - a - j ∧
  oneS s * 10 ^ b ≤ sizeS s * 10 ^ a ∧ sizeS s * 10 ^ a < 10 * (oneS s * 10 ^ b) ∧ Short (sizeS s * 10 ^ a) (belowS s * 10 ^ a) (aboveS s * 10 ^ a) (oneS s * 10 ^ b) (decide (s % 2 = 0)) j d

theorem ShortAt.bd {s d : Nat} {p : Int} (h : ShortAt s d p) : 1 ≤ d ∧ d ≤ 100000000000000000 ∧ -20000 ≤ p ∧ p ≤ 20000 := by
  obtain ⟨a, b, j, h1, h2, h3, rfl, h4, h5, h6, _⟩ := h
  have hv := pick_val h6
  have hD : 0 < oneS s * 10 ^ b := Nat.mul_pos (Nat.pos_of_ne_zero (one_ne s)) (ten_pow_pos b)
  generalize oneS s * 10 ^ b = D at *
  generalize sizeS s * 10 ^ a = S at *
  have ht := ten_le_16 h3
  have hp := ten_pow_pos j
  generalize 10 ^ j = T at *
  have q1 : 1 ≤ S * T / D := by
    rw [Nat.le_div_iff_mul_le hD]
    have := Nat.le_mul_of_pos_right S hp
    omega
  have q2 : S * T / D < 10 * T := by
    rw [Nat.div_lt_iff_lt_mul hD]
    have := Nat.mul_lt_mul_of_pos_right h5 hp
    rw [show 10 * T * D = 10 * D * T by rw [Nat.mul_right_comm]]
    exact this
  exact ⟨by omega, by omega, by omega, by omega⟩

def sgL (x : Nat) : List UInt8 := if 9223372036854775808 ≤ x then [45] else []

/-- What Print answers. -/
def PrintOk (x : Nat) (l : List UInt8) : Prop :=
  (9218868437227405312 < x % 9223372036854775808 ∧ l = [110, 97, 110]) ∨ (x % 9223372036854775808 = 9218868437227405312 ∧ l = sgL x ++ [105, 110, 102]) ∨
  (x % 9223372036854775808 = 0 ∧ l = sgL x ++ [48]) ∨
  (x % 9223372036854775808 ≠ 0 ∧ x % 9223372036854775808 < 9218868437227405312 ∧ ∃ d p, ShortAt (x % 9223372036854775808) d p ∧ l = sgL x ++ outL d p)

theorem andNot_sign {x : Nat} (h : x < 18446744073709551616) : bits BinOp.andNot IntKind.u64 (x : Int) 9223372036854775808 = ((x % 9223372036854775808 : Nat) : Int) := by
  rw [show (9223372036854775808 : Int) = ((9223372036854775808 : Nat) : Int) from rfl, u64_andNot_nat _ _ h (by omega)]
  congr 1
  exact Nat.and_two_pow_sub_one_eq_mod x 63

theorem and_sign {x : Nat} (h : x < 18446744073709551616) : bits BinOp.and IntKind.u64 (x : Int) 9223372036854775808 = ((if 9223372036854775808 ≤ x then 9223372036854775808 else 0 : Nat) : Int) := by
  rw [show (9223372036854775808 : Int) = ((9223372036854775808 : Nat) : Int) from rfl, u64_and_nat _ _ h (by omega)]
  congr 1
  have hb : x.testBit 63 = decide (9223372036854775808 ≤ x) := by
    rw [Nat.testBit_eq_decide_div_mod_eq]
    by_cases h1 : 9223372036854775808 ≤ x
    · rw [decide_eq_true h1, show x / 2 ^ 63 = 1 by omega]; rfl
    · rw [decide_eq_false h1, show x / 2 ^ 63 = 0 by omega]; rfl
  apply Nat.eq_of_testBit_eq
  intro i
  rw [Nat.testBit_and, show (9223372036854775808 : Nat) = 2 ^ 63 from rfl, Nat.testBit_two_pow]
  by_cases hi : 63 = i
  · subst hi
    rw [hb]
    split
    · rename_i h1; rw [Nat.testBit_two_pow, decide_eq_true h1]; rfl
    · rename_i h1; rw [Nat.zero_testBit, decide_eq_false h1]; rfl
  · rw [decide_eq_false hi, Bool.and_false]
    split
    · rw [Nat.testBit_two_pow, decide_eq_false hi]
    · rw [Nat.zero_testBit]

def sgB (x : Nat) : ByteArray := ⟨(sgL x).toArray⟩
theorem sgB_list (x : Nat) : (sgB x).data.toList = sgL x := rfl
theorem sgB_size (x : Nat) : (sgB x).size ≤ 1 := by rw [bytes_size (sgB_list x)]; unfold sgL; split <;> simp

end Go.Proofs.YthdcceackfdbbaaGreatDoor
/- Walk: Print. Own text. -/
namespace Go.Proofs.YthdcceackfdbbaaGreatDoor
open Go.RowKit

theorem ptL_len (r : List UInt8) : (ptL r).length ≤ r.length + 1 := by unfold ptL; split <;> simp <;> omega

theorem outL_size {r : ByteArray} {d : Nat} {p : Int} (h : r.data.toList = outL d p) (_h1 : 1 ≤ d) (h2 : d ≤ 100000000000000000) (h3 : -20000 ≤ p) (h4 : p ≤ 20000) : r.size ≤ 40 := by
  rw [bytes_size h]
  have hlen : (Lib.decDigits d).length ≤ 18 := dd_len (by omega) (by omega)
  have hi := itoa_len (n := p + ((Lib.decDigits d).length : Int) - 1) (by omega) (by omega)
  have ht := trim_len (Lib.decDigits d) 48
  have hp := ptL_len (Lib.trimRightB (Lib.decDigits d) 48)
  unfold outL
  rw [List.length_append, List.length_cons]
  omega

set_option maxRecDepth 20000 in
set_option maxHeartbeats 1600000 in
theorem nprint_any (w : World) (x : Nat) (hx : x < 18446744073709551616) (htab : Lib.TabIs Tryz.prog w "internal/strconv.uint64pow10" .u64 Lib.pow10Tab) :
    Calls Tryz.prog 93 #[.int .u64 (x : Int)] w fun e w' => ∃ s : ByteArray, e = .returned (.string s) ∧ PrintOk x s.data.toList ∧ s.size ≤ 100 ∧ Below w.heap.size w w' := by
  have HT : Hid (Lib.TabIs Tryz.prog w "internal/strconv.uint64pow10" .u64 Lib.pow10Tab) := htab
  clear htab
  have h1 := andNot_sign hx
  have h2 := and_sign hx
  obtain ⟨s, hs⟩ : ∃ s, x % 9223372036854775808 = s := ⟨_, rfl⟩
  have hs2 : s < 9223372036854775808 := by omega
  rw [hs] at h1
  have HS : Hid (x % 9223372036854775808 = s) := hs
  clear hs
  by_cases hg : 9223372036854775808 ≤ x
  · rw [if_pos hg] at h2
    have hb : (bits BinOp.and IntKind.u64 (x : Int) 9223372036854775808 != 0) = true := by rw [h2]; rfl
    have HG : Hid (sgL x = [45]) := by unfold Hid sgL; rw [if_pos hg]
    clear h2
    by_cases c1 : 9218868437227405312 < s
    · have c1b : decide ((9218868437227405312 : Int) < (s : Int)) = true := by simp; omega
      go_enter Tryz.func93, Tryz.ntmps93
      go_wp2
      go_ret
      exact ⟨_, rfl, .inl ⟨by rw [HS.out]; exact c1, rfl⟩, by decide, Below.refl _ _⟩
    · have c1b : decide ((9218868437227405312 : Int) < (s : Int)) = false := by simp; omega
      by_cases c2 : s = 9218868437227405312
      · have c2b : ((s : Int) == 9218868437227405312) = true := by simp; omega
        go_enter Tryz.func93, Tryz.ntmps93
        go_wp2
        go_ret
        exact ⟨_, rfl, .inr (.inl ⟨by rw [HS.out]; exact c2, by rw [HG.out]; rfl⟩), by decide, Below.refl _ _⟩
      · have c2b : ((s : Int) == 9218868437227405312) = false := by simp; omega
        by_cases c3 : s = 0
        · have c3b : ((s : Int) == 0) = true := by simp; omega
          go_enter Tryz.func93, Tryz.ntmps93
          go_wp2
          go_ret
          exact ⟨_, rfl, .inr (.inr (.inl ⟨by rw [HS.out]; exact c3, by rw [HG.out]; rfl⟩)), by decide, Below.refl _ _⟩
        · have c3b : ((s : Int) == 0) = false := by simp; omega
          go_enter Tryz.func93, Tryz.ntmps93
          go_wp2_with fail
          refine (shortest_any _ s c3 (by omega)).mono ?_
          rintro e w1 ⟨a, b, j, d, rfl, ha, hb', hj, q1, q2, q3, b1⟩
          have hsa : ShortAt s d ((b : Int) - a - j) := ⟨a, b, j, ha, hb', hj, rfl, q1, q2, q3⟩
          obtain ⟨d1, d2, p1, p2⟩ := hsa.bd
          have HSA := Hid.mk' hsa
          clear hsa q1 q2 q3
          go_wp2_with fail
          refine (layOut_any _ d _ d1 d2 p1 p2 (tab_below HT.out b1)).mono ?_
          rintro e w2 ⟨r, rfl, hr, b2⟩
          have hrs : r.size ≤ 40 := outL_size hr d1 d2 p1 p2
          go_wp2
          go_ret
          refine ⟨_, rfl, .inr (.inr (.inr ⟨by rw [HS.out]; exact c3, by rw [HS.out]; omega, d, _, by rw [HS.out]; exact HSA.out, ?_⟩)), ?_, b1.trans (b2.mono b1.size)⟩
          · rw [bytes_append_list, hr, HG.out]
          · rw [ByteArray.size_append]; have : (⟨#[45]⟩ : ByteArray).size ≤ 1 := by decide
            omega
  · rw [if_neg hg] at h2
    have hb : (bits BinOp.and IntKind.u64 (x : Int) 9223372036854775808 != 0) = false := by rw [h2]; rfl
    have HG : Hid (sgL x = []) := by unfold Hid sgL; rw [if_neg hg]
    clear h2
    by_cases c1 : 9218868437227405312 < s
    · have c1b : decide ((9218868437227405312 : Int) < (s : Int)) = true := by simp; omega
      go_enter Tryz.func93, Tryz.ntmps93
      go_wp2
      go_ret
      exact ⟨_, rfl, .inl ⟨by rw [HS.out]; exact c1, rfl⟩, by decide, Below.refl _ _⟩
    · have c1b : decide ((9218868437227405312 : Int) < (s : Int)) = false := by simp; omega
      by_cases c2 : s = 9218868437227405312
      · have c2b : ((s : Int) == 9218868437227405312) = true := by simp; omega
        go_enter Tryz.func93, Tryz.ntmps93
        go_wp2
        go_ret
        exact ⟨_, rfl, .inr (.inl ⟨by rw [HS.out]; exact c2, by rw [HG.out]; rfl⟩), by decide, Below.refl _ _⟩
      · have c2b : ((s : Int) == 9218868437227405312) = false := by simp; omega
        by_cases c3 : s = 0
        · have c3b : ((s : Int) == 0) = true := by simp; omega
          go_enter Tryz.func93, Tryz.ntmps93
          go_wp2
          go_ret
          exact ⟨_, rfl, .inr (.inr (.inl ⟨by rw [HS.out]; exact c3, by rw [HG.out]; rfl⟩)), by decide, Below.refl _ _⟩
        · have c3b : ((s : Int) == 0) = false := by simp; omega
          go_enter Tryz.func93, Tryz.ntmps93
          go_wp2_with fail
          refine (shortest_any _ s c3 (by omega)).mono ?_
          rintro e w1 ⟨a, b, j, d, rfl, ha, hb', hj, q1, q2, q3, b1⟩
          have hsa : ShortAt s d ((b : Int) - a - j) := ⟨a, b, j, ha, hb', hj, rfl, q1, q2, q3⟩
          obtain ⟨d1, d2, p1, p2⟩ := hsa.bd
          have HSA := Hid.mk' hsa
          clear hsa q1 q2 q3
          go_wp2_with fail
          refine (layOut_any _ d _ d1 d2 p1 p2 (tab_below HT.out b1)).mono ?_
          rintro e w2 ⟨r, rfl, hr, b2⟩
          have hrs : r.size ≤ 40 := outL_size hr d1 d2 p1 p2
          go_wp2
          go_ret
          refine ⟨_, rfl, .inr (.inr (.inr ⟨by rw [HS.out]; exact c3, by rw [HS.out]; omega, d, _, by rw [HS.out]; exact HSA.out, ?_⟩)), ?_, b1.trans (b2.mono b1.size)⟩
          · rw [bytes_append_list, hr, HG.out]
          · rw [ByteArray.size_append]; have : (⟨#[]⟩ : ByteArray).size ≤ 1 := by decide
            omega

set_option maxHeartbeats 400000 in
theorem print_any (w : World) (x : Nat) (hx : x < 18446744073709551616) (htab : Lib.TabIs Tryz.prog w "internal/strconv.uint64pow10" .u64 Lib.pow10Tab) :
    Calls Tryz.prog 58 #[.int .u64 (x : Int)] w fun e w' => ∃ s : ByteArray, e = .returned (.string s) ∧ PrintOk x s.data.toList ∧ s.size ≤ 100 ∧ Below w.heap.size w w' := by
  go_enter Tryz.func58, Tryz.ntmps58
  go_wp2_with fail
  refine (nprint_any _ x hx htab).mono ?_
  rintro e w1 ⟨s, rfl, h1, h2, h3⟩
  go_wp2
  go_ret
  exact ⟨s, rfl, h1, h2, h3⟩

end Go.Proofs.YthdcceackfdbbaaGreatDoor
