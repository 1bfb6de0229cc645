import Derived.Test.YthdcceackfdbbaaGreatDoorM04R
import Derived.Test.YthdcceackfdbbaaGreatDoorM05R
import Derived.Test.YthdcceackfdbbaaGreatDoorM01R
import Derived.Test.YthdcceackfdbbaaGreatDoorM09R
import Derived.Test.YthdcceackfdbbaaGreatDoorShelf2QR
import Derived.Deep.RegionHeld3
import Derived.Deep.DrawnRows
import Derived.Deep.CutRange
import Derived.Deep.RegionWith
import Derived.Lib.ItoaNum
import Derived.KernelRfl
import Derived.Lib.LaidTab
import Derived.Sort.Grow
import Derived.Lib.ItoaMem
import Derived.Lib.Walk
import Derived.BigCall
import Derived.Lib.Join
import Derived.RangeFuncBox
namespace Go.Proofs.YthdcceackfdbbaaGreatDoor
open Go.RowKit
theorem and_frac {s : Nat} (h : s < 18446744073709551616) : bits BinOp.and IntKind.u64 (s : Int) 4503599627370495 = ((s % 4503599627370496 : Nat) : Int) := by
  rw [show (4503599627370495 : Int) = ((4503599627370495 : Nat) : Int) from rfl, u64_and_nat _ _ h (by omega)]
  congr 1
  exact Nat.and_two_pow_sub_one_eq_mod s 52
end Go.Proofs.YthdcceackfdbbaaGreatDoor
namespace Go.Proofs.YthdcceackfdbbaaGreatDoor
open Go.RowKit
end Go.Proofs.YthdcceackfdbbaaGreatDoor
namespace Go.Proofs.YthdcceackfdbbaaGreatDoor
open Go.RowKit
attribute [local go_sem ↓] Go.wp_at_zero Go.wp_at_succ
section sets
variable {w : World} {g : Nat} {v0 v1 v2 v3 v : Value} {ev : Bool} {S B A D N : Nat}
end sets
end Go.Proofs.YthdcceackfdbbaaGreatDoor
namespace Go.Proofs.YthdcceackfdbbaaGreatDoor
open Go.RowKit
end Go.Proofs.YthdcceackfdbbaaGreatDoor
namespace Go.Proofs.YthdcceackfdbbaaGreatDoor
open Go.RowKit
attribute [local go_sem ↓] Go.wp_at_zero Go.wp_at_succ
end Go.Proofs.YthdcceackfdbbaaGreatDoor
namespace Go.Proofs.YthdcceackfdbbaaGreatDoor
theorem rhe_le {n d m : Nat} (h : n < d * m) : rhe n d ≤ m := by
  have h1 : n / d < m := Nat.div_lt_of_lt_mul h
  unfold rhe
  split <;> omega
theorem rat_le {a b i j s : Nat} {e : Int} (h2 : a * 2 ^ i < 2 * (b * 2 ^ j)) (he : e = (j : Int) + 1 - i - s) : rat a b e ≤ 2 ^ s := by
  rw [← rat_of (a := a) (b := b) (i := i) (j := j) (s := s) he]
  exact rhe_le ((Nat.mul_lt_mul_right (Nat.pow_pos (by omega))).2 h2)
theorem rnd_le (a b : Nat) (ha : a ≠ 0) (hb : b ≠ 0) : rnd a b ≤ 9218868437227405312 := by
  obtain ⟨i, j, e, h1, h2⟩ := plog_key ha hb
  by_cases c1 : 1023 < plog a b
  · unfold rnd; rw [if_pos c1]; omega
  · by_cases c2 : plog a b < -1075
    · rw [rnd_low ha hb h1 h2 (by omega)]; omega
    · unfold rnd; rw [if_neg c1]
      unfold eOf
      by_cases c3 : plog a b < -1022
      · rw [if_pos c3]
        have h3 := rat_le (e := -1074) (s := (plog a b + 1075).toNat) h2 (by omega)
        have h4 : 2 ^ (plog a b + 1075).toNat ≤ 2 ^ 53 := Nat.pow_le_pow_right (by omega) (by omega)
        have h5 : ((-1074 : Int) + 1074).toNat = 0 := rfl
        rw [h5]
        omega
      · rw [if_neg c3]
        have h3 := rat_le (e := plog a b - 52) (s := 53) h2 (by omega)
        have h4 : (plog a b - 52 + 1074).toNat ≤ 2045 := by omega
        omega
theorem decRnd_le (D : Nat) (k : Int) : decRnd D k ≤ 9218868437227405312 := by
  unfold decRnd
  split
  · omega
  · rename_i h
    split
    · exact rnd_le _ _ (Nat.ne_of_gt (Nat.mul_pos (by omega) (ten_pow_pos _))) (by omega)
    · exact rnd_le _ _ h (Nat.ne_of_gt (ten_pow_pos _))
theorem drop_zero (l : List UInt8) : ∀ c r, l.dropWhile (· == 48) = c :: r → c.toNat ≠ 48 := by
  intro c r h
  have := List.head?_dropWhile_not (p := (· == (48 : UInt8))) l
  rw [h] at this
  simp at this
  intro e
  exact this (UInt8.toNat_inj.1 e)
theorem digs_append {a b : List UInt8} (ha : Digs a) (hb : Digs b) : Digs (a ++ b) := by
  intro x hx
  rcases List.mem_append.1 hx with h | h
  · exact ha x h
  · exact hb x h
theorem digs_drop {l : List UInt8} (h : Digs l) (p : UInt8 → Bool) : Digs (l.dropWhile p) := fun x hx => h x ((List.dropWhile_sublist p).subset hx)
end Go.Proofs.YthdcceackfdbbaaGreatDoor
namespace Go.Proofs.YthdcceackfdbbaaGreatDoor
open Go.RowKit
theorem fracL_digs (l : List UInt8) : Digs (fracL l).1 := by
  cases l with
  | nil => intro x hx; simp [fracL] at hx
  | cons c r =>
    simp only [fracL]
    split
    · exact digs_takeWhile r
    · intro x hx; simp at hx
theorem fracL_len (l : List UInt8) : (fracL l).1.length ≤ l.length := by
  cases l with
  | nil => simp [fracL]
  | cons c r =>
    simp only [fracL]
    split
    · have := takeWhile_len r; simp; omega
    · simp
theorem span_len (l : List UInt8) : (l.takeWhile isDig).length + (l.dropWhile isDig).length = l.length := by
  rw [← List.length_append, List.takeWhile_append_dropWhile]
theorem decL_facts {l ds : List UInt8} {q : Int} (h : decL l = some (ds, q)) : Digs ds ∧ ds.length ≤ l.length ∧ (∀ c r, ds = c :: r → c.toNat ≠ 48) ∧ -10000 - (l.length : Int) ≤ q ∧ q ≤ 10000 := by
  unfold decL at h
  split at h
  · cases h
  · cases hp : powL (fracL (l.dropWhile isDig)).2 with
    | none => rw [hp] at h; cases h
    | some p =>
      rw [hp] at h
      simp only [Option.map_some, Option.some.injEq, Prod.mk.injEq] at h
      obtain ⟨h1, h2⟩ := h
      have b := powL_bd hp
      have l1 := fracL_len (l.dropWhile isDig)
      have l2 := span_len l
      refine ⟨?_, ?_, ?_, by omega, by omega⟩
      · rw [← h1]; exact digs_drop (digs_append (digs_takeWhile l) (fracL_digs _)) _
      · rw [← h1]
        have := (List.dropWhile_sublist (· == (48 : UInt8)) (l := l.takeWhile isDig ++ (fracL (l.dropWhile isDig)).1)).length_le
        rw [List.length_append] at this
        omega
      · rw [← h1]; exact drop_zero _
theorem list_eq_beq {s : ByteArray} {l : List UInt8} (h : s.data.toList = l) : (s.toList == l) = true := by rw [bytes_toList, h]; simp
theorem list_ne_beq {s : ByteArray} {l : List UInt8} (h : s.data.toList ≠ l) : (s.toList == l) = false := by rw [bytes_toList]; simpa using h
theorem or_sign {n : Nat} (h : n ≤ 9218868437227405312) : bits BinOp.or IntKind.u64 (n : Int) 9223372036854775808 = ((n + 9223372036854775808 : Nat) : Int) := by
  rw [show (9223372036854775808 : Int) = ((9223372036854775808 : Nat) : Int) from rfl, u64_or_nat _ _ (by omega) (by omega), Nat.or_comm, nat_join 63 _ _ (by decide) (by omega), Nat.add_comm]
theorem ret2 {a a' b b' : Int} (h1 : a = a') (h2 : b = b') : Ending.returned (.tuple #[.int .u64 a, .int .i64 b]) = .returned (.tuple #[.int .u64 a', .int .i64 b']) := by rw [h1, h2]
set_option maxRecDepth 5000 in
set_option maxHeartbeats 1600000 in
theorem nscan_any (w : World) (s : ByteArray) (hs : s.size ≤ maxLen) :
    Calls Tryz.prog 87 #[.string s] w fun e w' => e = .returned (.tuple #[.int .u64 ((scanL s.data.toList).1 : Int), .int .i64 ((scanL s.data.toList).2 : Int)]) ∧ Below w.heap.size w w' := by
  unfold maxLen at hs
  have hsz : s.data.toList.length = s.size := by simp
  have HSZ : Hid (s.data.toList.length = s.size) := hsz
  clear hsz
  by_cases c0 : 60 < s.size
  · have HF : Hid (scanL s.data.toList = (0, 1)) := by unfold Hid scanL; rw [if_pos (by rw [HSZ.out]; exact c0)]
    go_enter Tryz.func87, Tryz.ntmps87
    go_wp2
    go_ret2
    exact ⟨by rw [HF.out]; rfl, Below.refl _ _⟩
  · by_cases c1 : s.data.toList = [105, 110, 102]
    · have HF : Hid (scanL s.data.toList = (9218868437227405312, 0)) := by unfold Hid scanL; rw [if_neg (by rw [HSZ.out]; exact c0), if_pos (.inl c1)]
      have b1 := list_eq_beq c1
      clear c1
      go_enter Tryz.func87, Tryz.ntmps87
      go_wp2
      go_ret2
      exact ⟨by rw [HF.out]; rfl, Below.refl _ _⟩
    · have b1 := list_ne_beq c1
      by_cases c2 : s.data.toList = [43, 105, 110, 102]
      · have HF : Hid (scanL s.data.toList = (9218868437227405312, 0)) := by unfold Hid scanL; rw [if_neg (by rw [HSZ.out]; exact c0), if_pos (.inr c2)]
        have b2 := list_eq_beq c2
        clear c1 c2
        go_enter Tryz.func87, Tryz.ntmps87
        go_wp2
        go_ret2
        exact ⟨by rw [HF.out]; rfl, Below.refl _ _⟩
      · have b2 := list_ne_beq c2
        by_cases c3 : s.data.toList = [45, 105, 110, 102]
        · have HF : Hid (scanL s.data.toList = (18442240474082181120, 0)) := by unfold Hid scanL; rw [if_neg (by rw [HSZ.out]; exact c0), if_neg (by rintro (h | h); exact c1 h; exact c2 h), if_pos c3]
          have b3 := list_eq_beq c3
          clear c1 c2 c3
          go_enter Tryz.func87, Tryz.ntmps87
          go_wp2
          go_ret2
          exact ⟨by rw [HF.out]; rfl, Below.refl _ _⟩
        · have b3 := list_ne_beq c3
          by_cases c4 : s.data.toList = [110, 97, 110]
          · have HF : Hid (scanL s.data.toList = (9221120237041090560, 0)) := by unfold Hid scanL; rw [if_neg (by rw [HSZ.out]; exact c0), if_neg (by rintro (h | h); exact c1 h; exact c2 h), if_neg c3, if_pos c4]
            have b4 := list_eq_beq c4
            clear c1 c2 c3 c4
            go_enter Tryz.func87, Tryz.ntmps87
            go_wp2
            go_ret2
            exact ⟨by rw [HF.out]; rfl, Below.refl _ _⟩
          · have b4 := list_ne_beq c4
            obtain ⟨m, sr, hsg⟩ : ∃ m sr, signL s.data.toList = (m, sr) := ⟨_, _, rfl⟩
            have HF : Hid (scanL s.data.toList = finL (decL sr) m) := by
              unfold Hid scanL
              rw [if_neg (by rw [HSZ.out]; exact c0), if_neg (by rintro (h | h); exact c1 h; exact c2 h), if_neg c3, if_neg c4, hsg]
            have hsl := signL_len s.data.toList
            rw [HSZ.out, hsg] at hsl
            have HSG : Hid (signL s.data.toList = (m, sr)) := hsg
            simp only at hsl
            clear c1 c2 c3 c4 hsg
            go_enter Tryz.func87, Tryz.ntmps87
            go_wp2_with fail
            refine (cutSign_any _ s (by omega)).mono ?_
            rintro e w1 ⟨r, rfl, hr, n1, rfl⟩
            rw [HSG.out] at hr ⊢
            have HR : Hid (r.data.toList = sr) := hr
            clear hr
            have hrs : r.size ≤ 60 := by rw [bytes_size HR.out]; omega
            go_wp2_with fail
            refine (scanDecimal_any _ r (by omega)).mono ?_
            rintro e w2 ⟨d, p, ok, rfl, hdk, b2'⟩
            rw [HR.out] at hdk
            simp only [World.heap_drewN] at b2'
            have bb2 : Below w.heap.size w w2 := (below_drewN (Below.refl _ _) n1).trans b2'
            have hsz2 := bb2.size
            cases hdl : decL sr with
            | none =>
              rw [hdl] at hdk
              have hok : ok = false := hdk
              subst hok
              have HF2 : Hid (scanL s.data.toList = (0, 1)) := by unfold Hid; rw [HF.out, hdl]; rfl
              clear HF hdl hdk
              go_wp2
              go_ret2
              exact ⟨by rw [HF2.out]; rfl, bb2.alloc hsz2 _⟩
            | some dq =>
              obtain ⟨ds, q⟩ := dq
              rw [hdl] at hdk
              obtain ⟨hok, hds, hpq⟩ : ok = true ∧ d.data.toList = ds ∧ p = q := hdk
              subst hok
              subst hpq
              obtain ⟨f1, f2, f3, f4, f5⟩ := decL_facts hdl
              have hdg : Digs d.data.toList := by rw [hds]; exact f1
              have hz : ∀ c r, d.data.toList = c :: r → c.toNat ≠ 48 := by rw [hds]; exact f3
              have hdsz : d.size ≤ 60 := by rw [bytes_size hds]; omega
              have HF2 : Hid (scanL s.data.toList = (decRnd (dval d.data.toList) p + (if m then 9223372036854775808 else 0), 0)) := by unfold Hid; rw [HF.out, hdl, hds]; rfl
              have HZ : Hid (∀ c r, d.data.toList = c :: r → c.toNat ≠ 48) := hz
              have hle := decRnd_le (dval d.data.toList) p
              clear HF hdl f1 f2 f3 hds hz
              go_wp2_with fail
              refine (round_any _ d p hdg hdsz HZ.out (by omega) (by omega)).mono ?_
              rintro e w3 ⟨rfl, b3⟩
              have bb3 : Below w.heap.size w w3 := (bb2.alloc hsz2 _).trans (b3.mono (by simp; omega))
              generalize decRnd (dval d.data.toList) p = N at *
              cases m with
              | true =>
                go_wp2
                go_ret2
                refine ⟨?_, bb3⟩
                rw [HF2.out]
                exact ret2 (or_sign hle) rfl
              | false =>
                go_wp2
                go_ret2
                refine ⟨?_, bb3⟩
                rw [HF2.out]
                exact ret2 (by simp) rfl
end Go.Proofs.YthdcceackfdbbaaGreatDoor
namespace Go.Proofs.YthdcceackfdbbaaGreatDoor
theorem dval_cons_zero (l : List UInt8) : dval (48 :: l) = dval l := by simp [dval]
theorem dval_drop (l : List UInt8) : dval (l.dropWhile (· == 48)) = dval l := by
  induction l with
  | nil => rfl
  | cons c r ih =>
    by_cases h : c = 48
    · subst h; simp only [List.dropWhile_cons, beq_self_eq_true, if_true]; rw [ih, dval_cons_zero]
    · have : (c == 48) = false := by simpa using h
      simp [this]
theorem takeWhile_all {l : List UInt8} (h : Digs l) (r : List UInt8) (hr : ∀ c t, r = c :: t → isDig c = false) : (l ++ r).takeWhile isDig = l ∧ (l ++ r).dropWhile isDig = r := by
  have := takeWhile_at (p := isDig) (l := l ++ r) (k := l.length) (fun x hx => by rw [List.take_left'] at hx; exact h x hx; rfl) (fun x hx => by
    rw [List.getElem?_append_right (Nat.le_refl _), Nat.sub_self] at hx
    cases r with
    | nil => simp at hx
    | cons c t => simp at hx; subst hx; exact hr c t rfl)
  rw [List.take_left' rfl, List.drop_left' rfl] at this
  exact this
theorem dval_append (a b : List UInt8) : dval (a ++ b) = dval a * 10 ^ b.length + dval b := by
  induction b using list_snoc_ind with
  | h0 => simp [dval]
  | h1 b c ih =>
    rw [← List.append_assoc, dval_snoc, dval_snoc, ih, List.length_append, List.length_singleton, Nat.pow_succ, Nat.add_mul, Nat.mul_assoc]
    omega
theorem rhe_of' {n d q r : Nat} (h : n = d * q + r) (hr : r < d) : rhe n d = if d < 2 * r ∨ (2 * r = d ∧ q % 2 = 1) then q + 1 else q := by
  have h1 : n / d = q := by rw [h, Nat.mul_comm, Nat.add_comm, Nat.add_mul_div_right _ _ (by omega), Nat.div_eq_of_lt hr]; omega
  have h2 : n % d = r := by rw [h, Nat.mul_add_mod, Nat.mod_eq_of_lt hr]
  unfold rhe
  rw [h1, h2]
end Go.Proofs.YthdcceackfdbbaaGreatDoor
namespace Go.Proofs.YthdcceackfdbbaaGreatDoor
end Go.Proofs.YthdcceackfdbbaaGreatDoor
namespace Go.Proofs.YthdcceackfdbbaaGreatDoor
open Go.RowKit
end Go.Proofs.YthdcceackfdbbaaGreatDoor
namespace Go.Proofs.YthdcceackfdbbaaGreatDoor
open Go.RowKit Go.Sort
end Go.Proofs.YthdcceackfdbbaaGreatDoor
namespace Go.Proofs.YthdcceackfdbbaaGreatDoor
open Go.RowKit
theorem andNot_sign {x : Nat} (h : x < 18446744073709551616) : bits BinOp.andNot IntKind.u64 (x : Int) 9223372036854775808 = ((x % 9223372036854775808 : Nat) : Int) := by
  rw [show (9223372036854775808 : Int) = ((9223372036854775808 : Nat) : Int) from rfl, u64_andNot_nat _ _ h (by omega)]
  congr 1
  exact Nat.and_two_pow_sub_one_eq_mod x 63
end Go.Proofs.YthdcceackfdbbaaGreatDoor
namespace Go.Proofs.YthdcceackfdbbaaGreatDoor
open Go.RowKit
end Go.Proofs.YthdcceackfdbbaaGreatDoor
namespace Go.Proofs.YthdcceackfdbbaaGreatDoor
def valB : List Nat → Nat
  | [] => 0
  | x :: r => x + 1000000000 * valB r
def WdsB (l : List Nat) : Prop := ∀ x ∈ l, x < 1000000000
theorem val_appendB (a b : List Nat) : valB (a ++ b) = valB a + 1000000000 ^ a.length * valB b := by
  induction a with
  | nil => simp [valB]
  | cons x r ih => simp only [List.cons_append, valB, ih, List.length_cons, Nat.pow_succ, Nat.mul_add]; rw [Nat.mul_comm (1000000000 ^ r.length) 1000000000, Nat.mul_assoc]; omega
theorem val_ltB {l : List Nat} (h : WdsB l) : valB l < 1000000000 ^ l.length := by
  induction l with
  | nil => simp [valB]
  | cons x r ih =>
    have h1 := h x (by simp)
    have h2 := ih (fun y hy => h y (by simp [hy]))
    simp only [valB, List.length_cons, Nat.pow_succ]
    have h3 : valB r + 1 ≤ 1000000000 ^ r.length := h2
    have h4 := Nat.mul_le_mul_left 1000000000 h3
    rw [Nat.mul_comm (1000000000 ^ r.length)]
    omega
theorem canon_leB {l : List Nat} (h : Canon l) (hne : l ≠ []) : 1000000000 ^ (l.length - 1) ≤ valB l := by
  obtain ⟨r, x, rfl⟩ := snoc_of_ne hne
  have hx : x ≠ 0 := h x (by simp)
  rw [val_appendB]
  simp only [valB, List.length_append, List.length_cons, List.length_nil]
  have : 1000000000 ^ r.length * 1 ≤ 1000000000 ^ r.length * (x + 1000000000 * 0) := Nat.mul_le_mul_left _ (by omega)
  simp at this ⊢
  omega
theorem canon_lenB {l : List Nat} (h : Canon l) {k : Nat} (hk : valB l < 1000000000 ^ k) : l.length ≤ k := by
  by_cases hne : l = []
  · simp [hne]
  · have h1 := canon_leB h hne
    have h2 : 1000000000 ^ (l.length - 1) < 1000000000 ^ k := Nat.lt_of_le_of_lt h1 hk
    have h3 := (Nat.pow_lt_pow_iff_right (by omega : 1 < 1000000000)).1 h2
    omega
theorem canon_zeroB {l : List Nat} (h : Canon l) (hk : valB l = 0) : l = [] := by
  by_cases hne : l = []
  · exact hne
  · have h1 := canon_leB h hne
    have : 0 < 1000000000 ^ (l.length - 1) := Nat.pow_pos (by omega)
    omega
theorem trimL_valB (l : List Nat) : valB (trimL l) = valB l := by
  refine trimL_cases (fun l => valB (trimL l) = valB l) rfl ?_ ?_ l
  · intro r x hx; rw [trimL_snoc_ne r hx]
  · intro r h; rw [trimL_snoc_zero, h, val_appendB]; simp [valB]
theorem wds_takeB {l : List Nat} (h : WdsB l) (k : Nat) : WdsB (l.take k) := fun x hx => h x (List.mem_of_mem_take hx)
theorem val_snocB (l : List Nat) (x : Nat) : valB (l ++ [x]) = valB l + 1000000000 ^ l.length * x := by rw [val_appendB]; simp [valB]
theorem val_take_succB {l : List Nat} {k y : Nat} (h : l[k]? = some y ∨ (l.length ≤ k ∧ y = 0)) : valB (l.take (k + 1)) = valB (l.take k) + 1000000000 ^ k * y := by
  rcases h with h | ⟨h, rfl⟩
  · rw [take_snoc_get h, val_snocB, take_len (by have := (List.getElem?_eq_some_iff.1 h).1; omega)]
  · rw [List.take_of_length_le (by omega), List.take_of_length_le h]; simp
theorem val_splitB {l : List Nat} {k x : Nat} (h : l[k]? = some x) : valB l = valB (l.take k) + 1000000000 ^ k * (x + 1000000000 * valB (l.drop (k + 1))) := by
  have hk := (List.getElem?_eq_some_iff.1 h).1
  have e : l = l.take k ++ x :: l.drop (k + 1) := by
    have h1 := (List.take_append_drop k l).symm
    rw [List.drop_eq_getElem_cons hk] at h1
    rw [(List.getElem?_eq_some_iff.1 h).2] at h1
    exact h1
  have := congrArg valB e
  rw [val_appendB, take_len (by omega)] at this
  simpa [valB] using this
theorem val_lt_ofB {la lb : List Nat} {k x y : Nat} (hw : WdsB la) (hx : la[k]? = some x) (hy : lb[k]? = some y) (hd : la.drop (k + 1) = lb.drop (k + 1)) (h : x < y) : valB la < valB lb := by
  rw [val_splitB hx, val_splitB hy, hd]
  have h1 := val_ltB (wds_takeB hw k)
  rw [take_len (by have := (List.getElem?_eq_some_iff.1 hx).1; omega)] at h1
  have h2 : 1000000000 ^ k * (x + 1000000000 * valB (lb.drop (k + 1)) + 1) ≤ 1000000000 ^ k * (y + 1000000000 * valB (lb.drop (k + 1))) := Nat.mul_le_mul_left _ (by omega)
  rw [Nat.mul_add _ _ 1] at h2
  omega
theorem val_lt_lenB {la lb : List Nat} (hw : WdsB la) (hc : Canon lb) (h : la.length < lb.length) : valB la < valB lb := by
  have h1 := val_ltB hw
  have h2 := canon_leB hc (by intro e; simp [e] at h)
  have h3 : 1000000000 ^ la.length ≤ 1000000000 ^ (lb.length - 1) := Nat.pow_le_pow_right (by omega) (by omega)
  omega
end Go.Proofs.YthdcceackfdbbaaGreatDoor
namespace Go.Proofs.YthdcceackfdbbaaGreatDoor
theorem rat_of2 {a b i j : Nat} : rhe (a * 2 ^ i) (b * 2 ^ j) = rat a b ((j : Int) - i) := by
  unfold rat
  by_cases h : 0 ≤ (j : Int) - i
  · rw [if_pos h]
    have e2 : b * 2 ^ j = b * 2 ^ ((j : Int) - i).toNat * 2 ^ i := by rw [Nat.mul_assoc, ← Nat.pow_add]; congr 2; omega
    rw [e2, rhe_scale _ _ _ (Nat.pow_pos (by omega))]
  · rw [if_neg h]
    have e2 : a * 2 ^ i = a * 2 ^ (-((j : Int) - i)).toNat * 2 ^ j := by rw [Nat.mul_assoc, ← Nat.pow_add]; congr 2; omega
    rw [e2, rhe_scale _ _ _ (Nat.pow_pos (by omega))]
def guess (la lb : Nat) : Int := if 0 < (la : Int) - lb - 1 then 29 * ((la : Int) - lb - 1) - 54 else 30 * ((la : Int) - lb - 1) - 54
theorem guess_le {a b la lb : Nat} (ha : a ≠ 0) (hb : b ≠ 0) (h1 : 1000000000 ^ (la - 1) ≤ a) (h2 : b < 1000000000 ^ lb) (hla : 1 ≤ la) : guess la lb + 54 ≤ plog a b := by
  obtain ⟨i, j, e, k1, k2⟩ := plog_key ha hb
  rw [e]
  unfold guess
  by_cases hc : 0 < (la : Int) - lb - 1
  · rw [if_pos hc]
    have h3 : b * 2 ^ (29 * (la - lb - 1)) ≤ a * 2 ^ 0 := by
      rw [Nat.pow_zero, Nat.mul_one]
      refine Nat.le_trans (Nat.mul_le_mul (Nat.le_of_lt h2) (Nat.le_trans ?_ (Nat.le_refl (1000000000 ^ (la - lb - 1))))) ?_
      · rw [Nat.pow_mul]; exact Nat.pow_le_pow_left (by decide) _
      · rw [← Nat.pow_add, show lb + (la - lb - 1) = la - 1 from by omega]; exact h1
    have := power_unique h3 k2
    omega
  · rw [if_neg hc]
    have h3 : b * 2 ^ 0 ≤ a * 2 ^ (30 * (lb + 1 - la)) := by
      rw [Nat.pow_zero, Nat.mul_one]
      refine Nat.le_trans (Nat.le_of_lt h2) ?_
      refine Nat.le_trans ?_ (Nat.mul_le_mul h1 (Nat.le_trans (Nat.le_refl (1000000000 ^ (lb + 1 - la))) ?_))
      · rw [← Nat.pow_add, show la - 1 + (lb + 1 - la) = lb from by omega]; exact Nat.le_refl _
      · rw [Nat.pow_mul]; exact Nat.pow_le_pow_left (by decide) _
    have := power_unique h3 k2
    omega
theorem round_more {a b i j : Nat} (ha : a ≠ 0) (hb : b ≠ 0) (h : b * 2 ^ j * 9007199254740992 ≤ a * 2 ^ i) : (j : Int) - i + 53 ≤ plog a b := by
  obtain ⟨i0, j0, e, k1, k2⟩ := plog_key ha hb
  have h3 : b * 2 ^ (j + 53) ≤ a * 2 ^ i := by
    rw [Nat.pow_add, ← Nat.mul_assoc]; exact h
  have := power_unique h3 k2
  omega
theorem round_stop {a b i j : Nat} (ha : a ≠ 0) (hb : b ≠ 0) (h : a * 2 ^ i < b * 2 ^ j * 9007199254740992) : plog a b ≤ (j : Int) - i + 52 := by
  obtain ⟨i0, j0, e, k1, k2⟩ := plog_key ha hb
  have h3 : a * 2 ^ i < 2 * (b * 2 ^ (j + 52)) := by
    rw [Nat.pow_add, ← Nat.mul_assoc b]; omega
  have := power_unique k1 h3
  omega
theorem round_low {a b i j : Nat} (ha : a ≠ 0) (hb : b ≠ 0) (h : (j : Int) - i + 52 ≤ plog a b) : b * 2 ^ j * 4503599627370496 ≤ a * 2 ^ i := by
  obtain ⟨i0, j0, e, k1, k2⟩ := plog_key ha hb
  by_cases hh : b * 2 ^ j * 4503599627370496 ≤ a * 2 ^ i
  · exact hh
  · exfalso
    have h3 : a * 2 ^ i < 2 * (b * 2 ^ (j + 51)) := by
      rw [Nat.pow_add, ← Nat.mul_assoc b]; omega
    have := power_unique k1 h3
    omega
theorem rhe_bounds {n d q r : Nat} (h : n = d * q + r) (hr : r < d) (h1 : n < d * 9007199254740992) : q < 9007199254740992 ∧ rhe n d ≤ 9007199254740992 ∧ q ≤ rhe n d := by
  have h2 : n / d = q := by rw [h, Nat.mul_comm, Nat.add_comm, Nat.add_mul_div_right _ _ (by omega), Nat.div_eq_of_lt hr]; omega
  have h3 : n / d < 9007199254740992 := Nat.div_lt_of_lt_mul h1
  refine ⟨by omega, ?_, ?_⟩ <;> (unfold rhe; split <;> omega)
def finR (m : Nat) (e : Int) : Nat :=
  if m = 9007199254740992 then (if 2047 ≤ e + 1 + 1075 then 9218868437227405312 else (e + 1 + 1075).toNat * 4503599627370496)
  else if m < 4503599627370496 then m
  else if 2047 ≤ e + 1075 then 9218868437227405312 else (e + 1075).toNat * 4503599627370496 + (m - 4503599627370496)
theorem finR_eq {a b i j : Nat} (ha : a ≠ 0) (hb : b ≠ 0) (he1 : -1074 ≤ (j : Int) - i) (hstop : plog a b ≤ (j : Int) - i + 52) (hlow : (j : Int) - i = -1074 ∨ (j : Int) - i + 52 ≤ plog a b) :
    finR (rhe (a * 2 ^ i) (b * 2 ^ j)) ((j : Int) - i) = rnd a b := by
  have hrat := rat_of2 (a := a) (b := b) (i := i) (j := j)
  have hm : rhe (a * 2 ^ i) (b * 2 ^ j) ≤ 9007199254740992 := by
    refine rhe_le ?_
    by_cases hh : a * 2 ^ i < b * 2 ^ j * 9007199254740992
    · exact hh
    · have := round_more ha hb (by omega : b * 2 ^ j * 9007199254740992 ≤ a * 2 ^ i); omega
  have hE : eOf (plog a b) = (j : Int) - i := by unfold eOf; split <;> omega
  have hml : (j : Int) - i ≠ -1074 → 4503599627370496 ≤ rhe (a * 2 ^ i) (b * 2 ^ j) := by
    intro hne
    have h1 := round_low ha hb (by omega : (j : Int) - i + 52 ≤ plog a b)
    have hpos : 0 < b * 2 ^ j := Nat.mul_pos (by omega) (Nat.pow_pos (by omega))
    have h2 : 4503599627370496 ≤ a * 2 ^ i / (b * 2 ^ j) := (Nat.le_div_iff_mul_le hpos).2 (by rw [Nat.mul_comm]; exact h1)
    unfold rhe; split <;> omega
  unfold rnd
  rw [hE, ← hrat]
  generalize rhe (a * 2 ^ i) (b * 2 ^ j) = m at *
  unfold finR
  by_cases c1 : 1023 < plog a b
  · rw [if_pos c1]
    split
    · rw [if_pos (by omega)]
    · split
      · omega
      · rw [if_pos (by omega)]
  · rw [if_neg c1]
    split
    · rename_i h1
      subst h1
      split
      · omega
      · omega
    · split
      · have : (j : Int) - i = -1074 := by
          by_cases hx : (j : Int) - i = -1074
          · exact hx
          · have := hml hx; omega
        rw [this]; simp
      · rw [if_neg (by omega)]; omega
end Go.Proofs.YthdcceackfdbbaaGreatDoor
namespace Go.Proofs.YthdcceackfdbbaaGreatDoor
open Go.RowKit
end Go.Proofs.YthdcceackfdbbaaGreatDoor
namespace Go.Proofs.YthdcceackfdbbaaGreatDoor
open Go.RowKit
end Go.Proofs.YthdcceackfdbbaaGreatDoor
namespace Go.Proofs.YthdcceackfdbbaaGreatDoor
open Go.RowKit
end Go.Proofs.YthdcceackfdbbaaGreatDoor
namespace Go.Proofs.YthdcceackfdbbaaGreatDoor
open Go.RowKit
attribute [local go_sem ↓] Go.wp_at_zero Go.wp_at_succ
end Go.Proofs.YthdcceackfdbbaaGreatDoor
namespace Go.Proofs.YthdcceackfdbbaaGreatDoor
open Go.RowKit
end Go.Proofs.YthdcceackfdbbaaGreatDoor
namespace Go.Proofs.YthdcceackfdbbaaGreatDoor
open Go Go.RowKit
end Go.Proofs.YthdcceackfdbbaaGreatDoor
namespace Go.Proofs.YthdcceackfdbbaaGreatDoor
open Go Go.RowKit
def firstW : Nat → List ByteArray
  | 0 => [⟨#[37, 37, 77, 97, 116, 114, 105, 120, 77, 97, 114, 107, 101, 116]⟩, ⟨#[109, 97, 116, 114, 105, 120]⟩, ⟨#[97, 114, 114, 97, 121]⟩, ⟨#[114, 101, 97, 108]⟩, ⟨#[103, 101, 110, 101, 114, 97, 108]⟩]
  | 1 => [⟨#[37, 37, 77, 97, 116, 114, 105, 120, 77, 97, 114, 107, 101, 116]⟩, ⟨#[109, 97, 116, 114, 105, 120]⟩, ⟨#[97, 114, 114, 97, 121]⟩, ⟨#[114, 101, 97, 108]⟩, ⟨#[115, 121, 109, 109, 101, 116, 114, 105, 99]⟩]
  | 2 => [⟨#[37, 37, 77, 97, 116, 114, 105, 120, 77, 97, 114, 107, 101, 116]⟩, ⟨#[109, 97, 116, 114, 105, 120]⟩, ⟨#[99, 111, 111, 114, 100, 105, 110, 97, 116, 101]⟩, ⟨#[114, 101, 97, 108]⟩, ⟨#[103, 101, 110, 101, 114, 97, 108]⟩]
  | _ => [⟨#[37, 37, 77, 97, 116, 114, 105, 120, 77, 97, 114, 107, 101, 116]⟩, ⟨#[109, 97, 116, 114, 105, 120]⟩, ⟨#[99, 111, 111, 114, 100, 105, 110, 97, 116, 101]⟩, ⟨#[114, 101, 97, 108]⟩, ⟨#[115, 121, 109, 109, 101, 116, 114, 105, 99]⟩]
theorem first_any (w : World) (kind : Nat) (hk : kind ≤ 3) :
    Calls Tryz.prog 108 #[.int .i64 (kind : Int)] w fun e w' => e = .returned (.slice (some ⟨w.heap.size, 0, none⟩) 5 5) ∧ w' = w.alloc (.cells ((firstW kind).map Value.string).toArray 9) := by
  rcases (by omega : kind = 0 ∨ kind = 1 ∨ kind = 2 ∨ kind = 3) with rfl | rfl | rfl | rfl
  · go_enter Tryz.func108, Tryz.ntmps108
    go_wp2_with fail
    refine (kcoord_b _ _ false (by decide)).mono ?_
    rintro e w1 ⟨rfl, rfl⟩
    go_wp2_with fail
    refine (ksym_b _ _ false (by decide)).mono ?_
    rintro e w1 ⟨rfl, rfl⟩
    go_wp2
    go_ret
    exact ⟨rfl, rfl⟩
  · go_enter Tryz.func108, Tryz.ntmps108
    go_wp2_with fail
    refine (kcoord_b _ _ false (by decide)).mono ?_
    rintro e w1 ⟨rfl, rfl⟩
    go_wp2_with fail
    refine (ksym_b _ _ true (by decide)).mono ?_
    rintro e w1 ⟨rfl, rfl⟩
    go_wp2
    go_ret
    exact ⟨rfl, rfl⟩
  · go_enter Tryz.func108, Tryz.ntmps108
    go_wp2_with fail
    refine (kcoord_b _ _ true (by decide)).mono ?_
    rintro e w1 ⟨rfl, rfl⟩
    go_wp2_with fail
    refine (ksym_b _ _ false (by decide)).mono ?_
    rintro e w1 ⟨rfl, rfl⟩
    go_wp2
    go_ret
    exact ⟨rfl, rfl⟩
  · go_enter Tryz.func108, Tryz.ntmps108
    go_wp2_with fail
    refine (kcoord_b _ _ true (by decide)).mono ?_
    rintro e w1 ⟨rfl, rfl⟩
    go_wp2_with fail
    refine (ksym_b _ _ true (by decide)).mono ?_
    rintro e w1 ⟨rfl, rfl⟩
    go_wp2
    go_ret
    exact ⟨rfl, rfl⟩
end Go.Proofs.YthdcceackfdbbaaGreatDoor
namespace Go.Proofs.YthdcceackfdbbaaGreatDoor
open Go Go.RowKit Go.Shelf
attribute [local go_sem] Oper.semAt_some
def plcC (ps : List (Nat × Nat)) : List Value := ps.flatMap fun q => [.int .i64 (q.1 : Int), .int .i64 (q.2 : Int)]
theorem plcC_len (ps : List (Nat × Nat)) : (plcC ps).length = ps.length * 2 := by
  induction ps with
  | nil => rfl
  | cons x r ih => simp only [plcC, List.flatMap_cons, List.length_append, List.length_cons, List.length_nil] at ih ⊢; omega
theorem plcC_app (ps qs : List (Nat × Nat)) : plcC (ps ++ qs) = plcC ps ++ plcC qs := by simp [plcC]
theorem plcC_get : ∀ (ps : List (Nat × Nat)) (k : Nat) (q : Nat × Nat), ps[k]? = some q → (plcC ps)[k * 2]? = some (.int .i64 (q.1 : Int)) ∧ (plcC ps)[k * 2 + 1]? = some (.int .i64 (q.2 : Int))
  | [], _, _, h => by simp at h
  | x :: r, 0, q, h => by simp at h; subst h; exact ⟨rfl, rfl⟩
  | x :: r, k + 1, q, h => by
    have h2 := plcC_get r k q (by simpa using h)
    have e : plcC (x :: r) = [.int .i64 (x.1 : Int), .int .i64 (x.2 : Int)] ++ plcC r := rfl
    rw [e, List.getElem?_append_right (by simp only [List.length_cons, List.length_nil]; omega), List.getElem?_append_right (by simp only [List.length_cons, List.length_nil]; omega)]
    simp only [List.length_cons, List.length_nil]
    rw [show (k + 1) * 2 - (0 + 1 + 1) = k * 2 by omega, show (k + 1) * 2 + 1 - (0 + 1 + 1) = k * 2 + 1 by omega]
    exact h2
theorem plcC_one : ∀ (ps : List (Nat × Nat)) (u : Value), u ∈ plcC ps → ∃ x : Int, u = .int .i64 x := by
  intro ps u hu
  obtain ⟨q, _, hq⟩ := List.mem_flatMap.1 hu
  simp at hq
  rcases hq with rfl | rfl
  · exact ⟨_, rfl⟩
  · exact ⟨_, rfl⟩
def FreeAt (w : World) (B : Nat) (v : Value) (ps : List (Nat × Nat)) : Prop := w.ownsRow B 117 2 v ps.length (plcC ps)
theorem FreeAt.shape {w : World} {B : Nat} {v : Value} {ps : List (Nat × Nat)} (h : FreeAt w B v ps) : ∃ ao cap, v = .slice ao ps.length cap ∧ PlcsAt w ao ps ∧ ps.length ≤ cap ∧ (ao = none → ps = []) := by
  obtain ⟨hl, ⟨rfl, h0⟩ | ⟨g, cap, cur, rfl, hB, hg, hc1, hc2, hc3, htk⟩⟩ := h
  · have : ps = [] := List.length_eq_zero_iff.1 h0
    subst this
    exact ⟨none, 0, rfl, fun k q hq => by simp at hq, Nat.le_refl _, fun _ => rfl⟩
  · refine ⟨_, cap, rfl, fun k q hq => ⟨g, rfl, (Array.getElem?_eq_some_iff.1 hg).1, ?_, ?_⟩, hc1, fun e => by cases e⟩
    · have hk : k < ps.length := (List.getElem?_eq_some_iff.1 hq).1
      have h1 := (plcC_get ps k q hq).1
      rw [← htk, List.getElem?_take, if_pos (by omega)] at h1
      simp only [World.cell?, hg]
      simpa using h1
    · have hk : k < ps.length := (List.getElem?_eq_some_iff.1 hq).1
      have h1 := (plcC_get ps k q hq).2
      rw [← htk, List.getElem?_take, if_pos (by omega)] at h1
      simp only [World.cell?, hg]
      simpa using h1
theorem Tryz.infoPlc : (Tryz.prog.info? 117).map (fun i => (i.zero, i.size, i.bytes)) = some (some (.agg #[.int .i64 0, .int .i64 0]), 2, 16) := by kernel_rfl
def plsL (kind R C : Nat) : List (Nat × Nat) := (plcL kind R C (fun _ _ => 0)).map fun x => (x.1, x.2.1)
theorem KeptFrom.grown {B : Nat} {X Y : World} {row : Option Nat} (hg : X.grownBy Y row) (h : ∀ j, row = some j → ∃ c, X.heap[j]? = some (.cells c 117 (0, 0))) : KeptFrom B X Y :=
  ⟨hg.size, fun i o _ hi ho => by
    by_cases e : some i = row
    · obtain ⟨c, hc⟩ := h i e.symm
      rw [hc] at hi; cases hi
      exact ((ho _ _ _ rfl).2 rfl).elim
    · exact (hg.block i (Array.getElem?_eq_some_iff.1 hi).1 e).trans hi⟩
set_option maxRecDepth 20000 in
set_option maxHeartbeats 4000000 in
theorem appendSeq_any (w : World) (kind R C g : Nat) (hR : R ≤ 40) (hC : C ≤ 40) (hlen : (plsL kind R C).length ≤ 1600) :
    Calls Tryz.prog 247 #[.slice none 0 0, .func (.func (placeF kind)) #[matV R C g] #[]] w fun e w' => ∃ v, e = .returned v ∧ FreeAt w' w.heap.size v (plsL kind R C) ∧ Below w.heap.size w w' := by
  obtain ⟨b, hb⟩ : ∃ b, w.heap.size = b := ⟨_, rfl⟩
  obtain ⟨i0, hi0, hz0, hz1, hz2⟩ := info_parts Tryz.infoPlc
  have hgv := places_gives kind R C g (fun _ _ => 0) hR hC
  obtain ⟨ps, hps⟩ : ∃ ps, plsL kind R C = ps := ⟨_, rfl⟩
  have HPS : Hid (plsL kind R C = ps) := hps
  rw [hps] at hlen
  rw [hb, hps]
  clear hps
  unfold plsL at HPS
  generalize plcL kind R C (fun _ _ => 0) = xs at *
  have eg := place_enters kind
  generalize placeF kind = pf at *
  generalize matV R C g = mv at *
  refine callsIn_wide (n := 0) |>.1 ?_
  refine callsIn_of_wp_marks Tryz.func247 rfl trivial ?_ rfl
  simp only [Tryz.ntmps247, List.size_toArray, List.length_cons, List.length_nil, Nat.reduceAdd, Nat.reduceSub, Array.replicate_succ, Array.replicate_zero, List.push_toArray, List.append_toArray, List.nil_append, List.cons_append]
  have hdep : Fence.wide.depth = none := rfl
  gi_wp2_with fail
  have aV : Boxed (w.alloc (.cells #[.slice none 0 0] 165)) b 165 (.slice none 0 0) := by rw [← hb]; exact Boxed.new _ _ _
  have bV : Below b w (w.alloc (.cells #[.slice none 0 0] 165)) := by rw [← hb]; exact Below.refl' _ _
  have zV : (w.alloc (.cells #[.slice none 0 0] 165)).heap.size = b + 1 := by simp [hb]
  generalize w.alloc (.cells #[.slice none 0 0] 165) = V at *
  refine range_gives 0 (gf := pf) (fst := #[mv]) (lb := #[]) rfl eg hgv (by intro x hx; obtain ⟨y, _, rfl⟩ := List.mem_map.1 hx; rfl)
    (fun k W => ∃ v, Boxed W b 165 v ∧ FreeAt W b v (ps.take k) ∧ Below b w W ∧ b + 1 ≤ W.heap.size)
    (fun _ _ => False)
    (fun x a' W => ∃ (y : Nat × Nat × Nat) (Bx : Nat), x = plcA y ∧ Arr W Bx 117 [.int .i64 (y.1 : Int), .int .i64 (y.2.1 : Int)] ∧ a' = { tmps := #[.slice none 0 0, .func (.func pf) #[mv] #[], .pointer (some ⟨b, 0, none⟩), undef, .slice none 0 0, .pointer (some ⟨Bx, 0, none⟩), .func (.func pf) #[mv] #[], plcV y.1 y.2.1, undef, undef, undef, undef, undef], defers := [] })
    (fun _ _ _ => trivial) ?hI ?hIx ?hAx ?h0 ?assign ?body ?done ?stop
  case hI =>
    rintro k A B ⟨v, h1, h2, h3, h4⟩ s
    refine ⟨v, Arr.sim (l := [v]) h1 s, ?_, h3.trans (Below.ofSim s (by omega) (by omega)), Nat.le_trans h4 s.size⟩
    obtain ⟨hl, hn | ⟨g, cap, cur, hv, hB, hg, r⟩⟩ := h2
    · exact ⟨hl, .inl hn⟩
    · exact ⟨hl, .inr ⟨g, cap, cur, hv, hB, s.block g _ hg (.inr rfl), r⟩⟩
  case hIx => exact fun c A B h s => h
  case hAx => rintro x a' A B ⟨y, Bx, h1, h2, h3⟩ s; exact ⟨y, Bx, h1, h2.sim s, h3⟩
  case h0 => exact ⟨_, aV, World.ownsRow_nil _ _ _ _, bV, by omega⟩
  case assign =>
    intro l1 k x W1 K hx hi hK
    obtain ⟨y, hy, rfl⟩ := map_get hx
    obtain ⟨v, h1, h2, h3, h4⟩ := hi
    have HK : Hid _ := hid (hK { tmps := #[.slice none 0 0, .func (.func pf) #[mv] #[], .pointer (some ⟨b, 0, none⟩), undef, .slice none 0 0, .pointer (some ⟨W1.heap.size, 0, none⟩), .func (.func pf) #[mv] #[], plcV y.1 y.2.1, undef, undef, undef, undef, undef], defers := [] } (W1.alloc (plcO y.1 y.2.1))
      (KeptFrom.below (Below.refl' _ _)) ⟨v, h1.alloc _, h2.alloc _, h3.alloc (by omega) _, by simp; omega⟩ ⟨y, W1.heap.size, rfl, Arr.newL _ _ _, rfl⟩)
    clear hK h1 h2 h3 h4 hx
    unfold plcA plcV
    unfold plcV plcO at HK
    gi_wp2
    exact HK.out
  case body =>
    rintro l1 k x a' W1 hx ⟨v, h1, h2, h3, h4⟩ ⟨y, Bx, rfl, hb3, rfl⟩
    obtain ⟨y', hy, hye⟩ := map_get hx
    have hpe := plcA_inj hye
    have hkl : k < ps.length := by have := (List.getElem?_eq_some_iff.1 hy).1; rw [← HPS.out, List.length_map]; exact this
    have hpk : ps.take (k + 1) = ps.take k ++ [(y.1, y.2.1)] := by
      rw [List.take_add_one]
      have : ps[k]? = some (y.1, y.2.1) := by rw [← HPS.out, List.getElem?_map, hy]; simp [hpe.1, hpe.2]
      rw [this]; rfl
    have HPK := hid hpk
    obtain ⟨i, j, z⟩ := y
    simp only at hb3 HPK ⊢
    have htk : (ps.take k).length = k := by rw [List.length_take]; omega
    have c3 := h1.cell
    have c4 := hb3.cell (i := 0) rfl
    have c5 := hb3.cell (i := 1) rfl
    have row6 : (W1.alloc (.cells #[.int .i64 (i : Int), .int .i64 (j : Int)] 117)).ownsRow b 117 2 v k (plcC (ps.take k)) := by
      have := h2.alloc (.cells #[.int .i64 (i : Int), .int .i64 (j : Int)] 117)
      rw [htk] at this; exact this
    have H2 := hid h2
    have H1 := hid h1
    have H3 := hid h3
    have H4 := hid h4
    have HN := hid (Arr.newL W1 117 [.int .i64 (i : Int), .int .i64 (j : Int)])
    unfold plcV
    clear hx hye hy hpk h1 h2 h3 h4 hb3
    gi_wp2_with (gi_at_builtin; refine wpListIn_append_own _ rfl _ _ 165 rfl b 117 i0 _ 2 16 Tryz.underlying165 hi0 hz0 hz1 hz2 rfl (by decide) _ _ _ rfl row6 ⟨W1.heap.size, 0, none⟩ 1 1 [.int .i64 (i : Int), .int .i64 (j : Int)] rfl rfl ?c1 ?c2 ?c3 ?c4 ?c5 ?_)
    case c2 => exact ⟨rfl, rfl⟩
    case c3 => unfold maxLen; omega
    case c4 => omega
    case c5 => have := H4.out; omega
    · intro v7 W7 r7 g7 _
      obtain ⟨g', cap', rfl⟩ := ownsRow_succ r7
      obtain ⟨f1, f2, f3, _, f5⟩ := Boxed.appended (n₀ := b) H1.out (by decide) H2.out (by have := H4.out; omega) (Nat.le_refl _) r7 g7
      have c6 := f1.cell
      have c7 := f1.frozen
      have hkf : KeptFrom (b + 1) W1 (W7.setCell ⟨b, 0, none⟩ (.slice (some ⟨g', 0, none⟩) (k + 1) cap')) :=
        ((KeptFrom.below (Below.refl' _ _)).trans (KeptFrom.grown g7 (fun j' hj' => by
          obtain ⟨_, ⟨hv, _⟩ | ⟨g8, cap8, cur8, hv, _, hg8, _⟩⟩ := row6
          · rw [hv] at hj'; cases hj'
          · rw [hv] at hj'; cases hj'; exact ⟨_, hg8⟩))).trans (KeptFrom.set (by omega) _)
      have HF := hid f2
      have HF3 := hid f3
      have HF5 := hid f5
      have HKF := hid hkf
      have HZ7 : Hid (b + 1 ≤ (W7.setCell ⟨b, 0, none⟩ (.slice (some ⟨g', 0, none⟩) (k + 1) cap')).heap.size) := by
        have h1 := g7.size; have h2 := H4.out
        simp only [World.size_alloc] at h1
        show _ ≤ _
        simp [World.setCell]; omega
      clear f1 f2 f3 f5 hkf r7 g7 row6
      gi_wp2
      rw [zV]
      refine ⟨HKF.out, _, HF.out, ?_, H3.out.trans HF5.out, HZ7.out⟩
      unfold FreeAt
      rw [HPK.out, plcC_app, List.length_append, htk]
      exact HF3.out
  case done =>
    rintro D W1 hD ⟨v, h1, h2, h3, h4⟩ hK
    rw [List.length_map] at h2
    have e : ps.take xs.length = ps := List.take_of_length_le (by rw [← HPS.out, List.length_map]; exact Nat.le_refl _)
    rw [e] at h2
    obtain ⟨ao, cap, rfl, _⟩ := h2.shape
    have c3 := h1.cell
    have H2 := hid h2
    clear h2 h1
    gi_wp2
    refine ⟨by simp, .inl ⟨_, _, rfl, run_takeDeferred hK, ?_⟩⟩
    refine ⟨_, results_tmp rfl _ _ _, .slice ao ps.length cap, rfl, ownsRow_putObj H2.out _ hK rfl, h3.trans ⟨rfl, rfl, rfl, by simp [World.putObj], fun q hq => World.putObj_heap_other (by omega)⟩⟩
  case stop => exact fun _ _ _ _ h => h.elim
end Go.Proofs.YthdcceackfdbbaaGreatDoor
