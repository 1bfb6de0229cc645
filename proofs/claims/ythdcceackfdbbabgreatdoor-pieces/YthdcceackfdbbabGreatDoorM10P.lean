import Derived.Test.YthdcceackfdbbabGreatDoorM06P
import Derived.Test.YthdcceackfdbbabGreatDoorM09P
import Derived.Test.YthdcceackfdbbabGreatDoorM01P
import Derived.Lib.ItoaNum
import Derived.KernelRfl
import Derived.Lib.LaidTab
import Derived.Sort.Grow
import Derived.Lib.ItoaMem
import Derived.Lib.Walk
import Derived.BigCall
/- Walks: Scan. Own text. -/
namespace Go.Proofs.YthdcceackfdbbabGreatDoor
open Go.RowKit

theorem fracL_digs (l : List UInt8) : Digs (fracL l).1 := by
  cases l with
  | nil => intro x hx; simp [fracL] at hx
  | cons c r =>
    simp only [fracL]
    split
    · exact digs_takeWhile r
    · intro x hx; simp at hx

theorem fracL_len (l : List UInt8) : (fracL l).1.length ≤ l.length := by
  cases l with
  | nil => simp [fracL]
  | cons c r =>
    simp only [fracL]
    split
    · have := takeWhile_len r; simp; omega
    · simp

theorem span_len (l : List UInt8) : (l.takeWhile isDig).length + (l.dropWhile isDig).length = l.length := by
  rw [← List.length_append, List.takeWhile_append_dropWhile]

theorem decL_facts {l ds : List UInt8} {q : Int} (h : decL l = some (ds, q)) : Digs ds ∧ ds.length ≤ l.length ∧ (∀ c r, ds = c :: r → c.toNat ≠ 48) ∧ -10000 - (l.length : Int) ≤ q ∧ q ≤ 10000 := by
  unfold decL at h
  split at h
  · cases h
  · cases hp : powL (fracL (l.dropWhile isDig)).2 with
    | none => rw [hp] at h; cases h
    | some p =>
      rw [hp] at h
      simp only [Option.map_some, Option.some.injEq, Prod.mk.injEq] at h
      obtain ⟨h1, h2⟩ := h
      have b := powL_bd hp
      have l1 := fracL_len (l.dropWhile isDig)
      have l2 := span_len l
      refine ⟨?_, ?_, ?_, by omega, by omega⟩
      · rw [← h1]; exact digs_drop (digs_append (digs_takeWhile l) (fracL_digs _)) _
      · rw [← h1]
        have := (List.dropWhile_sublist (· == (48 : UInt8)) (l := l.takeWhile isDig ++ (fracL (l.dropWhile isDig)).1)).length_le
        rw [List.length_append] at this
        omega
      · rw [← h1]; exact drop_zero _

theorem list_eq_beq {s : ByteArray} {l : List UInt8} (h : s.data.toList = l) : (s.toList == l) = true := by rw [bytes_toList, h]; simp
theorem list_ne_beq {s : ByteArray} {l : List UInt8} (h : s.data.toList ≠ l) : (s.toList == l) = false := by rw [bytes_toList]; simpa using h

theorem or_sign {n : Nat} (h : n ≤ 9218868437227405312) : bits BinOp.or IntKind.u64 (n : Int) 9223372036854775808 = ((n + 9223372036854775808 : Nat) : Int) := by
  rw [show (9223372036854775808 : Int) = ((9223372036854775808 : Nat) : Int) from rfl, u64_or_nat _ _ (by omega) (by omega), Nat.or_comm, nat_join 63 _ _ (by decide) (by omega), Nat.add_comm]

theorem ret2 {a a' b b' : Int} (h1 : a = a') (h2 : b = b') : Ending.returned (.tuple #[.int .u64 a, .int .i64 b]) = .returned (.tuple #[.int .u64 a', .int .i64 b']) := by rw [h1, h2]

set_option maxRecDepth 5000 in
set_option maxHeartbeats 1600000 in
theorem nscan_any (w : World) (s : ByteArray) (hs : s.size ≤ maxLen) :
    Calls Tryz.prog 69 #[.string s] w fun e w' => e = .returned (.tuple #[.int .u64 ((scanL s.data.toList).1 : Int), .int .i64 ((scanL s.data.toList).2 : Int)]) ∧ Below w.heap.size w w' := by
  unfold maxLen at hs
  have hsz : s.data.toList.length = s.size := by simp
  have HSZ : Hid (s.data.toList.length = s.size) := hsz
  clear hsz
  by_cases c0 : 60 < s.size
  · have HF : Hid (scanL s.data.toList = (0, 1)) := by unfold Hid scanL; rw [if_pos (by rw [HSZ.out]; exact c0)]
    go_enter Tryz.func69, Tryz.ntmps69
    go_wp2
    go_ret2
    exact ⟨by rw [HF.out]; rfl, Below.refl _ _⟩
  · by_cases c1 : s.data.toList = [105, 110, 102]
    · have HF : Hid (scanL s.data.toList = (9218868437227405312, 0)) := by unfold Hid scanL; rw [if_neg (by rw [HSZ.out]; exact c0), if_pos (.inl c1)]
      have b1 := list_eq_beq c1
      clear c1
      go_enter Tryz.func69, Tryz.ntmps69
      go_wp2
      go_ret2
      exact ⟨by rw [HF.out]; rfl, Below.refl _ _⟩
    · have b1 := list_ne_beq c1
      by_cases c2 : s.data.toList = [43, 105, 110, 102]
      · have HF : Hid (scanL s.data.toList = (9218868437227405312, 0)) := by unfold Hid scanL; rw [if_neg (by rw [HSZ.out]; exact c0), if_pos (.inr c2)]
        have b2 := list_eq_beq c2
        clear c1 c2
        go_enter Tryz.func69, Tryz.ntmps69
        go_wp2
        go_ret2
        exact ⟨by rw [HF.out]; rfl, Below.refl _ _⟩
      · have b2 := list_ne_beq c2
        by_cases c3 : s.data.toList = [45, 105, 110, 102]
        · have HF : Hid (scanL s.data.toList = (18442240474082181120, 0)) := by unfold Hid scanL; rw [if_neg (by rw [HSZ.out]; exact c0), if_neg (by rintro (h | h); exact c1 h; exact c2 h), if_pos c3]
          have b3 := list_eq_beq c3
          clear c1 c2 c3
          go_enter Tryz.func69, Tryz.ntmps69
          go_wp2
          go_ret2
          exact ⟨by rw [HF.out]; rfl, Below.refl _ _⟩
        · have b3 := list_ne_beq c3
          by_cases c4 : s.data.toList = [110, 97, 110]
          · have HF : Hid (scanL s.data.toList = (9221120237041090560, 0)) := by unfold Hid scanL; rw [if_neg (by rw [HSZ.out]; exact c0), if_neg (by rintro (h | h); exact c1 h; exact c2 h), if_neg c3, if_pos c4]
            have b4 := list_eq_beq c4
            clear c1 c2 c3 c4
            go_enter Tryz.func69, Tryz.ntmps69
            go_wp2
            go_ret2
            exact ⟨by rw [HF.out]; rfl, Below.refl _ _⟩
          · have b4 := list_ne_beq c4
            obtain ⟨m, sr, hsg⟩ : ∃ m sr, signL s.data.toList = (m, sr) := ⟨_, _, rfl⟩
            have HF : Hid (scanL s.data.toList = finL (decL sr) m) := by
              unfold Hid scanL
              rw [if_neg (by rw [HSZ.out]; exact c0), if_neg (by rintro (h | h); exact c1 h; exact c2 h), if_neg c3, if_neg c4, hsg]
            have hsl := signL_len s.data.toList
            rw [HSZ.out, hsg] at hsl
            have HSG : Hid (signL s.data.toList = (m, sr)) := hsg
            simp only at hsl
            clear c1 c2 c3 c4 hsg
            go_enter Tryz.func69, Tryz.ntmps69
            go_wp2_with fail
            refine (cutSign_any _ s (by omega)).mono ?_
            rintro e w1 ⟨r, rfl, hr, n1, rfl⟩
            rw [HSG.out] at hr ⊢
            have HR : Hid (r.data.toList = sr) := hr
            clear hr
            have hrs : r.size ≤ 60 := by rw [bytes_size HR.out]; omega
            go_wp2_with fail
            refine (scanDecimal_any _ r (by omega)).mono ?_
            rintro e w2 ⟨d, p, ok, rfl, hdk, b2'⟩
            rw [HR.out] at hdk
            simp only [World.heap_drewN] at b2'
            have bb2 : Below w.heap.size w w2 := (below_drewN (Below.refl _ _) n1).trans b2'
            have hsz2 := bb2.size
            cases hdl : decL sr with
            | none =>
              rw [hdl] at hdk
              have hok : ok = false := hdk
              subst hok
              have HF2 : Hid (scanL s.data.toList = (0, 1)) := by unfold Hid; rw [HF.out, hdl]; rfl
              clear HF hdl hdk
              go_wp2
              go_ret2
              exact ⟨by rw [HF2.out]; rfl, bb2.alloc hsz2 _⟩
            | some dq =>
              obtain ⟨ds, q⟩ := dq
              rw [hdl] at hdk
              obtain ⟨hok, hds, hpq⟩ : ok = true ∧ d.data.toList = ds ∧ p = q := hdk
              subst hok
              subst hpq
              obtain ⟨f1, f2, f3, f4, f5⟩ := decL_facts hdl
              have hdg : Digs d.data.toList := by rw [hds]; exact f1
              have hz : ∀ c r, d.data.toList = c :: r → c.toNat ≠ 48 := by rw [hds]; exact f3
              have hdsz : d.size ≤ 60 := by rw [bytes_size hds]; omega
              have HF2 : Hid (scanL s.data.toList = (decRnd (dval d.data.toList) p + (if m then 9223372036854775808 else 0), 0)) := by unfold Hid; rw [HF.out, hdl, hds]; rfl
              have HZ : Hid (∀ c r, d.data.toList = c :: r → c.toNat ≠ 48) := hz
              have hle := decRnd_le (dval d.data.toList) p
              clear HF hdl f1 f2 f3 hds hz
              go_wp2_with fail
              refine (round_any _ d p hdg hdsz HZ.out (by omega) (by omega)).mono ?_
              rintro e w3 ⟨rfl, b3⟩
              have bb3 : Below w.heap.size w w3 := (bb2.alloc hsz2 _).trans (b3.mono (by simp; omega))
              generalize decRnd (dval d.data.toList) p = N at *
              cases m with
              | true =>
                go_wp2
                go_ret2
                refine ⟨?_, bb3⟩
                rw [HF2.out]
                exact ret2 (or_sign hle) rfl
              | false =>
                go_wp2
                go_ret2
                refine ⟨?_, bb3⟩
                rw [HF2.out]
                exact ret2 (by simp) rfl

end Go.Proofs.YthdcceackfdbbabGreatDoor
/- Plain mathematics: digits of whole numbers, and how their texts are read. Own text. -/
namespace Go.Proofs.YthdcceackfdbbabGreatDoor

theorem u8_dig {d : Nat} (h : d < 10) : (UInt8.ofNat (48 + d)).toNat = 48 + d := by
  rw [UInt8.toNat_ofNat_of_lt' (by show 48 + d < 256; omega)]

theorem isDig_of {d : Nat} (h : d < 10) : isDig (UInt8.ofNat (48 + d)) = true := by
  unfold isDig; rw [u8_dig h]; simp; omega

theorem dd_all (u : Nat) : Digs (Lib.decDigits u) ∧ dval (Lib.decDigits u) = u ∧ (u ≠ 0 → ∀ c r, Lib.decDigits u = c :: r → c.toNat ≠ 48) ∧ Lib.decDigits u ≠ [] := by
  induction u using Nat.strongRecOn with
  | ind u ih =>
    by_cases h : u < 10
    · rw [Lib.decDigits, dif_pos h]
      refine ⟨?_, ?_, ?_, by simp⟩
      · intro x hx; rw [List.mem_singleton] at hx; rw [hx]; exact isDig_of h
      · simp only [dval, List.foldl_cons, List.foldl_nil]; rw [u8_dig h]; omega
      · intro h0 c r e
        simp only [List.cons.injEq] at e
        rw [← e.1, u8_dig h]; omega
    · obtain ⟨i1, i2, i3, i4⟩ := ih (u / 10) (by omega)
      have e : Lib.decDigits u = Lib.decDigits (u / 10) ++ [UInt8.ofNat (48 + u % 10)] := by rw [Lib.decDigits, dif_neg h]
      rw [e]
      refine ⟨?_, ?_, ?_, by simp⟩
      · refine digs_append i1 ?_
        intro x hx; rw [List.mem_singleton] at hx; rw [hx]; exact isDig_of (by omega)
      · rw [dval_snoc, i2, u8_dig (by omega)]; omega
      · intro _ c r e2
        cases hd : Lib.decDigits (u / 10) with
        | nil => exact absurd hd i4
        | cons c' r' =>
          rw [hd] at e2
          simp only [List.cons_append, List.cons.injEq] at e2
          rw [← e2.1]
          exact i3 (by omega) c' r' hd

theorem dd_len {u k : Nat} (h : u < 10 ^ k) (hk : 1 ≤ k) : (Lib.decDigits u).length ≤ k := by
  induction k generalizing u with
  | zero => omega
  | succ k ih =>
    by_cases h10 : u < 10
    · rw [Lib.decDigits, dif_pos h10]; simp
    · rw [Lib.decDigits, dif_neg h10, List.length_append, List.length_singleton]
      by_cases hk0 : k = 0
      · subst hk0; simp at h; omega
      · have := ih (u := u / 10) (by rw [Nat.pow_succ] at h; omega) (by omega)
        omega

theorem dval_cons_zero (l : List UInt8) : dval (48 :: l) = dval l := by simp [dval]

theorem dval_drop (l : List UInt8) : dval (l.dropWhile (· == 48)) = dval l := by
  induction l with
  | nil => rfl
  | cons c r ih =>
    by_cases h : c = 48
    · subst h; simp only [List.dropWhile_cons, beq_self_eq_true, if_true]; rw [ih, dval_cons_zero]
    · have : (c == 48) = false := by simpa using h
      simp [this]

theorem takeWhile_all {l : List UInt8} (h : Digs l) (r : List UInt8) (hr : ∀ c t, r = c :: t → isDig c = false) : (l ++ r).takeWhile isDig = l ∧ (l ++ r).dropWhile isDig = r := by
  have := takeWhile_at (p := isDig) (l := l ++ r) (k := l.length) (fun x hx => by rw [List.take_left'] at hx; exact h x hx; rfl) (fun x hx => by
    rw [List.getElem?_append_right (Nat.le_refl _), Nat.sub_self] at hx
    cases r with
    | nil => simp at hx
    | cons c t => simp at hx; subst hx; exact hr c t rfl)
  rw [List.take_left' rfl, List.drop_left' rfl] at this
  exact this

theorem decL_whole {l : List UInt8} (h : Digs l) (hne : l ≠ []) : decL l = some (l.dropWhile (· == 48), 0) := by
  obtain ⟨e1, e2⟩ := takeWhile_all h [] (by simp)
  rw [List.append_nil] at e1 e2
  unfold decL
  rw [e1, e2]
  simp [fracL, powL, hne]

theorem decL_point {l f : List UInt8} (h : Digs l) (hf : Digs f) (hne : l ≠ []) : decL (l ++ 46 :: f) = some ((l ++ f).dropWhile (· == 48), -(f.length : Int)) := by
  obtain ⟨e1, e2⟩ := takeWhile_all h (46 :: f) (by intro c t e; cases e; rfl)
  obtain ⟨e3, e4⟩ := takeWhile_all hf [] (by simp)
  rw [List.append_nil] at e3 e4
  unfold decL
  rw [e1, e2]
  have ef : fracL (46 :: f) = (f, []) := by simp [fracL, e3, e4]
  rw [ef]
  simp [powL, hne]

theorem signL_dig {c : UInt8} {r : List UInt8} (h : isDig c = true) : signL (c :: r) = (false, c :: r) := by
  have b := isDig_bd h
  have h1 : c ≠ 43 := by intro e; subst e; simp at b
  have h2 : c ≠ 45 := by intro e; subst e; simp at b
  simp [signL, h1, h2]

theorem scanL_dig {c : UInt8} {r : List UInt8} (h : isDig c = true) (hl : (c :: r).length ≤ 60) : scanL (c :: r) = finL (decL (c :: r)) false := by
  have b := isDig_bd h
  unfold scanL
  rw [if_neg (by omega), signL_dig h]
  rw [if_neg (by rintro (e | e) <;> (simp only [List.cons.injEq] at e; rw [e.1] at b; simp at b)), if_neg (by intro e; simp only [List.cons.injEq] at e; rw [e.1] at b; simp at b), if_neg (by intro e; simp only [List.cons.injEq] at e; rw [e.1] at b; simp at b)]

theorem scan_whole {u : Nat} (hl : (Lib.decDigits u).length ≤ 60) : scanL (Lib.decDigits u) = (decRnd u 0, 0) := by
  obtain ⟨h1, h2, _, h4⟩ := dd_all u
  have hd := decL_whole h1 h4
  cases hc : Lib.decDigits u with
  | nil => exact absurd hc h4
  | cons c r =>
    rw [hc] at hl h1 h2 hd
    rw [scanL_dig (h1 c (by simp)) hl, hd]
    simp only [finL]
    rw [dval_drop, h2]
    simp

theorem scan_point {u : Nat} {f : List UInt8} (hf : Digs f) (hl : (Lib.decDigits u ++ 46 :: f).length ≤ 60) : scanL (Lib.decDigits u ++ 46 :: f) = (decRnd (dval (Lib.decDigits u ++ f)) (-(f.length : Int)), 0) := by
  obtain ⟨h1, h2, _, h4⟩ := dd_all u
  have hd := decL_point h1 hf h4
  cases hc : Lib.decDigits u with
  | nil => exact absurd hc h4
  | cons c r =>
    rw [hc] at hl h1 h2 hd
    rw [List.cons_append] at hl hd ⊢
    rw [scanL_dig (h1 c (by simp)) hl, hd]
    simp only [finL]
    rw [dval_drop]
    simp

theorem dval_append (a b : List UInt8) : dval (a ++ b) = dval a * 10 ^ b.length + dval b := by
  induction b using list_snoc_ind with
  | h0 => simp [dval]
  | h1 b c ih =>
    rw [← List.append_assoc, dval_snoc, dval_snoc, ih, List.length_append, List.length_singleton, Nat.pow_succ, Nat.add_mul, Nat.mul_assoc]
    omega

theorem rhe_of' {n d q r : Nat} (h : n = d * q + r) (hr : r < d) : rhe n d = if d < 2 * r ∨ (2 * r = d ∧ q % 2 = 1) then q + 1 else q := by
  have h1 : n / d = q := by rw [h, Nat.mul_comm, Nat.add_comm, Nat.add_mul_div_right _ _ (by omega), Nat.div_eq_of_lt hr]; omega
  have h2 : n % d = r := by rw [h, Nat.mul_add_mod, Nat.mod_eq_of_lt hr]
  unfold rhe
  rw [h1, h2]

/-- Numbers from 2^53 up to below 2^54. -/
theorem rnd_53 {a b : Nat} (hb : b ≠ 0) (h1 : b * 9007199254740992 ≤ a) (h2 : a < b * 18014398509481984) : rnd a b = 2 * 2251799813685248 * 1075 + rhe a (b * 2) := by
  have hp := plog_eq (a := a) (b := b) (i := 0) (j := 53) (by have : 0 < b * 9007199254740992 := Nat.mul_pos (by omega) (by omega); omega) hb (by simpa using h1) (by omega)
  have e1 : plog a b = 53 := by rw [hp]; rfl
  unfold rnd
  rw [e1, if_neg (by omega)]
  unfold eOf
  rw [if_neg (by omega)]
  unfold rat
  rw [if_pos (by omega)]
  rfl

theorem tie_mid {k : Nat} (hk : k < 4503599627370496) : decRnd (9007199254740992 + 2 * k + 1) 0 = 4845873199050653696 + (if k % 2 = 1 then k + 1 else k) := by
  unfold decRnd
  rw [if_neg (by omega), if_pos (by omega)]
  rw [show (9007199254740992 + 2 * k + 1) * 10 ^ (0 : Int).toNat = 9007199254740992 + 2 * k + 1 from by simp]
  rw [rnd_53 (by omega) (by omega) (by omega)]
  unfold rhe
  split <;> split <;> omega

theorem tie_above {k B n : Nat} (hk : k < 4503599627370496) (hB : B = 10 ^ n) (hn : 1 ≤ n) : decRnd ((9007199254740992 + 2 * k + 1) * 10 ^ n + 1) (-(n : Int)) = 4845873199050653696 + (k + 1) := by
  have hpos := ten_pow_pos n
  have h10 : 10 ≤ 10 ^ n := by
    have : 10 ^ 1 ≤ 10 ^ n := Nat.pow_le_pow_right (by omega) hn
    omega
  unfold decRnd
  rw [if_neg (by omega), if_neg (by omega), show (-(-(n : Int))).toNat = n from by omega, ← hB] at *
  rw [rnd_53 (by omega) (by
    have : B * 9007199254740992 ≤ (9007199254740992 + 2 * k + 1) * B := by rw [Nat.mul_comm]; exact Nat.mul_le_mul_right _ (by omega)
    omega) (by
    have : (9007199254740992 + 2 * k + 1 + 1) * B ≤ 18014398509481984 * B := Nat.mul_le_mul_right _ (by omega)
    rw [Nat.add_mul _ 1, Nat.mul_comm 18014398509481984] at this
    omega)]
  have e : (9007199254740992 + 2 * k + 1) * B + 1 = B * 2 * (4503599627370496 + k) + (B + 1) := by
    rw [show 9007199254740992 + 2 * k + 1 = 2 * (4503599627370496 + k) + 1 from by omega, Nat.add_mul, Nat.one_mul, Nat.mul_right_comm, Nat.mul_comm B 2]
    omega
  rw [e]
  have hr := rhe_of' (n := B * 2 * (4503599627370496 + k) + (B + 1)) (d := B * 2) (q := 4503599627370496 + k) (r := B + 1) rfl (by omega)
  rw [hr, if_pos (by omega)]
  omega

theorem tie_below {k B n : Nat} (hk : k < 4503599627370496) (hB : B = 10 ^ n) (hn : 1 ≤ n) : decRnd ((9007199254740992 + 2 * k) * 10 ^ n + (10 ^ n - 1)) (-(n : Int)) = 4845873199050653696 + k := by
  have hpos := ten_pow_pos n
  have h10 : 10 ≤ 10 ^ n := by
    have : 10 ^ 1 ≤ 10 ^ n := Nat.pow_le_pow_right (by omega) hn
    omega
  unfold decRnd
  rw [if_neg (by omega), if_neg (by omega), show (-(-(n : Int))).toNat = n from by omega, ← hB] at *
  rw [rnd_53 (by omega) (by
    have : B * 9007199254740992 ≤ (9007199254740992 + 2 * k) * B := by rw [Nat.mul_comm]; exact Nat.mul_le_mul_right _ (by omega)
    omega) (by
    have : (9007199254740992 + 2 * k + 1) * B ≤ 18014398509481984 * B := Nat.mul_le_mul_right _ (by omega)
    rw [Nat.add_mul _ 1, Nat.mul_comm 18014398509481984] at this
    omega)]
  have e : (9007199254740992 + 2 * k) * B + (B - 1) = B * 2 * (4503599627370496 + k) + (B - 1) := by
    rw [show 9007199254740992 + 2 * k = 2 * (4503599627370496 + k) from by omega, Nat.mul_right_comm, Nat.mul_comm B 2]
  rw [e]
  have hr := rhe_of' (n := B * 2 * (4503599627370496 + k) + (B - 1)) (d := B * 2) (q := 4503599627370496 + k) (r := B - 1) rfl (by omega)
  rw [hr, if_neg (by omega)]
  omega

end Go.Proofs.YthdcceackfdbbabGreatDoor
/- What the three texts of Ties are read as. Own text. -/
namespace Go.Proofs.YthdcceackfdbbabGreatDoor

def zerosOne : List UInt8 := [48, 48, 48, 48, 48, 48, 48, 48, 48, 48, 48, 48, 48, 48, 48, 48, 48, 48, 48, 48, 48, 48, 48, 48, 48, 48, 48, 48, 48, 49]
def nines : List UInt8 := [57, 57, 57, 57, 57, 57, 57, 57, 57, 57, 57, 57, 57, 57, 57, 57, 57, 57, 57, 57, 57, 57, 57, 57, 57]
def pointOne : ByteArray := ⟨#[46, 48, 48, 48, 48, 48, 48, 48, 48, 48, 48, 48, 48, 48, 48, 48, 48, 48, 48, 48, 48, 48, 48, 48, 48, 48, 48, 48, 48, 48, 49]⟩
def pointNines : ByteArray := ⟨#[46, 57, 57, 57, 57, 57, 57, 57, 57, 57, 57, 57, 57, 57, 57, 57, 57, 57, 57, 57, 57, 57, 57, 57, 57, 57]⟩
theorem pointOne_list : pointOne.data.toList = 46 :: zerosOne := rfl
theorem pointNines_list : pointNines.data.toList = 46 :: nines := rfl
theorem pointOne_size : pointOne.size = 31 := rfl
theorem pointNines_size : pointNines.size = 26 := rfl
theorem zerosOne_digs : Digs zerosOne := by unfold Digs; decide
theorem nines_digs : Digs nines := by unfold Digs; decide
theorem zerosOne_val : dval zerosOne = 1 := by kernel_rfl
theorem nines_val : dval nines = 10 ^ 25 - 1 := by kernel_rfl

theorem ties_y {k : Nat} (hk : k < 4503599627370496) : scanL (Lib.decDigits (9007199254740992 + 2 * k + 1) ++ 46 :: zerosOne) = (4845873199050653696 + (k + 1), 0) := by
  have hlen1 : (Lib.decDigits (9007199254740992 + 2 * k + 1)).length ≤ 17 := dd_len (by omega) (by omega)
  have e : (46 :: zerosOne).length = 31 := rfl
  have e2 : zerosOne.length = 30 := rfl
  rw [scan_point zerosOne_digs (by rw [List.length_append]; omega), dval_append, (dd_all _).2.1, zerosOne_val, e2, tie_above (n := 30) hk rfl (by omega)]

theorem ties_z {k : Nat} (hk : k < 4503599627370496) : scanL (Lib.decDigits (9007199254740992 + 2 * k) ++ 46 :: nines) = (4845873199050653696 + k, 0) := by
  have hlen1 : (Lib.decDigits (9007199254740992 + 2 * k)).length ≤ 17 := dd_len (by omega) (by omega)
  have e : (46 :: nines).length = 26 := rfl
  have e2 : nines.length = 25 := rfl
  rw [scan_point nines_digs (by rw [List.length_append]; omega), dval_append, (dd_all _).2.1, nines_val, e2, tie_below (n := 25) hk rfl (by omega)]

theorem ties_x {k : Nat} (hk : k < 4503599627370496) : scanL (Lib.decDigits (9007199254740992 + 2 * k + 1)) = (4845873199050653696 + (if k % 2 = 1 then k + 1 else k), 0) := by
  have hlen1 : (Lib.decDigits (9007199254740992 + 2 * k + 1)).length ≤ 17 := dd_len (by omega) (by omega)
  rw [scan_whole (by omega), tie_mid hk]

end Go.Proofs.YthdcceackfdbbabGreatDoor
/- Walk of Ties. Own text. -/
namespace Go.Proofs.YthdcceackfdbbabGreatDoor
open Go.RowKit

theorem below_grow (w : World) (k : Nat) (os : Array Obj) : Below w.heap.size w (Sort.grow (w.drewN k) os) :=
  ⟨rfl, rfl, rfl, by simp [Sort.grow], fun i hi => by simp [Sort.grow, Array.getElem?_append_left hi]⟩

set_option maxHeartbeats 400000 in
theorem pick_any (w : World) (c n : Int) (h1 : -9223372036854775808 ≤ c) (h2 : c ≤ 9223372036854775807) (hn : 0 < n) (hn2 : n ≤ 9223372036854775807) :
    Calls Tryz.prog 6 #[.int .i64 c, .int .i64 n] w fun e w' => (∃ k : Nat, e = .returned (.int .i64 (k : Int)) ∧ (k : Int) < n) ∧ w' = w := by
  by_cases hc : c < 0
  · go_enter Tryz.func6, Tryz.ntmps6
    go_wp2
    go_ret
    have e1 : (c + 1).tmod n = -(-(c + 1) % n) := by
      rw [← Int.tmod_eq_emod_of_nonneg (by omega : 0 ≤ -(c + 1)), Int.neg_tmod, Int.neg_neg]
    have e2 := Int.emod_nonneg (-(c + 1)) (by omega : n ≠ 0)
    have e3 := Int.emod_lt_of_pos (-(c + 1)) hn
    exact ⟨⟨(-(c + 1) % n).toNat, ret_int (by rw [e1]; omega), by omega⟩, rfl⟩
  · go_enter Tryz.func6, Tryz.ntmps6
    go_wp2
    go_ret
    refine ⟨⟨(c % n).toNat, ret_int ?_, ?_⟩, rfl⟩
    · have := Int.emod_nonneg c (by omega : n ≠ 0); omega
    · have := Int.emod_nonneg c (by omega : n ≠ 0); have := Int.emod_lt_of_pos c hn; omega

end Go.Proofs.YthdcceackfdbbabGreatDoor
/- Walk: strconv.FormatUint at base 10. Own text. -/
namespace Go.Proofs.YthdcceackfdbbabGreatDoor
open Go.RowKit Go.Sort

def encU8 : UInt8 → Value := fun (b : UInt8) => Value.int .u8 (b.toNat : Int)

theorem holds_zero0 (w : World) (T : TypeId) (nd : Nat) (hs : nd ≤ 24) : Holds (fun (b : UInt8) => Value.int .u8 (b.toNat : Int)) (w.alloc (.cells Lib.zeros24 T)) w.heap.size 0 (Array.replicate nd (0 : UInt8)) := by
  intro j hj
  have hj' : j < nd := by simpa using hj
  refine ⟨?_, World.frozen?_alloc_new _ _ _ _⟩
  rw [World.cell?_alloc_new, Lib.zeros24_at _ (by omega), getElem!_pos _ j hj]
  simp

theorem below_fin (w : World) (o : Obj) (dk : Array UInt8) (k : Nat) : Below w.heap.size w ((putRow (fun (b : UInt8) => Value.int .u8 (b.toNat : Int)) (w.alloc o) w.heap.size 0 dk).drewN k) := by
  rw [alloc_eq_grow]
  obtain ⟨os', _, e⟩ := putRow_grow_new (fun (b : UInt8) => Value.int .u8 (b.toNat : Int)) w #[o] w.heap.size 0 dk (Nat.le_refl _)
  rw [e]
  refine below_drewN ?_ k
  have := below_grow w 0 os'
  rwa [World.drewN_zero] at this

end Go.Proofs.YthdcceackfdbbabGreatDoor
/- Walks: layOut, Print. Own text. -/
namespace Go.Proofs.YthdcceackfdbbabGreatDoor
open Go.RowKit

def ptL (r : List UInt8) : List UInt8 := if 1 < r.length then r.take 1 ++ 46 :: r.drop 1 else r
def outL (d : Nat) (p : Int) : List UInt8 := ptL (Lib.trimRightB (Lib.decDigits d) 48) ++ 101 :: Lib.itoa (p + ((Lib.decDigits d).length : Int) - 1)

theorem trim_len (l : List UInt8) (c : UInt8) : (Lib.trimRightB l c).length ≤ l.length := by
  unfold Lib.trimRightB
  rw [List.length_reverse]
  have := (List.dropWhile_sublist (· == c) (l := l.reverse)).length_le
  simpa using this

theorem itoa_len {n : Int} (h0 : -100000 ≤ n) (h1 : n ≤ 100000) : (Lib.itoa n).length ≤ 7 := by
  unfold Lib.itoa
  have h : (Lib.decDigits n.natAbs).length ≤ 6 := dd_len (by omega) (by omega)
  have h' : (Lib.decDigits n.toNat).length ≤ 6 := dd_len (by omega) (by omega)
  split
  · simp; first | omega | (rw [show (-n).toNat = n.natAbs by omega]; omega)
  · omega

def dotB : ByteArray := ⟨#[46]⟩
def expB : ByteArray := ⟨#[101]⟩
theorem dotB_list : dotB.data.toList = [46] := rfl
theorem expB_list : expB.data.toList = [101] := rfl
theorem dotB_eq : (⟨#[46]⟩ : ByteArray) = dotB := rfl
theorem expB_eq : (⟨#[101]⟩ : ByteArray) = expB := rfl

theorem lay_dot {r : ByteArray} (h : 1 < r.size) : (r.extract 0 1 ++ dotB ++ r.extract 1 r.size).data.toList = ptL r.data.toList := by
  rw [bytes_append_list, bytes_append_list, extract_take, extract_drop, dotB_list]
  have : r.data.toList.length = r.size := by simp
  rw [ptL, if_pos (by omega)]
  simp

theorem pick_val {N B A D d : Nat} {ev : Bool} (h : pickO N B A D ev = some d) : d = N / D ∨ d = N / D + 1 := by
  have hn := nearS_le (N / D) (N % D) (D - N % D)
  unfold pickO at h
  split at h
  · simp at h; omega
  · split at h
    · simp at h; omega
    · split at h
      · simp at h; omega
      · simp at h

/-- What shortest answers, of a size. -/
def ShortAt (s d : Nat) (p : Int) : Prop := ∃ a b j : Nat, a ≤ 400 ∧ b ≤ 9400 ∧ j ≤ 16 ∧ p = (b : Int) - a - j ∧
  oneS s * 10 ^ b ≤ sizeS s * 10 ^ a ∧ sizeS s * 10 ^ a < 10 * (oneS s * 10 ^ b) ∧ Short (sizeS s * 10 ^ a) (belowS s * 10 ^ a) (aboveS s * 10 ^ a) (oneS s * 10 ^ b) (decide (s % 2 = 0)) j d

theorem ShortAt.bd {s d : Nat} {p : Int} (h : ShortAt s d p) : 1 ≤ d ∧ d ≤ 100000000000000000 ∧ -20000 ≤ p ∧ p ≤ 20000 := by
  obtain ⟨a, b, j, h1, h2, h3, rfl, h4, h5, h6, _⟩ := h
  have hv := pick_val h6
  have hD : 0 < oneS s * 10 ^ b := Nat.mul_pos (Nat.pos_of_ne_zero (one_ne s)) (ten_pow_pos b)
  generalize oneS s * 10 ^ b = D at *
  generalize sizeS s * 10 ^ a = S at *
  have ht := ten_le_16 h3
  have hp := ten_pow_pos j
  generalize 10 ^ j = T at *
  have q1 : 1 ≤ S * T / D := by
    rw [Nat.le_div_iff_mul_le hD]
    have := Nat.le_mul_of_pos_right S hp
    omega
  have q2 : S * T / D < 10 * T := by
    rw [Nat.div_lt_iff_lt_mul hD]
    have := Nat.mul_lt_mul_of_pos_right h5 hp
    rw [show 10 * T * D = 10 * D * T by rw [Nat.mul_right_comm]]
    exact this
  exact ⟨by omega, by omega, by omega, by omega⟩

def sgL (x : Nat) : List UInt8 := if 9223372036854775808 ≤ x then [45] else []

/-- What Print answers. -/
def PrintOk (x : Nat) (l : List UInt8) : Prop :=
  (9218868437227405312 < x % 9223372036854775808 ∧ l = [110, 97, 110]) ∨ (x % 9223372036854775808 = 9218868437227405312 ∧ l = sgL x ++ [105, 110, 102]) ∨
  (x % 9223372036854775808 = 0 ∧ l = sgL x ++ [48]) ∨
  (x % 9223372036854775808 ≠ 0 ∧ x % 9223372036854775808 < 9218868437227405312 ∧ ∃ d p, ShortAt (x % 9223372036854775808) d p ∧ l = sgL x ++ outL d p)

theorem andNot_sign {x : Nat} (h : x < 18446744073709551616) : bits BinOp.andNot IntKind.u64 (x : Int) 9223372036854775808 = ((x % 9223372036854775808 : Nat) : Int) := by
  rw [show (9223372036854775808 : Int) = ((9223372036854775808 : Nat) : Int) from rfl, u64_andNot_nat _ _ h (by omega)]
  congr 1
  exact Nat.and_two_pow_sub_one_eq_mod x 63

theorem and_sign {x : Nat} (h : x < 18446744073709551616) : bits BinOp.and IntKind.u64 (x : Int) 9223372036854775808 = ((if 9223372036854775808 ≤ x then 9223372036854775808 else 0 : Nat) : Int) := by
  rw [show (9223372036854775808 : Int) = ((9223372036854775808 : Nat) : Int) from rfl, u64_and_nat _ _ h (by omega)]
  congr 1
  have hb : x.testBit 63 = decide (9223372036854775808 ≤ x) := by
    rw [Nat.testBit_eq_decide_div_mod_eq]
    by_cases h1 : 9223372036854775808 ≤ x
    · rw [decide_eq_true h1, show x / 2 ^ 63 = 1 by omega]; rfl
    · rw [decide_eq_false h1, show x / 2 ^ 63 = 0 by omega]; rfl
  apply Nat.eq_of_testBit_eq
  intro i
  rw [Nat.testBit_and, show (9223372036854775808 : Nat) = 2 ^ 63 from rfl, Nat.testBit_two_pow]
  by_cases hi : 63 = i
  · subst hi
    rw [hb]
    split
    · rename_i h1; rw [Nat.testBit_two_pow, decide_eq_true h1]; rfl
    · rename_i h1; rw [Nat.zero_testBit, decide_eq_false h1]; rfl
  · rw [decide_eq_false hi, Bool.and_false]
    split
    · rw [Nat.testBit_two_pow, decide_eq_false hi]
    · rw [Nat.zero_testBit]

def sgB (x : Nat) : ByteArray := ⟨(sgL x).toArray⟩
theorem sgB_list (x : Nat) : (sgB x).data.toList = sgL x := rfl
theorem sgB_size (x : Nat) : (sgB x).size ≤ 1 := by rw [bytes_size (sgB_list x)]; unfold sgL; split <;> simp

end Go.Proofs.YthdcceackfdbbabGreatDoor
/- Walk: Print. Own text. -/
namespace Go.Proofs.YthdcceackfdbbabGreatDoor
open Go.RowKit

theorem ptL_len (r : List UInt8) : (ptL r).length ≤ r.length + 1 := by unfold ptL; split <;> simp <;> omega

theorem outL_size {r : ByteArray} {d : Nat} {p : Int} (h : r.data.toList = outL d p) (_h1 : 1 ≤ d) (h2 : d ≤ 100000000000000000) (h3 : -20000 ≤ p) (h4 : p ≤ 20000) : r.size ≤ 40 := by
  rw [bytes_size h]
  have hlen : (Lib.decDigits d).length ≤ 18 := dd_len (by omega) (by omega)
  have hi := itoa_len (n := p + ((Lib.decDigits d).length : Int) - 1) (by omega) (by omega)
  have ht := trim_len (Lib.decDigits d) 48
  have hp := ptL_len (Lib.trimRightB (Lib.decDigits d) 48)
  unfold outL
  rw [List.length_append, List.length_cons]
  omega

end Go.Proofs.YthdcceackfdbbabGreatDoor
/- Plain mathematics: whole numbers in places of a thousand million. Own text. -/
namespace Go.Proofs.YthdcceackfdbbabGreatDoor

def valB : List Nat → Nat
  | [] => 0
  | x :: r => x + 1000000000 * valB r

/-- Every word is below 2^32. -/
def WdsB (l : List Nat) : Prop := ∀ x ∈ l, x < 1000000000

theorem val_appendB (a b : List Nat) : valB (a ++ b) = valB a + 1000000000 ^ a.length * valB b := by
  induction a with
  | nil => simp [valB]
  | cons x r ih => simp only [List.cons_append, valB, ih, List.length_cons, Nat.pow_succ, Nat.mul_add]; rw [Nat.mul_comm (1000000000 ^ r.length) 1000000000, Nat.mul_assoc]; omega

theorem val_ltB {l : List Nat} (h : WdsB l) : valB l < 1000000000 ^ l.length := by
  induction l with
  | nil => simp [valB]
  | cons x r ih =>
    have h1 := h x (by simp)
    have h2 := ih (fun y hy => h y (by simp [hy]))
    simp only [valB, List.length_cons, Nat.pow_succ]
    have h3 : valB r + 1 ≤ 1000000000 ^ r.length := h2
    have h4 := Nat.mul_le_mul_left 1000000000 h3
    rw [Nat.mul_comm (1000000000 ^ r.length)]
    omega

theorem canon_leB {l : List Nat} (h : Canon l) (hne : l ≠ []) : 1000000000 ^ (l.length - 1) ≤ valB l := by
  obtain ⟨r, x, rfl⟩ := snoc_of_ne hne
  have hx : x ≠ 0 := h x (by simp)
  rw [val_appendB]
  simp only [valB, List.length_append, List.length_cons, List.length_nil]
  have : 1000000000 ^ r.length * 1 ≤ 1000000000 ^ r.length * (x + 1000000000 * 0) := Nat.mul_le_mul_left _ (by omega)
  simp at this ⊢
  omega

theorem canon_lenB {l : List Nat} (h : Canon l) {k : Nat} (hk : valB l < 1000000000 ^ k) : l.length ≤ k := by
  by_cases hne : l = []
  · simp [hne]
  · have h1 := canon_leB h hne
    have h2 : 1000000000 ^ (l.length - 1) < 1000000000 ^ k := Nat.lt_of_le_of_lt h1 hk
    have h3 := (Nat.pow_lt_pow_iff_right (by omega : 1 < 1000000000)).1 h2
    omega

theorem canon_zeroB {l : List Nat} (h : Canon l) (hk : valB l = 0) : l = [] := by
  by_cases hne : l = []
  · exact hne
  · have h1 := canon_leB h hne
    have : 0 < 1000000000 ^ (l.length - 1) := Nat.pow_pos (by omega)
    omega

theorem trimL_valB (l : List Nat) : valB (trimL l) = valB l := by
  refine trimL_cases (fun l => valB (trimL l) = valB l) rfl ?_ ?_ l
  · intro r x hx; rw [trimL_snoc_ne r hx]
  · intro r h; rw [trimL_snoc_zero, h, val_appendB]; simp [valB]

theorem wds_takeB {l : List Nat} (h : WdsB l) (k : Nat) : WdsB (l.take k) := fun x hx => h x (List.mem_of_mem_take hx)

theorem trimL_wdsB {l : List Nat} (h : WdsB l) : WdsB (trimL l) := by
  obtain ⟨k, _, e⟩ := trimL_prefix l
  rw [e]; exact wds_takeB h k

theorem val_snocB (l : List Nat) (x : Nat) : valB (l ++ [x]) = valB l + 1000000000 ^ l.length * x := by rw [val_appendB]; simp [valB]

theorem mulAdd_stepB {p l : List Nat} {k x cy f m y c' : Nat} (hp : k < p.length) (hx : l[k]? = some x) (ht : y + 1000000000 * c' = cy + x * f)
    (h : valB (p.take k) + 1000000000 ^ k * cy = valB (l.take k) * f + m) : valB ((p.set k y).take (k + 1)) + 1000000000 ^ (k + 1) * c' = valB (l.take (k + 1)) * f + m := by
  have hk : k < l.length := (List.getElem?_eq_some_iff.1 hx).1
  rw [set_take_succ hp, take_snoc_get hx, val_snocB, val_snocB, take_len (by omega), take_len (by omega)]
  have e : 1000000000 ^ (k + 1) * c' = 1000000000 ^ k * (1000000000 * c') := by rw [Nat.pow_succ, Nat.mul_assoc]
  have e2 : 1000000000 ^ k * (y + 1000000000 * c') = 1000000000 ^ k * (cy + x * f) := by rw [ht]
  rw [Nat.mul_add, Nat.mul_add] at e2
  rw [e, Nat.add_mul, Nat.mul_assoc (1000000000 ^ k) x f]
  omega

theorem val_take_succB {l : List Nat} {k y : Nat} (h : l[k]? = some y ∨ (l.length ≤ k ∧ y = 0)) : valB (l.take (k + 1)) = valB (l.take k) + 1000000000 ^ k * y := by
  rcases h with h | ⟨h, rfl⟩
  · rw [take_snoc_get h, val_snocB, take_len (by have := (List.getElem?_eq_some_iff.1 h).1; omega)]
  · rw [List.take_of_length_le (by omega), List.take_of_length_le h]; simp

theorem val_zerosB (n : Nat) : valB (List.replicate n 0) = 0 := by
  induction n with
  | zero => rfl
  | succ n ih => simp [List.replicate_succ, valB, ih]

theorem val_splitB {l : List Nat} {k x : Nat} (h : l[k]? = some x) : valB l = valB (l.take k) + 1000000000 ^ k * (x + 1000000000 * valB (l.drop (k + 1))) := by
  have hk := (List.getElem?_eq_some_iff.1 h).1
  have e : l = l.take k ++ x :: l.drop (k + 1) := by
    have h1 := (List.take_append_drop k l).symm
    rw [List.drop_eq_getElem_cons hk] at h1
    rw [(List.getElem?_eq_some_iff.1 h).2] at h1
    exact h1
  have := congrArg valB e
  rw [val_appendB, take_len (by omega)] at this
  simpa [valB] using this

theorem val_lt_ofB {la lb : List Nat} {k x y : Nat} (hw : WdsB la) (hx : la[k]? = some x) (hy : lb[k]? = some y) (hd : la.drop (k + 1) = lb.drop (k + 1)) (h : x < y) : valB la < valB lb := by
  rw [val_splitB hx, val_splitB hy, hd]
  have h1 := val_ltB (wds_takeB hw k)
  rw [take_len (by have := (List.getElem?_eq_some_iff.1 hx).1; omega)] at h1
  have h2 : 1000000000 ^ k * (x + 1000000000 * valB (lb.drop (k + 1)) + 1) ≤ 1000000000 ^ k * (y + 1000000000 * valB (lb.drop (k + 1))) := Nat.mul_le_mul_left _ (by omega)
  rw [Nat.mul_add _ _ 1] at h2
  omega

theorem val_lt_lenB {la lb : List Nat} (hw : WdsB la) (hc : Canon lb) (h : la.length < lb.length) : valB la < valB lb := by
  have h1 := val_ltB hw
  have h2 := canon_leB hc (by intro e; simp [e] at h)
  have h3 : 1000000000 ^ la.length ≤ 1000000000 ^ (lb.length - 1) := Nat.pow_le_pow_right (by omega) (by omega)
  omega

end Go.Proofs.YthdcceackfdbbabGreatDoor
