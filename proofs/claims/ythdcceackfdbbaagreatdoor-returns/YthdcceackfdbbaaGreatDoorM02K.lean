import Derived.Test.YthdcceackfdbbaaGreatDoorM01K

/- Numbers: the walks said of Rep; Digit, Sub, Power. Own text. -/
namespace Go.Proofs.YthdcceackfdbbaaGreatDoor
open Go.RowKit

theorem Rep.len {w : World} {B : Nat} {v : Value} {l : List Nat} {n : Nat} (_h : Own w B v l) (hc : Canon l) (hv : val l = n) (hn : Small n) : l.length ≤ 4096 := by
  have := canon_len_small hc (by rw [hv]; exact hn); omega

theorem Own.drewN {w : World} {B : Nat} {v : Value} {l : List Nat} (h : Own w B v l) (n : Nat) : Own (w.drewN n) B v l := h.below (below_drewN (Below.refl _ _) n)
theorem Rep.drewN {w : World} {B : Nat} {v : Value} {a : Nat} (h : Rep w B v a) (n : Nat) : Rep (w.drewN n) B v a := h.below (below_drewN (Below.refl _ _) n)

theorem mulAdd_rep (w : World) (v : Value) (a f m : Nat) (h : Rep w 0 v a) (ha : Small a) (hf : f < 4294967296) (hm : m < 4294967296) :
    Calls Tryz.prog 157 #[v, .int .u32 f, .int .u32 m] w fun e w' => ∃ v', e = .returned v' ∧ Rep w' w.heap.size v' (a * f + m) ∧ Below w.heap.size w w' := by
  obtain ⟨l, h1, h2, h3⟩ := h
  refine (mulAdd_any w v l f m h1 (Rep.len h1 h2 h3 ha) hf hm).mono ?_
  rintro e w' ⟨v', l', he, ho, hc, hv, hb⟩
  exact ⟨v', he, ⟨l', ho, hc, by rw [hv, h3]⟩, hb⟩

theorem mul_rep (w : World) (va vb : Value) (a b : Nat) (ha : Rep w 0 va a) (hb : Rep w 0 vb b) (la : Small a) (lb : Small b) :
    Calls Tryz.prog 159 #[va, vb] w fun e w' => ∃ v', e = .returned v' ∧ Rep w' w.heap.size v' (a * b) ∧ Below w.heap.size w w' := by
  obtain ⟨l, h1, h2, h3⟩ := ha
  obtain ⟨k, k1, k2, k3⟩ := hb
  refine (mul_any w va vb l k h1 k1 (Rep.len h1 h2 h3 la) (Rep.len k1 k2 k3 lb)).mono ?_
  rintro e w' ⟨v', l', he, ho, hc, hv, hb⟩
  exact ⟨v', he, ⟨l', ho, hc, by rw [hv, h3, k3]⟩, hb⟩

theorem shift_rep (w : World) (va : Value) (a n : Nat) (ha : Rep w 0 va a) (la : Small a) (hn : n ≤ 100000) :
    Calls Tryz.prog 196 #[va, .int .i64 n] w fun e w' => ∃ v', e = .returned v' ∧ Rep w' w.heap.size v' (a * 2 ^ n) ∧ Below w.heap.size w w' := by
  obtain ⟨l, h1, h2, h3⟩ := ha
  refine (shift_any w va l n h1 (Rep.len h1 h2 h3 la) hn).mono ?_
  rintro e w' ⟨v', l', he, ho, hc, hv, hb⟩
  exact ⟨v', he, ⟨l', ho, hc, by rw [hv, h3]⟩, hb⟩

theorem compare_rep (w : World) (va vb : Value) (a b : Nat) (ha : Rep w 0 va a) (hb : Rep w 0 vb b) (la : Small a) :
    Calls Tryz.prog 197 #[va, vb] w fun e w' => e = .returned (.int .i64 (cmpI a b)) ∧ ∃ n, w' = w.drewN n := by
  obtain ⟨l, h1, h2, h3⟩ := ha
  obtain ⟨k, k1, k2, k3⟩ := hb
  have := compare_any w va vb l k h1 k1 h2 k2 (Rep.len h1 h2 h3 la)
  rw [h3, k3] at this
  exact this

theorem bitlen_rep (w : World) (va : Value) (a : Nat) (ha : Rep w 0 va a) (la : Small a) :
    Calls Tryz.prog 222 #[va] w fun e w' => e = .returned (.int .i64 (bl a)) ∧ ∃ n, w' = w.drewN n := by
  obtain ⟨l, h1, h2, h3⟩ := ha
  have := bitlen_any w va l h1 h2 (Rep.len h1 h2 h3 la)
  rw [h3] at this
  exact this

theorem div_of {a b d r : Nat} (h : r + d * b = a) (hr : r < b) : a / b = d ∧ a % b = r := by
  subst h
  have hb : 0 < b := by omega
  rw [Nat.add_mul_div_right _ _ hb, Nat.add_mul_mod_self_right, Nat.div_eq_of_lt hr, Nat.mod_eq_of_lt hr]
  omega

theorem digit_le {a b d r : Nat} (h : r + d * b = a) (hb : b ≠ 0) (hr : b ≤ r) : d + 1 ≤ a / b := by
  rw [Nat.le_div_iff_mul_le (by omega), Nat.add_mul]; omega

theorem canon_le_len {la lb : List Nat} (hw : Wds la) (hc : Canon lb) (h : val lb ≤ val la) : lb.length ≤ la.length := by
  by_cases hh : lb.length ≤ la.length
  · exact hh
  · have := val_lt_len hw hc (by omega); omega

/-- take, then trim: r less b. -/
theorem Own.nonnil {w : World} {B : Nat} {v : Value} {l : List Nat} (h : Own w B v l) (hne : l ≠ []) : ∃ g cap, v = .slice (some ⟨g, 0, none⟩) l.length cap ∧ B ≤ g ∧ g < w.heap.size := by
  rcases h.shape with ⟨_, rfl⟩ | ⟨g, cap, rfl, h1, h2, _⟩
  · exact absurd rfl hne
  · exact ⟨g, cap, rfl, h1, h2⟩

theorem Own.blockLt {w : World} {B : Nat} {v : Value} {l : List Nat} (h : Own w B v l) {k : Nat} (hk : v.ownBlock = some k) : k < w.heap.size := (h.1.lt k hk).2

set_option maxHeartbeats 800000 in
theorem digit_any (w : World) (va vb : Value) (a b : Nat) (ha : Rep w 0 va a) (hb : Rep w 0 vb b) (hb0 : b ≠ 0) (la : Small a) (hq : a / b ≤ 1000000) :
    Calls Tryz.prog 167 #[va, vb] w fun e w' => ∃ v', e = .returned (.tuple #[.int .i64 ((a / b : Nat) : Int), v']) ∧ Rep w' w.heap.size v' (a % b) ∧ Below w.heap.size w w' := by
  obtain ⟨l, h1, h2, h3⟩ := ha
  obtain ⟨k, k1, k2, k3⟩ := hb
  have hll := Rep.len h1 h2 h3 la
  have HQ : Hid (a / b ≤ 1000000) := hq
  have HK3 : Hid (val k = b) := k3
  have HH3 : Hid (val l = a) := h3
  clear hq k3 h3
  go_enter Tryz.func167, Tryz.ntmps167
  go_wp2_with fail
  refine (clone_any _ _ _ h1 hll).mono ?_
  rintro e w1 ⟨v1, rfl, ho1, hb1⟩
  go_wp2_with fail
  go_loopw [6, 7] (fun s v wr => ∃ (d r : Nat) (l' : List Nat), s = .int .i64 d ∧ Own wr w.heap.size v l' ∧ Canon l' ∧ val l' = r ∧ r + d * b = a ∧ Below w.heap.size w wr) (fun s _ _ => a - (intOf s).toNat)
  case atStart => exact ⟨0, a, l, rfl, ho1, h2, HH3.out, by simp, hb1⟩
  case round =>
    clear ho1 hb1
    obtain ⟨d, r, l', rfl, ho, hc, hv, he, hbel⟩ := hrel
    have HE : Hid (r + d * b = a) := he
    have HV : Hid (val l' = r) := hv
    have hra : Small r := la.le (by omega)
    have hl' := Rep.len ho hc hv hra
    have k1r : Own wr 0 vb k := k1.below hbel
    clear he hv
    go_wp2_with fail
    refine (compare_rep wr u7 vb r b ⟨l', ho.base (Nat.zero_le _), hc, HV.out⟩ ⟨k, k1r, k2, HK3.out⟩ hra).mono ?_
    rintro e w2 ⟨rfl, nq, rfl⟩
    by_cases hge : b ≤ r
    · have hd := digit_le HE.out hb0 hge
      have hd2 : d + 1 ≤ 1000000 := Nat.le_trans hd HQ.out
      have hda : d < a := by have := Nat.div_le_self a b; omega
      have hcm : (0 : Int) ≤ cmpI (r : Int) (b : Int) := by unfold cmpI; split <;> (try split) <;> omega
      generalize cmpI (r : Int) (b : Int) = cm at hcm ⊢
      have hne : l' ≠ [] := by intro e; have := HV.out; rw [e] at this; simp [val] at this; omega
      obtain ⟨g, cap, hu, hg1, hg2⟩ := ho.nonnil hne
      subst hu
      clear hd hne
      go_wp2_with fail
      have hlek : k.length ≤ l'.length := canon_le_len ho.2 k2 (by rw [HV.out, HK3.out]; exact hge)
      refine (take_any _ w.heap.size g l'.length cap vb l' k (ho.drewN nq) (k1r.drewN nq) (by intro e; have := k1.blockLt e; omega) hl' hlek (by rw [HV.out, HK3.out]; exact hge)).mono ?_
      rintro e w3 ⟨rfl, ⟨p, hp1, hp2, hp3⟩, hgr⟩
      have HP2 : Hid (val p = val l' - val k) := hp2
      have hb3 : Below w.heap.size w w3 := (below_drewN hbel nq).grown hgr (by have := hbel.size; simpa using this) (by intro q hq; cases hq; exact hg1)
      clear hp2
      go_wp2_with fail
      refine (trim_any _ _ _ _ hp1).mono ?_
      rintro e w4 ⟨v4, rfl, ho4, rfl⟩
      go_wp2
      go_roundw
      case rel =>
        refine ⟨d + 1, r - b, _, by go_num, ho4, trimL_canon _, ?_, ?_, hb3⟩
        · rw [trimL_val, HP2.out, HV.out, HK3.out]
        · have := HE.out; rw [Nat.add_mul]; omega
      case measure => simp [intOf]; omega
    · have hcm : cmpI (r : Int) (b : Int) = -1 := cmpI_lt (by omega)
      rw [hcm]
      obtain ⟨q1, q2⟩ := div_of HE.out (by omega)
      have Q1 : Hid (a / b = d) := q1
      have Q2 : Hid (a % b = r) := q2
      clear q1 q2 hcm
      go_wp2
      go_ret2
      refine ⟨u7, by rw [Q1.out]; rfl, ⟨l', ho.drewN nq, hc, by rw [Q2.out, HV.out]⟩, below_drewN hbel nq⟩

set_option maxHeartbeats 800000 in
theorem sub_any (w : World) (va vb : Value) (a b : Nat) (ha : Rep w 0 va a) (hb : Rep w 0 vb b) (hle : b ≤ a) (ha0 : a ≠ 0) (la : Small a) :
    Calls Tryz.prog 168 #[va, vb] w fun e w' => ∃ v', e = .returned v' ∧ Rep w' w.heap.size v' (a - b) ∧ Below w.heap.size w w' := by
  obtain ⟨l, h1, h2, h3⟩ := ha
  obtain ⟨k, k1, k2, k3⟩ := hb
  have hll := Rep.len h1 h2 h3 la
  have hlek : k.length ≤ l.length := canon_le_len h1.2 k2 (by rw [h3, k3]; exact hle)
  have HK3 : Hid (val k = b) := k3
  have HH3 : Hid (val l = a) := h3
  clear k3 h3
  have hne : l ≠ [] := by intro e; have := HH3.out; rw [e] at this; simp [val] at this; omega
  go_enter Tryz.func168, Tryz.ntmps168
  go_wp2_with fail
  refine (clone_any _ _ _ h1 hll).mono ?_
  rintro e w1 ⟨v1, rfl, ho1, hb1⟩
  obtain ⟨g, cap, hu, hg1, hg2⟩ := ho1.nonnil hne
  subst hu
  clear hne
  go_wp2_with fail
  refine (take_any _ w.heap.size g l.length cap vb l k ho1 (k1.below hb1) (by intro e; have := k1.blockLt e; omega) hll hlek (by rw [HH3.out, HK3.out]; exact hle)).mono ?_
  rintro e w3 ⟨rfl, ⟨p, hp1, hp2, hp3⟩, hgr⟩
  have HP2 : Hid (val p = val l - val k) := hp2
  have hb3 : Below w.heap.size w w3 := hb1.grown hgr hb1.size (by intro q hq; cases hq; exact hg1)
  clear hp2
  go_wp2_with fail
  refine (trim_any _ _ _ _ hp1).mono ?_
  rintro e w4 ⟨v4, rfl, ho4, rfl⟩
  go_wp2
  go_ret
  exact ⟨v4, rfl, ⟨_, ho4, trimL_canon _, by rw [trimL_val, HP2.out, HH3.out, HK3.out]⟩, hb3⟩

theorem and_one_i64 (i : Nat) (hi : i < 9223372036854775808) : bits BinOp.and IntKind.i64 (i : Int) 1 = ((i % 2 : Nat) : Int) := by
  have two63 : (2 : Int) ^ 63 = 9223372036854775808 := by decide
  have h := bits_mask .i64 63 (by decide) (fun n h0 h1 => by rw [two63] at h1; rw [IntKind.wrap_i64]; omega) 1 (by decide) (i : Int) (by omega) (by rw [two63]; omega)
  have e : ((2 : Int) ^ 1 - 1) = 1 := by decide
  rw [e] at h
  rw [h]
  omega

theorem pow_half (b n j : Nat) : b ^ (n / 2 ^ j) = b ^ (n / 2 ^ (j + 1)) * b ^ (n / 2 ^ (j + 1)) * b ^ (n / 2 ^ j % 2) := by
  rw [← Nat.pow_add, ← Nat.pow_add]
  congr 1
  rw [Nat.pow_succ, ← Nat.div_div_eq_div_mul]
  omega

theorem pow_le_n {b n m : Nat} (hb : 1 ≤ b) (h : Small (b ^ n)) (hm : m ≤ n) : Small (b ^ m) := h.le (Nat.pow_le_pow_right hb hm)

set_option maxHeartbeats 800000 in
theorem power_any (w : World) (b n : Nat) (hb : 1 ≤ b) (hb2 : b < 4294967296) (hn : n ≤ 100000) (hL : Small (b ^ n)) :
    Calls Tryz.prog 198 #[.int .u32 b, .int .i64 n] w fun e w' => ∃ v', e = .returned v' ∧ Rep w' w.heap.size v' (b ^ n) ∧ Below w.heap.size w w' := by
  have hbits : Lib.bitLen n ≤ 64 := Lib.bitLen_le n 64 (by omega) (by omega)
  have hz : n / 2 ^ Lib.bitLen n = 0 := by rw [bitLen_bl (by omega)]; exact Nat.div_eq_of_lt (bl_hi n)
  have HZ : Hid (n / 2 ^ Lib.bitLen n = 0) := hz
  clear hz
  go_enter Tryz.func198, Tryz.ntmps198
  go_wp2_with fail
  refine (of_any _ 1 (by omega)).mono ?_
  rintro e w1 ⟨v1, rfl, ho1, hb1⟩
  go_wp2_with fail
  refine (Tryz.bits_Len _ _ (by omega) (by omega)).mono ?_
  rintro e w2 ⟨rfl, rfl⟩
  rw [Int.toNat_natCast]
  generalize hbt : Lib.bitLen n = t at *
  have HT : Hid (Lib.bitLen n = t) := hbt
  clear hbt
  go_wp2_with fail
  go_loopw [5, 6] (fun v i wr => ∃ (k : Nat), k ≤ t ∧ i = .int .i64 ((k : Int) - 1) ∧ Rep wr w.heap.size v (b ^ (n / 2 ^ k)) ∧ Below w.heap.size w wr) (fun _ i _ => (intOf i + 1).toNat)
  case atStart => exact ⟨t, Nat.le_refl _, rfl, by rw [HZ.out]; exact ho1, hb1⟩
  case round =>
    clear ho1 hb1
    obtain ⟨k, hk, rfl, ho, hbel⟩ := hrel
    cases k with
    | zero =>
      go_wp2
      go_ret
      exact ⟨u5, rfl, by simpa using ho, hbel⟩
    | succ j =>
      have e : ((j + 1 : Nat) : Int) - 1 = (j : Int) := by omega
      rw [e]
      clear e
      go_wp2_with fail
      have hl1 : Small (b ^ (n / 2 ^ (j + 1))) := pow_le_n hb hL (Nat.div_le_self _ _)
      refine (mul_rep _ u5 u5 _ _ (ho.base (Nat.zero_le _)) (ho.base (Nat.zero_le _)) hl1 hl1).mono ?_
      rintro e w3 ⟨v3, rfl, ho3, hb3⟩
      clear hl1
      have hj : j < 64 := by omega
      have hq : n / 2 ^ j < 9223372036854775808 := Nat.lt_of_le_of_lt (Nat.div_le_self _ _) (by omega)
      have eb : bits BinOp.and IntKind.i64 ((n : Int) / 2 ^ j) 1 = ((n / 2 ^ j % 2 : Nat) : Int) := by
        rw [show (n : Int) / 2 ^ j = ((n / 2 ^ j : Nat) : Int) from by simp]
        exact and_one_i64 _ hq
      have EB : Hid (bits BinOp.and IntKind.i64 ((n : Int) / 2 ^ j) 1 = ((n / 2 ^ j % 2 : Nat) : Int)) := eb
      have hl2 : Small (b ^ (n / 2 ^ (j + 1)) * b ^ (n / 2 ^ (j + 1))) := by
        refine Small.le (pow_le_n hb hL (Nat.div_le_self n (2 ^ j))) ?_
        rw [pow_half b n j]
        exact Nat.le_mul_of_pos_right _ (Nat.pow_pos hb)
      have hb4 : Below w.heap.size w w3 := hbel.trans (hb3.mono hbel.size)
      have ho4 := ho3.base hbel.size
      have hph := pow_half b n j
      have HPH : Hid (b ^ (n / 2 ^ j) = b ^ (n / 2 ^ (j + 1)) * b ^ (n / 2 ^ (j + 1)) * b ^ (n / 2 ^ j % 2)) := hph
      clear hph hq eb
      rcases Nat.mod_two_eq_zero_or_one (n / 2 ^ j) with hbit | hbit
      rotate_left
      · have hbt : (bits BinOp.and IntKind.i64 ((n : Int) / 2 ^ j) 1 == 1) = true := by rw [EB.out, hbit]; rfl
        have HBIT : Hid (n / 2 ^ j % 2 = 1) := hbit
        clear hbit
        go_wp2_with fail
        refine (mulAdd_rep _ v3 _ b 0 (ho3.base (Nat.zero_le _)) hl2 hb2 (by omega)).mono ?_
        rintro e w5 ⟨v5, rfl, ho5, hb5⟩
        go_wp2
        go_roundw
        case rel =>
          refine ⟨j, by omega, rfl, ?_, hb4.trans (hb5.mono hb4.size)⟩
          rw [HPH.out, HBIT.out]
          simpa using ho5.base hb4.size
        case measure => simp [intOf]
      · have hbt : (bits BinOp.and IntKind.i64 ((n : Int) / 2 ^ j) 1 == 1) = false := by rw [EB.out, hbit]; rfl
        have HBIT : Hid (n / 2 ^ j % 2 = 0) := hbit
        clear hbit
        go_wp2
        go_roundw
        case rel =>
          refine ⟨j, by omega, rfl, ?_, hb4⟩
          rw [HPH.out, HBIT.out]
          simpa using ho4
        case measure => simp [intOf]

end Go.Proofs.YthdcceackfdbbaaGreatDoor
/- Plain mathematics: rounding a quotient. Own text. -/
namespace Go.Proofs.YthdcceackfdbbaaGreatDoor

/-- n by d, rounded to the nearest whole number, halves to the even one. -/
def rhe (n d : Nat) : Nat := if d < 2 * (n % d) ∨ (2 * (n % d) = d ∧ n / d % 2 = 1) then n / d + 1 else n / d

theorem rhe_scale (n d c : Nat) (hc : 0 < c) : rhe (n * c) (d * c) = rhe n d := by
  unfold rhe
  rw [Nat.mul_mod_mul_right, Nat.mul_div_mul_right _ _ hc]
  have h1 : d * c < 2 * (n % d * c) ↔ d < 2 * (n % d) := by rw [← Nat.mul_assoc]; exact Nat.mul_lt_mul_right hc
  have h2 : 2 * (n % d * c) = d * c ↔ 2 * (n % d) = d := by rw [← Nat.mul_assoc]; exact Nat.mul_right_cancel_iff hc
  simp only [h1, h2]

/-- The power of two of a by b. -/
def plog (a b : Nat) : Int :=
  if 0 ≤ (bl a : Int) - bl b then (if a < b * 2 ^ ((bl a : Int) - bl b).toNat then (bl a : Int) - bl b - 1 else (bl a : Int) - bl b)
  else (if a * 2 ^ (-((bl a : Int) - bl b)).toNat < b then (bl a : Int) - bl b - 1 else (bl a : Int) - bl b)

/-- a by b by 2^e, rounded. -/
def rat (a b : Nat) (e : Int) : Nat := if 0 ≤ e then rhe a (b * 2 ^ e.toNat) else rhe (a * 2 ^ (-e).toNat) b

def eOf (p : Int) : Int := if p < -1022 then -1074 else p - 52

/-- a by b as a size, or infinity. -/
def rnd (a b : Nat) : Nat := if 1023 < plog a b then 9218868437227405312 else (eOf (plog a b) + 1074).toNat * 4503599627370496 + rat a b (eOf (plog a b))

theorem pow_split {a b : Nat} (h : a ≤ b) : 2 ^ b = 2 ^ a * 2 ^ (b - a) := by rw [← Nat.pow_add]; congr 1; omega

/-- There is one power only. -/
theorem power_unique {a b i j i' j' : Nat} (h1 : b * 2 ^ j ≤ a * 2 ^ i) (h2 : a * 2 ^ i' < 2 * (b * 2 ^ j')) : (j : Int) - i ≤ (j' : Int) - i' := by
  by_cases hh : (j : Int) - i ≤ (j' : Int) - i'
  · exact hh
  · exfalso
    have hle : j' + 1 + i ≤ j + i' := by omega
    have e1 := Nat.mul_le_mul_right (2 ^ i') h1
    have e2 := (Nat.mul_lt_mul_right (a := 2 ^ i) (Nat.pow_pos (by omega))).2 h2
    have e3 : a * 2 ^ i * 2 ^ i' = a * 2 ^ i' * 2 ^ i := by rw [Nat.mul_assoc, Nat.mul_assoc, Nat.mul_comm (2 ^ i)]
    have e4 : b * 2 ^ j * 2 ^ i' = b * 2 ^ (j + i') := by rw [Nat.mul_assoc, Nat.pow_add]
    have e5 : 2 * (b * 2 ^ j') * 2 ^ i = b * 2 ^ (j' + 1 + i) := by
      rw [Nat.pow_add, Nat.pow_succ, Nat.mul_comm 2 (b * _), Nat.mul_assoc, Nat.mul_assoc, Nat.mul_assoc]
    have e6 : b * 2 ^ (j' + 1 + i) ≤ b * 2 ^ (j + i') := Nat.mul_le_mul_left _ (Nat.pow_le_pow_right (by omega) hle)
    omega

theorem norm_ge {a b : Nat} (ha : a ≠ 0) (hb : b ≠ 0) (h : bl b ≤ bl a) : a < 2 * (b * 2 ^ (bl a - bl b)) ∧ b * 2 ^ (bl a - bl b) < 2 * a := by
  have a1 := bl_lo ha
  have a2 := bl_hi a
  have b1 := bl_lo hb
  have b2 := bl_hi b
  have p1 := bl_pos ha
  have p2 := bl_pos hb
  have e1 : 2 ^ bl a = 2 * 2 ^ (bl a - 1) := by rw [← Nat.pow_succ']; congr 1; omega
  have e2 : 2 ^ (bl b - 1) * 2 ^ (bl a - bl b) = 2 ^ (bl a - 1) := by rw [← Nat.pow_add]; congr 1; omega
  have e3 : 2 ^ bl b * 2 ^ (bl a - bl b) = 2 ^ bl a := by rw [← Nat.pow_add]; congr 1; omega
  have e4 := Nat.mul_le_mul_right (2 ^ (bl a - bl b)) b1
  have e5 := (Nat.mul_lt_mul_right (a := 2 ^ (bl a - bl b)) (Nat.pow_pos (by omega))).2 b2
  exact ⟨by omega, by omega⟩

theorem plog_eq {a b i j : Nat} (ha : a ≠ 0) (hb : b ≠ 0) (h1 : b * 2 ^ j ≤ a * 2 ^ i) (h2 : a * 2 ^ i < 2 * (b * 2 ^ j)) : plog a b = (j : Int) - i := by
  have key : ∃ i' j' : Nat, plog a b = (j' : Int) - i' ∧ b * 2 ^ j' ≤ a * 2 ^ i' ∧ a * 2 ^ i' < 2 * (b * 2 ^ j') := by
    unfold plog
    by_cases hk : 0 ≤ (bl a : Int) - bl b
    · rw [if_pos hk]
      obtain ⟨n1, n2⟩ := norm_ge ha hb (by omega)
      have et : ((bl a : Int) - bl b).toNat = bl a - bl b := by omega
      rw [et]
      by_cases hc : a < b * 2 ^ (bl a - bl b)
      · rw [if_pos hc]; exact ⟨1, bl a - bl b, by omega, by omega, by omega⟩
      · rw [if_neg hc]; exact ⟨0, bl a - bl b, by omega, by omega, by omega⟩
    · rw [if_neg hk]
      obtain ⟨n1, n2⟩ := norm_ge hb ha (by omega)
      have et : (-((bl a : Int) - bl b)).toNat = bl b - bl a := by omega
      rw [et]
      by_cases hc : a * 2 ^ (bl b - bl a) < b
      · rw [if_pos hc]
        refine ⟨bl b - bl a + 1, 0, by omega, ?_, ?_⟩
        · rw [Nat.pow_succ, ← Nat.mul_assoc]; omega
        · rw [Nat.pow_succ, ← Nat.mul_assoc]; omega
      · rw [if_neg hc]; exact ⟨bl b - bl a, 0, by omega, by omega, by omega⟩
  obtain ⟨i', j', e, k1, k2⟩ := key
  have u1 := power_unique h1 k2
  have u2 := power_unique k1 h2
  omega

/-- What the loop of roundQuotient leaves. -/
theorem rat_of {a b i j s : Nat} {e : Int} (he : e = (j : Int) + 1 - i - s) : rhe (a * 2 ^ i * 2 ^ s) (2 * (b * 2 ^ j)) = rat a b e := by
  unfold rat
  have n1 : a * 2 ^ i * 2 ^ s = a * 2 ^ (i + s) := by rw [Nat.mul_assoc, Nat.pow_add]
  have n2 : 2 * (b * 2 ^ j) = b * 2 ^ (j + 1) := by rw [Nat.pow_succ]; simp only [Nat.mul_left_comm, Nat.mul_comm]
  rw [n1, n2]
  by_cases h : 0 ≤ e
  · rw [if_pos h]
    have e1 : j + 1 = e.toNat + (i + s) := by omega
    have e2 : b * 2 ^ (j + 1) = b * 2 ^ e.toNat * 2 ^ (i + s) := by rw [e1, Nat.pow_add, Nat.mul_assoc]
    rw [e2, rhe_scale _ _ _ (Nat.pow_pos (by omega))]
  · rw [if_neg h]
    have e1 : i + s = (-e).toNat + (j + 1) := by omega
    have e2 : a * 2 ^ (i + s) = a * 2 ^ (-e).toNat * 2 ^ (j + 1) := by rw [e1, Nat.pow_add, Nat.mul_assoc]
    rw [e2, rhe_scale _ _ _ (Nat.pow_pos (by omega))]

theorem rhe_small {n d : Nat} (h : 2 * n < d) : rhe n d = 0 := by
  unfold rhe
  rw [Nat.div_eq_of_lt (by omega), Nat.mod_eq_of_lt (by omega), if_neg (by omega)]

theorem rat_low {a b i j c : Nat} (h2 : a * 2 ^ i < 2 * (b * 2 ^ j)) (hc : 1 ≤ c) (hp : j + c + 2 ≤ i) : rat a b (-(c : Int)) = 0 := by
  unfold rat
  rw [if_neg (by omega), show (-(-(c : Int))).toNat = c from by omega]
  refine rhe_small ?_
  have hs : a * 2 ^ c * 2 ^ (i - c) < 2 * (b * 2 ^ j) := by
    rw [Nat.mul_assoc, ← Nat.pow_add, show c + (i - c) = i from by omega]; exact h2
  have e1 : 2 * (b * 2 ^ j) ≤ b * 2 ^ (i - c - 1) := by
    have h3 : 2 ^ (j + 1) ≤ 2 ^ (i - c - 1) := Nat.pow_le_pow_right (by omega) (by omega)
    have h4 := Nat.mul_le_mul_left b h3
    rw [Nat.pow_succ, ← Nat.mul_assoc] at h4
    omega
  have e2 : 2 ^ (i - c) = 2 * 2 ^ (i - c - 1) := by rw [← Nat.pow_succ']; congr 1; omega
  have e3 : a * 2 ^ c * 2 * 2 ^ (i - c - 1) < b * 2 ^ (i - c - 1) := by
    rw [e2, ← Nat.mul_assoc] at hs; omega
  have e4 := Nat.lt_of_mul_lt_mul_right e3
  omega

/-- Far below the least size: 0. -/
theorem rnd_low {a b i j : Nat} (ha : a ≠ 0) (hb : b ≠ 0) (h1 : b * 2 ^ j ≤ a * 2 ^ i) (h2 : a * 2 ^ i < 2 * (b * 2 ^ j)) (hp : (j : Int) - i < -1075) : rnd a b = 0 := by
  have hpl := plog_eq ha hb h1 h2
  unfold rnd
  rw [hpl, if_neg (by omega)]
  unfold eOf
  rw [if_pos (by omega)]
  have := rat_low (c := 1074) h2 (by omega) (by omega)
  rw [show (-((1074 : Nat) : Int)) = -1074 from rfl] at this
  rw [this]
  rfl

end Go.Proofs.YthdcceackfdbbaaGreatDoor
/- Walks: normalize, roundQuotient. Own text. -/
namespace Go.Proofs.YthdcceackfdbbaaGreatDoor
open Go.RowKit

theorem small_of_bl {a k : Nat} (h : bl a ≤ k) (hk : k ≤ 65536) : Small a := Small.of_lt (k := k) (Nat.lt_of_lt_of_le (bl_hi a) (Nat.pow_le_pow_right (by omega) h)) hk

theorem bl_shift (a n : Nat) : bl (a * 2 ^ n) ≤ bl a + n := by
  refine bl_le ?_
  rw [Nat.pow_add]
  exact (Nat.mul_lt_mul_right (Nat.pow_pos (by omega))).2 (bl_hi a)

theorem shift_repI (w : World) (va : Value) (a n : Nat) (m : Int) (ha : Rep w 0 va a) (la : Small a) (hn : n ≤ 100000) (hm : m = (n : Int)) :
    Calls Tryz.prog 196 #[va, .int .i64 m] w fun e w' => ∃ v', e = .returned v' ∧ Rep w' w.heap.size v' (a * 2 ^ n) ∧ Below w.heap.size w w' := by
  subst hm; exact shift_rep w va a n ha la hn

theorem tup3 {a b : Value} {c c' : Int} (h : c = c') : Ending.returned (.tuple #[a, b, .int .i64 c]) = .returned (.tuple #[a, b, .int .i64 c']) := by rw [h]

set_option maxHeartbeats 800000 in
theorem normalize_any (w : World) (va vb : Value) (a b : Nat) (ha : Rep w 0 va a) (hb : Rep w 0 vb b) (ha0 : a ≠ 0) (hb0 : b ≠ 0) (la : bl a ≤ 20000) (lb : bl b ≤ 20000) :
    Calls Tryz.prog 195 #[va, vb] w fun e w' => ∃ (va' vb' : Value) (i j : Nat), e = .returned (.tuple #[va', vb', .int .i64 ((j : Int) - (i : Int))]) ∧ Rep w' 0 va' (a * 2 ^ i) ∧ Rep w' 0 vb' (b * 2 ^ j) ∧
      b * 2 ^ j ≤ a * 2 ^ i ∧ a * 2 ^ i < 2 * (b * 2 ^ j) ∧ i ≤ 20001 ∧ j ≤ 20000 ∧ Below w.heap.size w w' := by
  have sa := small_of_bl la (by omega)
  have sb := small_of_bl lb (by omega)
  generalize hA : bl a = A at *
  generalize hB : bl b = B at *
  have HA : Hid (bl a = A) := hA
  have HB : Hid (bl b = B) := hB
  clear hA hB
  go_enter Tryz.func195, Tryz.ntmps195
  go_wp2_with fail
  refine (bitlen_rep _ _ a ha sa).mono ?_
  rintro e w1 ⟨rfl, n1, rfl⟩
  go_wp2_with fail
  refine (bitlen_rep _ _ b (hb.drewN n1) sb).mono ?_
  rintro e w1 ⟨rfl, n2, rfl⟩
  rw [HA.out, HB.out]
  by_cases hge : B ≤ A
  · obtain ⟨m1, m2⟩ := norm_ge ha0 hb0 (by rw [HA.out, HB.out]; exact hge)
    rw [HA.out, HB.out] at m1 m2
    obtain ⟨d, hd⟩ : ∃ d : Nat, d = A - B := ⟨_, rfl⟩
    rw [← hd] at m1 m2
    have hd2 : d ≤ 20000 := by omega
    have sb2 : Small (b * 2 ^ d) := small_of_bl (Nat.le_trans (bl_shift b d) (by rw [HB.out]; exact Nat.add_le_add lb hd2)) (by omega)
    have M1 : Hid (a < 2 * (b * 2 ^ d)) := m1
    have M2 : Hid (b * 2 ^ d < 2 * a) := m2
    have HD : Hid (d = A - B) := hd
    clear hd m1 m2
    go_wp2_with fail
    refine (shift_repI _ _ b d ((A : Int) - (B : Int)) (hb.drewN (n1 + n2)) sb (by omega) (by have := HD.out; omega)).mono ?_
    rintro e w2 ⟨v2, rfl, r2, b2⟩
    simp only [World.heap_drewN] at b2 r2
    have bb2 : Below w.heap.size w w2 := (below_drewN (Below.refl _ _) (n1 + n2)).trans b2
    go_wp2_with fail
    refine (compare_rep _ _ _ a (b * 2 ^ d) (ha.below bb2) (r2.base (Nat.zero_le _)) sa).mono ?_
    rintro e w3 ⟨rfl, n3, rfl⟩
    by_cases hc : a < b * 2 ^ d
    · rw [cmpI_lt (by omega)]
      have HC : Hid (a < b * 2 ^ d) := hc
      clear hc
      go_wp2_with fail
      refine (shift_rep _ _ a 1 ((ha.below bb2).drewN n3) sa (by omega)).mono ?_
      rintro e w4 ⟨v4, rfl, r4, b4⟩
      simp only [World.heap_drewN] at b4 r4
      go_wp2
      go_ret3
      refine ⟨v4, v2, 1, d, tup3 (by have := HD.out; omega), r4.base (Nat.zero_le _), ((r2.base (Nat.zero_le _)).drewN n3).below (by simpa using b4), ?_, ?_, by omega, by omega, (below_drewN bb2 n3).trans (b4.mono bb2.size)⟩
      · have := M2.out; omega
      · have := HC.out; omega
    · have hcm : (0 : Int) ≤ cmpI (a : Int) ((b * 2 ^ d : Nat) : Int) := by unfold cmpI; split <;> (try split) <;> omega
      generalize cmpI (a : Int) ((b * 2 ^ d : Nat) : Int) = cm at hcm ⊢
      have HC : Hid (¬ a < b * 2 ^ d) := hc
      clear hc
      go_wp2
      go_ret3
      refine ⟨va, v2, 0, d, tup3 (by have := HD.out; omega), by simpa using (ha.below bb2).drewN n3, (r2.base (Nat.zero_le _)).drewN n3, ?_, ?_, by omega, by omega, below_drewN bb2 n3⟩
      · have := HC.out; omega
      · have := M1.out; omega
  · obtain ⟨m1, m2⟩ := norm_ge hb0 ha0 (by rw [HA.out, HB.out]; omega)
    rw [HA.out, HB.out] at m1 m2
    obtain ⟨d, hd⟩ : ∃ d : Nat, d = B - A := ⟨_, rfl⟩
    rw [← hd] at m1 m2
    have hd2 : d ≤ 20000 := by omega
    have hd3 : 1 ≤ d := by omega
    have sa2 : Small (a * 2 ^ d) := small_of_bl (Nat.le_trans (bl_shift a d) (by rw [HA.out]; exact Nat.add_le_add la hd2)) (by omega)
    have M1 : Hid (b < 2 * (a * 2 ^ d)) := m1
    have M2 : Hid (a * 2 ^ d < 2 * b) := m2
    have HD : Hid (d = B - A) := hd
    clear hd m1 m2
    go_wp2_with fail
    refine (shift_repI _ _ a d (-((A : Int) - (B : Int))) (ha.drewN (n1 + n2)) sa (by omega) (by have := HD.out; omega)).mono ?_
    rintro e w2 ⟨v2, rfl, r2, b2⟩
    simp only [World.heap_drewN] at b2 r2
    have bb2 : Below w.heap.size w w2 := (below_drewN (Below.refl _ _) (n1 + n2)).trans b2
    go_wp2_with fail
    refine (compare_rep _ _ _ (a * 2 ^ d) b (r2.base (Nat.zero_le _)) (hb.below bb2) sa2).mono ?_
    rintro e w3 ⟨rfl, n3, rfl⟩
    by_cases hc : a * 2 ^ d < b
    · rw [cmpI_lt (by omega)]
      have HC : Hid (a * 2 ^ d < b) := hc
      clear hc
      go_wp2_with fail
      refine (shift_rep _ _ (a * 2 ^ d) 1 ((r2.base (Nat.zero_le _)).drewN n3) sa2 (by omega)).mono ?_
      rintro e w4 ⟨v4, rfl, r4, b4⟩
      simp only [World.heap_drewN] at b4 r4
      go_wp2
      go_ret3
      refine ⟨v4, vb, d + 1, 0, tup3 (by have := HD.out; omega), ?_, by simpa using ((hb.below bb2).drewN n3).below (by simpa using b4), ?_, ?_, by omega, by omega, (below_drewN bb2 n3).trans (b4.mono bb2.size)⟩
      · rw [Nat.pow_succ, ← Nat.mul_assoc]; exact r4.base (Nat.zero_le _)
      · have := M1.out; rw [Nat.pow_succ, ← Nat.mul_assoc]; omega
      · have := HC.out; rw [Nat.pow_succ, ← Nat.mul_assoc]; omega
    · have hcm : (0 : Int) ≤ cmpI ((a * 2 ^ d : Nat) : Int) (b : Int) := by unfold cmpI; split <;> (try split) <;> omega
      generalize cmpI ((a * 2 ^ d : Nat) : Int) (b : Int) = cm at hcm ⊢
      have HC : Hid (¬ a * 2 ^ d < b) := hc
      clear hc
      go_wp2
      go_ret3
      refine ⟨v2, vb, d, 0, tup3 (by have := HD.out; omega), (r2.base (Nat.zero_le _)).drewN n3, by simpa using (hb.below bb2).drewN n3, ?_, ?_, by omega, by omega, below_drewN bb2 n3⟩
      · have := HC.out; omega
      · have := M2.out; omega

end Go.Proofs.YthdcceackfdbbaaGreatDoor
