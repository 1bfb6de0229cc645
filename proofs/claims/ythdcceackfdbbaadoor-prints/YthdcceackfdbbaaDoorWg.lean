/- Numbers: the walks said of Rep; Digit, Sub, Power. Own text. -/
import Derived.Test.YthdcceackfdbbaaDoorWf
namespace Go.Proofs.YthdcceackfdbbaaDoor
open Go.RowKit

theorem Rep.len {w : World} {B : Nat} {v : Value} {l : List Nat} {n : Nat} (_h : Own w B v l) (hc : Canon l) (hv : val l = n) (hn : Small n) : l.length ≤ 4096 := by
  have := canon_len_small hc (by rw [hv]; exact hn); omega

theorem Own.drewN {w : World} {B : Nat} {v : Value} {l : List Nat} (h : Own w B v l) (n : Nat) : Own (w.drewN n) B v l := h.below (below_drewN (Below.refl _ _) n)
theorem Rep.drewN {w : World} {B : Nat} {v : Value} {a : Nat} (h : Rep w B v a) (n : Nat) : Rep (w.drewN n) B v a := h.below (below_drewN (Below.refl _ _) n)

theorem mulAdd_rep (w : World) (v : Value) (a f m : Nat) (h : Rep w 0 v a) (ha : Small a) (hf : f < 4294967296) (hm : m < 4294967296) :
    Calls Tryd.prog 64 #[v, .int .u32 f, .int .u32 m] w fun e w' => ∃ v', e = .returned v' ∧ Rep w' w.heap.size v' (a * f + m) ∧ Below w.heap.size w w' := by
  obtain ⟨l, h1, h2, h3⟩ := h
  refine (mulAdd_any w v l f m h1 (Rep.len h1 h2 h3 ha) hf hm).mono ?_
  rintro e w' ⟨v', l', he, ho, hc, hv, hb⟩
  exact ⟨v', he, ⟨l', ho, hc, by rw [hv, h3]⟩, hb⟩

theorem mul_rep (w : World) (va vb : Value) (a b : Nat) (ha : Rep w 0 va a) (hb : Rep w 0 vb b) (la : Small a) (lb : Small b) :
    Calls Tryd.prog 66 #[va, vb] w fun e w' => ∃ v', e = .returned v' ∧ Rep w' w.heap.size v' (a * b) ∧ Below w.heap.size w w' := by
  obtain ⟨l, h1, h2, h3⟩ := ha
  obtain ⟨k, k1, k2, k3⟩ := hb
  refine (mul_any w va vb l k h1 k1 (Rep.len h1 h2 h3 la) (Rep.len k1 k2 k3 lb)).mono ?_
  rintro e w' ⟨v', l', he, ho, hc, hv, hb⟩
  exact ⟨v', he, ⟨l', ho, hc, by rw [hv, h3, k3]⟩, hb⟩

theorem shift_rep (w : World) (va : Value) (a n : Nat) (ha : Rep w 0 va a) (la : Small a) (hn : n ≤ 100000) :
    Calls Tryd.prog 79 #[va, .int .i64 n] w fun e w' => ∃ v', e = .returned v' ∧ Rep w' w.heap.size v' (a * 2 ^ n) ∧ Below w.heap.size w w' := by
  obtain ⟨l, h1, h2, h3⟩ := ha
  refine (shift_any w va l n h1 (Rep.len h1 h2 h3 la) hn).mono ?_
  rintro e w' ⟨v', l', he, ho, hc, hv, hb⟩
  exact ⟨v', he, ⟨l', ho, hc, by rw [hv, h3]⟩, hb⟩

theorem compare_rep (w : World) (va vb : Value) (a b : Nat) (ha : Rep w 0 va a) (hb : Rep w 0 vb b) (la : Small a) :
    Calls Tryd.prog 81 #[va, vb] w fun e w' => e = .returned (.int .i64 (cmpI a b)) ∧ ∃ n, w' = w.drewN n := by
  obtain ⟨l, h1, h2, h3⟩ := ha
  obtain ⟨k, k1, k2, k3⟩ := hb
  have := compare_any w va vb l k h1 k1 h2 k2 (Rep.len h1 h2 h3 la)
  rw [h3, k3] at this
  exact this

theorem bitlen_rep (w : World) (va : Value) (a : Nat) (ha : Rep w 0 va a) (la : Small a) :
    Calls Tryd.prog 105 #[va] w fun e w' => e = .returned (.int .i64 (bl a)) ∧ ∃ n, w' = w.drewN n := by
  obtain ⟨l, h1, h2, h3⟩ := ha
  have := bitlen_any w va l h1 h2 (Rep.len h1 h2 h3 la)
  rw [h3] at this
  exact this

theorem div_of {a b d r : Nat} (h : r + d * b = a) (hr : r < b) : a / b = d ∧ a % b = r := by
  subst h
  have hb : 0 < b := by omega
  rw [Nat.add_mul_div_right _ _ hb, Nat.add_mul_mod_self_right, Nat.div_eq_of_lt hr, Nat.mod_eq_of_lt hr]
  omega

theorem digit_le {a b d r : Nat} (h : r + d * b = a) (hb : b ≠ 0) (hr : b ≤ r) : d + 1 ≤ a / b := by
  rw [Nat.le_div_iff_mul_le (by omega), Nat.add_mul]; omega

theorem canon_le_len {la lb : List Nat} (hw : Wds la) (hc : Canon lb) (h : val lb ≤ val la) : lb.length ≤ la.length := by
  by_cases hh : lb.length ≤ la.length
  · exact hh
  · have := val_lt_len hw hc (by omega); omega

/-- take, then trim: r less b. -/
theorem Own.nonnil {w : World} {B : Nat} {v : Value} {l : List Nat} (h : Own w B v l) (hne : l ≠ []) : ∃ g cap, v = .slice (some ⟨g, 0, none⟩) l.length cap ∧ B ≤ g ∧ g < w.heap.size := by
  rcases h.shape with ⟨_, rfl⟩ | ⟨g, cap, rfl, h1, h2, _⟩
  · exact absurd rfl hne
  · exact ⟨g, cap, rfl, h1, h2⟩

theorem Own.blockLt {w : World} {B : Nat} {v : Value} {l : List Nat} (h : Own w B v l) {k : Nat} (hk : v.ownBlock = some k) : k < w.heap.size := (h.1.lt k hk).2

set_option maxHeartbeats 800000 in
theorem digit_any (w : World) (va vb : Value) (a b : Nat) (ha : Rep w 0 va a) (hb : Rep w 0 vb b) (hb0 : b ≠ 0) (la : Small a) (hq : a / b ≤ 1000000) :
    Calls Tryd.prog 55 #[va, vb] w fun e w' => ∃ v', e = .returned (.tuple #[.int .i64 ((a / b : Nat) : Int), v']) ∧ Rep w' w.heap.size v' (a % b) ∧ Below w.heap.size w w' := by
  obtain ⟨l, h1, h2, h3⟩ := ha
  obtain ⟨k, k1, k2, k3⟩ := hb
  have hll := Rep.len h1 h2 h3 la
  have HQ : Hid (a / b ≤ 1000000) := hq
  have HK3 : Hid (val k = b) := k3
  have HH3 : Hid (val l = a) := h3
  clear hq k3 h3
  go_enter Tryd.func55, Tryd.ntmps55
  go_wp2_with fail
  refine (clone_any _ _ _ h1 hll).mono ?_
  rintro e w1 ⟨v1, rfl, ho1, hb1⟩
  go_wp2_with fail
  go_loopw [6, 7] (fun s v wr => ∃ (d r : Nat) (l' : List Nat), s = .int .i64 d ∧ Own wr w.heap.size v l' ∧ Canon l' ∧ val l' = r ∧ r + d * b = a ∧ Below w.heap.size w wr) (fun s _ _ => a - (intOf s).toNat)
  case atStart => exact ⟨0, a, l, rfl, ho1, h2, HH3.out, by simp, hb1⟩
  case round =>
    clear ho1 hb1
    obtain ⟨d, r, l', rfl, ho, hc, hv, he, hbel⟩ := hrel
    have HE : Hid (r + d * b = a) := he
    have HV : Hid (val l' = r) := hv
    have hra : Small r := la.le (by omega)
    have hl' := Rep.len ho hc hv hra
    have k1r : Own wr 0 vb k := k1.below hbel
    clear he hv
    go_wp2_with fail
    refine (compare_rep wr u7 vb r b ⟨l', ho.base (Nat.zero_le _), hc, HV.out⟩ ⟨k, k1r, k2, HK3.out⟩ hra).mono ?_
    rintro e w2 ⟨rfl, nq, rfl⟩
    by_cases hge : b ≤ r
    · have hd := digit_le HE.out hb0 hge
      have hd2 : d + 1 ≤ 1000000 := Nat.le_trans hd HQ.out
      have hda : d < a := by have := Nat.div_le_self a b; omega
      have hcm : (0 : Int) ≤ cmpI (r : Int) (b : Int) := by unfold cmpI; split <;> (try split) <;> omega
      generalize cmpI (r : Int) (b : Int) = cm at hcm ⊢
      have hne : l' ≠ [] := by intro e; have := HV.out; rw [e] at this; simp [val] at this; omega
      obtain ⟨g, cap, hu, hg1, hg2⟩ := ho.nonnil hne
      subst hu
      clear hd hne
      go_wp2_with fail
      have hlek : k.length ≤ l'.length := canon_le_len ho.2 k2 (by rw [HV.out, HK3.out]; exact hge)
      refine (take_any _ w.heap.size g l'.length cap vb l' k (ho.drewN nq) (k1r.drewN nq) (by intro e; have := k1.blockLt e; omega) hl' hlek (by rw [HV.out, HK3.out]; exact hge)).mono ?_
      rintro e w3 ⟨rfl, ⟨p, hp1, hp2, hp3⟩, hgr⟩
      have HP2 : Hid (val p = val l' - val k) := hp2
      have hb3 : Below w.heap.size w w3 := (below_drewN hbel nq).grown hgr (by have := hbel.size; simpa using this) (by intro q hq; cases hq; exact hg1)
      clear hp2
      go_wp2_with fail
      refine (trim_any _ _ _ _ hp1).mono ?_
      rintro e w4 ⟨v4, rfl, ho4, rfl⟩
      go_wp2
      go_roundw
      case rel =>
        refine ⟨d + 1, r - b, _, by go_num, ho4, trimL_canon _, ?_, ?_, hb3⟩
        · rw [trimL_val, HP2.out, HV.out, HK3.out]
        · have := HE.out; rw [Nat.add_mul]; omega
      case measure => simp [intOf]; omega
    · have hcm : cmpI (r : Int) (b : Int) = -1 := cmpI_lt (by omega)
      rw [hcm]
      obtain ⟨q1, q2⟩ := div_of HE.out (by omega)
      have Q1 : Hid (a / b = d) := q1
      have Q2 : Hid (a % b = r) := q2
      clear q1 q2 hcm
      go_wp2
      go_ret2
      refine ⟨u7, by rw [Q1.out]; rfl, ⟨l', ho.drewN nq, hc, by rw [Q2.out, HV.out]⟩, below_drewN hbel nq⟩

set_option maxHeartbeats 800000 in
theorem sub_any (w : World) (va vb : Value) (a b : Nat) (ha : Rep w 0 va a) (hb : Rep w 0 vb b) (hle : b ≤ a) (ha0 : a ≠ 0) (la : Small a) :
    Calls Tryd.prog 56 #[va, vb] w fun e w' => ∃ v', e = .returned v' ∧ Rep w' w.heap.size v' (a - b) ∧ Below w.heap.size w w' := by
  obtain ⟨l, h1, h2, h3⟩ := ha
  obtain ⟨k, k1, k2, k3⟩ := hb
  have hll := Rep.len h1 h2 h3 la
  have hlek : k.length ≤ l.length := canon_le_len h1.2 k2 (by rw [h3, k3]; exact hle)
  have HK3 : Hid (val k = b) := k3
  have HH3 : Hid (val l = a) := h3
  clear k3 h3
  have hne : l ≠ [] := by intro e; have := HH3.out; rw [e] at this; simp [val] at this; omega
  go_enter Tryd.func56, Tryd.ntmps56
  go_wp2_with fail
  refine (clone_any _ _ _ h1 hll).mono ?_
  rintro e w1 ⟨v1, rfl, ho1, hb1⟩
  obtain ⟨g, cap, hu, hg1, hg2⟩ := ho1.nonnil hne
  subst hu
  clear hne
  go_wp2_with fail
  refine (take_any _ w.heap.size g l.length cap vb l k ho1 (k1.below hb1) (by intro e; have := k1.blockLt e; omega) hll hlek (by rw [HH3.out, HK3.out]; exact hle)).mono ?_
  rintro e w3 ⟨rfl, ⟨p, hp1, hp2, hp3⟩, hgr⟩
  have HP2 : Hid (val p = val l - val k) := hp2
  have hb3 : Below w.heap.size w w3 := hb1.grown hgr hb1.size (by intro q hq; cases hq; exact hg1)
  clear hp2
  go_wp2_with fail
  refine (trim_any _ _ _ _ hp1).mono ?_
  rintro e w4 ⟨v4, rfl, ho4, rfl⟩
  go_wp2
  go_ret
  exact ⟨v4, rfl, ⟨_, ho4, trimL_canon _, by rw [trimL_val, HP2.out, HH3.out, HK3.out]⟩, hb3⟩

theorem and_one_i64 (i : Nat) (hi : i < 9223372036854775808) : bits BinOp.and IntKind.i64 (i : Int) 1 = ((i % 2 : Nat) : Int) := by
  have two63 : (2 : Int) ^ 63 = 9223372036854775808 := by decide
  have h := bits_mask .i64 63 (by decide) (fun n h0 h1 => by rw [two63] at h1; rw [IntKind.wrap_i64]; omega) 1 (by decide) (i : Int) (by omega) (by rw [two63]; omega)
  have e : ((2 : Int) ^ 1 - 1) = 1 := by decide
  rw [e] at h
  rw [h]
  omega

theorem pow_half (b n j : Nat) : b ^ (n / 2 ^ j) = b ^ (n / 2 ^ (j + 1)) * b ^ (n / 2 ^ (j + 1)) * b ^ (n / 2 ^ j % 2) := by
  rw [← Nat.pow_add, ← Nat.pow_add]
  congr 1
  rw [Nat.pow_succ, ← Nat.div_div_eq_div_mul]
  omega

theorem pow_le_n {b n m : Nat} (hb : 1 ≤ b) (h : Small (b ^ n)) (hm : m ≤ n) : Small (b ^ m) := h.le (Nat.pow_le_pow_right hb hm)

set_option maxHeartbeats 800000 in
theorem power_any (w : World) (b n : Nat) (hb : 1 ≤ b) (hb2 : b < 4294967296) (hn : n ≤ 100000) (hL : Small (b ^ n)) :
    Calls Tryd.prog 93 #[.int .u32 b, .int .i64 n] w fun e w' => ∃ v', e = .returned v' ∧ Rep w' w.heap.size v' (b ^ n) ∧ Below w.heap.size w w' := by
  have hbits : Lib.bitLen n ≤ 64 := Lib.bitLen_le n 64 (by omega) (by omega)
  have hz : n / 2 ^ Lib.bitLen n = 0 := by rw [bitLen_bl (by omega)]; exact Nat.div_eq_of_lt (bl_hi n)
  have HZ : Hid (n / 2 ^ Lib.bitLen n = 0) := hz
  clear hz
  go_enter Tryd.func93, Tryd.ntmps93
  go_wp2_with fail
  refine (of_any _ 1 (by omega)).mono ?_
  rintro e w1 ⟨v1, rfl, ho1, hb1⟩
  go_wp2_with fail
  refine (Tryd.bits_Len _ _ (by omega) (by omega)).mono ?_
  rintro e w2 ⟨rfl, rfl⟩
  rw [Int.toNat_natCast]
  generalize hbt : Lib.bitLen n = t at *
  have HT : Hid (Lib.bitLen n = t) := hbt
  clear hbt
  go_wp2_with fail
  go_loopw [5, 6] (fun v i wr => ∃ (k : Nat), k ≤ t ∧ i = .int .i64 ((k : Int) - 1) ∧ Rep wr w.heap.size v (b ^ (n / 2 ^ k)) ∧ Below w.heap.size w wr) (fun _ i _ => (intOf i + 1).toNat)
  case atStart => exact ⟨t, Nat.le_refl _, rfl, by rw [HZ.out]; exact ho1, hb1⟩
  case round =>
    clear ho1 hb1
    obtain ⟨k, hk, rfl, ho, hbel⟩ := hrel
    cases k with
    | zero =>
      go_wp2
      go_ret
      exact ⟨u5, rfl, by simpa using ho, hbel⟩
    | succ j =>
      have e : ((j + 1 : Nat) : Int) - 1 = (j : Int) := by omega
      rw [e]
      clear e
      go_wp2_with fail
      have hl1 : Small (b ^ (n / 2 ^ (j + 1))) := pow_le_n hb hL (Nat.div_le_self _ _)
      refine (mul_rep _ u5 u5 _ _ (ho.base (Nat.zero_le _)) (ho.base (Nat.zero_le _)) hl1 hl1).mono ?_
      rintro e w3 ⟨v3, rfl, ho3, hb3⟩
      clear hl1
      have hj : j < 64 := by omega
      have hq : n / 2 ^ j < 9223372036854775808 := Nat.lt_of_le_of_lt (Nat.div_le_self _ _) (by omega)
      have eb : bits BinOp.and IntKind.i64 ((n : Int) / 2 ^ j) 1 = ((n / 2 ^ j % 2 : Nat) : Int) := by
        rw [show (n : Int) / 2 ^ j = ((n / 2 ^ j : Nat) : Int) from by simp]
        exact and_one_i64 _ hq
      have EB : Hid (bits BinOp.and IntKind.i64 ((n : Int) / 2 ^ j) 1 = ((n / 2 ^ j % 2 : Nat) : Int)) := eb
      have hl2 : Small (b ^ (n / 2 ^ (j + 1)) * b ^ (n / 2 ^ (j + 1))) := by
        refine Small.le (pow_le_n hb hL (Nat.div_le_self n (2 ^ j))) ?_
        rw [pow_half b n j]
        exact Nat.le_mul_of_pos_right _ (Nat.pow_pos hb)
      have hb4 : Below w.heap.size w w3 := hbel.trans (hb3.mono hbel.size)
      have ho4 := ho3.base hbel.size
      have hph := pow_half b n j
      have HPH : Hid (b ^ (n / 2 ^ j) = b ^ (n / 2 ^ (j + 1)) * b ^ (n / 2 ^ (j + 1)) * b ^ (n / 2 ^ j % 2)) := hph
      clear hph hq eb
      rcases Nat.mod_two_eq_zero_or_one (n / 2 ^ j) with hbit | hbit
      rotate_left
      · have hbt : (bits BinOp.and IntKind.i64 ((n : Int) / 2 ^ j) 1 == 1) = true := by rw [EB.out, hbit]; rfl
        have HBIT : Hid (n / 2 ^ j % 2 = 1) := hbit
        clear hbit
        go_wp2_with fail
        refine (mulAdd_rep _ v3 _ b 0 (ho3.base (Nat.zero_le _)) hl2 hb2 (by omega)).mono ?_
        rintro e w5 ⟨v5, rfl, ho5, hb5⟩
        go_wp2
        go_roundw
        case rel =>
          refine ⟨j, by omega, rfl, ?_, hb4.trans (hb5.mono hb4.size)⟩
          rw [HPH.out, HBIT.out]
          simpa using ho5.base hb4.size
        case measure => simp [intOf]
      · have hbt : (bits BinOp.and IntKind.i64 ((n : Int) / 2 ^ j) 1 == 1) = false := by rw [EB.out, hbit]; rfl
        have HBIT : Hid (n / 2 ^ j % 2 = 0) := hbit
        clear hbit
        go_wp2
        go_roundw
        case rel =>
          refine ⟨j, by omega, rfl, ?_, hb4⟩
          rw [HPH.out, HBIT.out]
          simpa using ho4
        case measure => simp [intOf]

end Go.Proofs.YthdcceackfdbbaaDoor
