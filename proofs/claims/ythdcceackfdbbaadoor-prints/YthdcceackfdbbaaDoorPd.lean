/- Walk: shortest. Own text. -/
import Derived.Test.YthdcceackfdbbaaDoorPm
namespace Go.Proofs.YthdcceackfdbbaaDoor
open Go.RowKit
attribute [local go_sem ↓] Go.wp_at_zero Go.wp_at_succ

theorem scale_any (w : World) (g : Nat) (v0 v1 v2 v3 : Value) (ev : Bool) (s : Nat) (h0 : s ≠ 0) (hs : s < 9218868437227405312) (h : Spn w g v0 v1 v2 v3 ev (sizeS s) (belowS s) (aboveS s) (oneS s)) :
    Calls Tryd.prog 53 #[.pointer (some ⟨g, 0, none⟩), .int .i64 (gS (tS s))] w fun e w' => ∃ (a b : Nat) (v0' v1' v2' v3' : Value), e = .returned (.int .i64 ((b : Int) - a)) ∧ a ≤ 400 ∧ b ≤ 9400 ∧ bl (sizeS s * 10 ^ a) ≤ 9000 ∧
      Spn w' g v0' v1' v2' v3' ev (sizeS s * 10 ^ a) (belowS s * 10 ^ a) (aboveS s * 10 ^ a) (oneS s * 10 ^ b) ∧ oneS s * 10 ^ b ≤ sizeS s * 10 ^ a ∧ sizeS s * 10 ^ a < 10 * (oneS s * 10 ^ b) ∧ Below g w w' := by
  obtain ⟨t1, t2⟩ := tS_bd h0 hs
  obtain ⟨g1, g2⟩ := gS_bd t1 t2
  obtain ⟨l1, l2, l3, l4⟩ := size_bl hs
  have hlow := guess_low h0 hs
  have hone := one_ne s
  generalize gS (tS s) = G at *
  have hbl : ∀ n : Nat, n ≤ 400 → bl (sizeS s * 10 ^ n) ≤ 9000 := by
    intro n hn
    have := bl_mul (sizeS s) (10 ^ n)
    have := ten_bl n
    omega
  by_cases hG : 0 ≤ G
  · obtain ⟨n, rfl⟩ := Int.eq_ofNat_of_zero_le hG
    rw [show ((n : Int)).toNat = n from rfl, show (-(n : Int)).toNat = 0 by omega] at hlow
    refine (scale_up w g v0 v1 v2 v3 ev (sizeS s) (belowS s) (aboveS s) (oneS s) (oneS s * 10 ^ n) n h (by omega) (small_of_bl l4 (by omega)) (by omega) rfl (by simpa using hlow) (Nat.mul_ne_zero hone (Nat.ne_of_gt (ten_pow_pos n)))).mono ?_
    rintro e w' ⟨t, x0, x1, x2, x3, rfl, ht, sp, k1, k2, bb⟩
    rw [Nat.mul_assoc, ← Nat.pow_add] at sp k1 k2
    refine ⟨0, n + t, x0, x1, x2, x3, ret_int (by omega), by omega, by omega, hbl 0 (by omega), ?_, ?_, ?_, bb⟩
    · simpa using sp
    · simpa using k1
    · simpa using k2
  · obtain ⟨n, rfl⟩ : ∃ n : Nat, G = -(n : Int) := ⟨(-G).toNat, by omega⟩
    rw [show (-(n : Int)).toNat = 0 by omega, show (-(-(n : Int))).toNat = n by omega] at hlow
    refine (scale_down w g v0 v1 v2 v3 ev (sizeS s) (belowS s) (aboveS s) _ _ _ (oneS s) n h (by omega) (by omega) (small_of_bl l1 (by omega)) (small_of_bl l2 (by omega)) (small_of_bl l3 (by omega)) (hbl n (by omega)) rfl rfl rfl (by simpa using hlow) hone).mono ?_
    rintro e w' ⟨t, x0, x1, x2, x3, rfl, ht, sp, k1, k2, bb⟩
    exact ⟨n, t, x0, x1, x2, x3, ret_int (by omega), by omega, by omega, hbl n (by omega), sp, k1, k2, bb⟩

theorem pick_both {N B A D : Nat} {ev : Bool} {lo down up : Nat} (h1 : N / D = lo) (h2 : N % D = down) (h3 : D - down = up) (hl : inS down B ev = true) (hu : inS up A ev = true) : pickO N B A D ev = some (lo + nearS lo down up) := by
  unfold pickO; rw [h1, h2, h3, hl, hu]; rfl
theorem pick_lower {N B A D : Nat} {ev : Bool} {lo down up : Nat} (h1 : N / D = lo) (h2 : N % D = down) (h3 : D - down = up) (hl : inS down B ev = true) (hu : inS up A ev = false) : pickO N B A D ev = some lo := by
  unfold pickO; rw [h1, h2, h3, hl, hu]; rfl
theorem pick_upper {N B A D : Nat} {ev : Bool} {lo down up : Nat} (h1 : N / D = lo) (h2 : N % D = down) (h3 : D - down = up) (hl : inS down B ev = false) (hu : inS up A ev = true) : pickO N B A D ev = some (lo + 1) := by
  unfold pickO; rw [h1, h2, h3, hl, hu]; rfl
theorem pick_none {N B A D : Nat} {ev : Bool} {lo down up : Nat} (_h1 : N / D = lo) (h2 : N % D = down) (h3 : D - down = up) (hl : inS down B ev = false) (hu : inS up A ev = false) : pickO N B A D ev = none := by
  unfold pickO; rw [h2, h3, hl, hu]; rfl

theorem Hid.mk' {p : Prop} (h : p) : Hid p := h

theorem nearS_le (a b c : Nat) : nearS a b c ≤ 1 := by unfold nearS; split <;> (try split) <;> omega

theorem nearer_anyI (w : World) (n : Nat) (m : Int) (va vb : Value) (a b : Nat) (ha : Rep w 0 va a) (hb : Rep w 0 vb b) (la : Small a) (hn : n < 18446744073709551616) (hm : m = (n : Int)) :
    Calls Tryd.prog 58 #[.int .u64 m, va, vb] w fun e w' => e = .returned (.int .u64 ((nearS n a b : Nat) : Int)) ∧ ∃ n, w' = w.drewN n := by
  subst hm; exact nearer_any w n va vb a b ha hb la hn

theorem ten_le_16 {j : Nat} (h : j ≤ 16) : 10 ^ j ≤ 10000000000000000 := Nat.le_trans (Nat.pow_le_pow_right (by omega) h) (by decide)

set_option maxRecDepth 20000 in
set_option maxHeartbeats 3200000 in
theorem shortest_any (w : World) (s : Nat) (h0 : s ≠ 0) (hs : s < 9218868437227405312) :
    Calls Tryd.prog 31 #[.int .u64 (s : Int)] w fun e w' => ∃ (a b j d : Nat), e = .returned (.tuple #[.int .u64 (d : Int), .int .i64 ((b : Int) - a - j)]) ∧ a ≤ 400 ∧ b ≤ 9400 ∧ j ≤ 16 ∧
      oneS s * 10 ^ b ≤ sizeS s * 10 ^ a ∧ sizeS s * 10 ^ a < 10 * (oneS s * 10 ^ b) ∧ Short (sizeS s * 10 ^ a) (belowS s * 10 ^ a) (aboveS s * 10 ^ a) (oneS s * 10 ^ b) (decide (s % 2 = 0)) j d ∧ Below w.heap.size w w' := by
  obtain ⟨ev, hev⟩ : ∃ ev, decide (s % 2 = 0) = ev := ⟨_, rfl⟩
  have HEV : Hid (decide (s % 2 = 0) = ev) := hev
  clear hev
  go_enter Tryd.func31, Tryd.ntmps31
  go_wp2_with fail
  refine (spanOf_any _ s hs).mono ?_
  rintro e w1 ⟨v0, v1, v2, v3, rfl, r0, r1, r2, r3, b1⟩
  rw [HEV.out]
  obtain ⟨a0, k0, p0, e0⟩ := r0.form
  obtain ⟨a1, k1, p1, e1⟩ := r1.form
  obtain ⟨a2, k2, p2, e2⟩ := r2.form
  obtain ⟨a3, k3, p3, e3⟩ := r3.form
  subst e0 e1 e2 e3
  have spW : Spn (w1.alloc (.cells #[.slice a0 k0 p0, .slice a1 k1 p1, .slice a2 k2 p2, .slice a3 k3 p3, .bool ev] 78)) w1.heap.size (.slice a0 k0 p0) (.slice a1 k1 p1) (.slice a2 k2 p2) (.slice a3 k3 p3) ev (sizeS s) (belowS s) (aboveS s) (oneS s) := by
    have hb := (Below.refl w1.heap.size w1).alloc (Nat.le_refl _) (.cells #[.slice a0 k0 p0, .slice a1 k1 p1, .slice a2 k2 p2, .slice a3 k3 p3, .bool ev] 78)
    exact ⟨by simp, by intro i; simp, by simp, by simp, by simp, by simp, by simp, (num_old r0 (Nat.le_refl _)).below hb, (num_old r1 (Nat.le_refl _)).below hb, (num_old r2 (Nat.le_refl _)).below hb, (num_old r3 (Nat.le_refl _)).below hb⟩
  have HSPW : Hid (Spn (w1.alloc (.cells #[.slice a0 k0 p0, .slice a1 k1 p1, .slice a2 k2 p2, .slice a3 k3 p3, .bool ev] 78)) w1.heap.size (.slice a0 k0 p0) (.slice a1 k1 p1) (.slice a2 k2 p2) (.slice a3 k3 p3) ev (sizeS s) (belowS s) (aboveS s) (oneS s)) := spW
  have hg1 := b1.size
  have B1 : Below w.heap.size w (w1.alloc (.cells #[.slice a0 k0 p0, .slice a1 k1 p1, .slice a2 k2 p2, .slice a3 k3 p3, .bool ev] 78)) := b1.alloc b1.size _
  have HB1 : Hid (Below w.heap.size w (w1.alloc (.cells #[.slice a0 k0 p0, .slice a1 k1 p1, .slice a2 k2 p2, .slice a3 k3 p3, .bool ev] 78))) := B1
  clear spW r0 r1 r2 r3 b1 B1
  go_wp2_with fail
  refine (guess_any _ s hs).mono ?_
  rintro e w2 ⟨rfl, rfl⟩
  go_wp2_with fail
  refine (scale_any _ w1.heap.size _ _ _ _ ev s h0 hs HSPW.out).mono ?_
  rintro e w3 ⟨a, b, x0, x1, x2, x3, rfl, ha, hb, hbl, sp, hle, hlt, b3⟩
  have HOK : Hid (oneS s * 10 ^ b ≤ sizeS s * 10 ^ a ∧ sizeS s * 10 ^ a < 10 * (oneS s * 10 ^ b)) := ⟨hle, hlt⟩
  have hD0 : oneS s * 10 ^ b ≠ 0 := Nat.mul_ne_zero (one_ne s) (Nat.ne_of_gt (ten_pow_pos b))
  have h17 : (sizeS s * 10 ^ a ≤ 18014398509481984 * (aboveS s * 10 ^ a) ∧ belowS s * 10 ^ a = aboveS s * 10 ^ a) ∨ sizeS s * 10 ^ a ≤ 9007199254740992 * (aboveS s * 10 ^ a) := by
    rcases size_above (s := s) with ⟨q1, q2⟩ | q1
    · left; exact ⟨by rw [← Nat.mul_assoc]; exact Nat.mul_le_mul_right _ q1, by rw [q2]⟩
    · right; rw [← Nat.mul_assoc]; exact Nat.mul_le_mul_right _ q1
  have hbB : bl (belowS s * 10 ^ a) ≤ 3000 := by have := bl_mul (belowS s) (10 ^ a); have := ten_bl a; have := (size_bl hs).2.1; omega
  have hbA : bl (aboveS s * 10 ^ a) ≤ 3000 := by have := bl_mul (aboveS s) (10 ^ a); have := ten_bl a; have := (size_bl hs).2.2.1; omega
  have HSH : Hid (∀ j d, Short (sizeS s * 10 ^ a) (belowS s * 10 ^ a) (aboveS s * 10 ^ a) (oneS s * 10 ^ b) ev j d → Short (sizeS s * 10 ^ a) (belowS s * 10 ^ a) (aboveS s * 10 ^ a) (oneS s * 10 ^ b) (decide (s % 2 = 0)) j d) := fun j d h => by rw [HEV.out]; exact h
  have bw3 : Below w.heap.size w w3 := HB1.out.trans (b3.mono hg1)
  generalize hS1 : sizeS s * 10 ^ a = S1 at *
  generalize hB1 : belowS s * 10 ^ a = B1 at *
  generalize hA1 : aboveS s * 10 ^ a = A1 at *
  generalize hD1 : oneS s * 10 ^ b = D1 at *
  have HS1 : Hid (sizeS s * 10 ^ a = S1) := hS1
  have HB1' : Hid (belowS s * 10 ^ a = B1) := hB1
  have HA1 : Hid (aboveS s * 10 ^ a = A1) := hA1
  have HD1 : Hid (oneS s * 10 ^ b = D1) := hD1
  have HLT : Hid (S1 < 10 * D1) := hlt
  have HLE : Hid (D1 ≤ S1) := hle
  have H17 : Hid ((S1 ≤ 18014398509481984 * A1 ∧ B1 = A1) ∨ S1 ≤ 9007199254740992 * A1) := h17
  have smS : Small S1 := small_of_bl hbl (by omega)
  have smD : Small D1 := smS.le hle
  have smD10 : Small (10 * D1) := by
    have q1 := bl_mul 10 D1
    have q2 := bl_mono hle
    have q3 : bl 10 ≤ 4 := bl_le (n := 10) (k := 4) (by omega)
    exact small_of_bl (k := 9004) (by omega) (by omega)
  clear hS1 hB1 hA1 hD1 hlt hle h17 HSPW HB1 b3
  generalize hgg : w1.heap.size = g at *
  clear hgg
  go_wp2_with fail
  go_loopw [2, 3] (fun dgt pw wr => ∃ (j dj u : Nat) (x0 x1 x2 x3 : Value), j ≤ 16 ∧ dgt = .int .u64 (dj : Int) ∧ pw = .int .i64 ((b : Int) - a - j) ∧ Spn wr g x0 x1 x2 x3 ev u (B1 * 10 ^ j) (A1 * 10 ^ j) D1 ∧ u + D1 * 10 * dj = S1 * 10 ^ j ∧ u < 10 * D1 ∧ (∀ i, i < j → pickO (S1 * 10 ^ i) (B1 * 10 ^ i) (A1 * 10 ^ i) D1 ev = none) ∧ Below w.heap.size w wr) (fun _ pw _ => (intOf pw - ((b : Int) - a - 17)).toNat)
  case atStart => exact ⟨0, 0, S1, x0, x1, x2, x3, by omega, rfl, by simp, by simpa using sp, by simp, HLT.out, by intro i hi; omega, bw3⟩
  case round =>
    obtain ⟨j, dj, u, x0, x1, x2, x3, hj, rfl, rfl, sp, he, hu, hno, hbel⟩ := hrel
    have hdj := dj_lt HLT.out he
    have hdj2 : dj < 10000000000000000 := Nat.lt_of_lt_of_le hdj (ten_le_16 hj)
    obtain ⟨st1, st2⟩ := round_step hD0 he
    have st3 := round_next he
    have HNO : Hid (∀ i, i < j → pickO (S1 * 10 ^ i) (B1 * 10 ^ i) (A1 * 10 ^ i) D1 ev = none) := hno
    have HST1 : Hid (S1 * 10 ^ j / D1 = dj * 10 + u / D1) := st1
    have HST2 : Hid (S1 * 10 ^ j % D1 = u % D1) := st2
    have HST3 : Hid (u % D1 * 10 + D1 * 10 * (dj * 10 + u / D1) = S1 * 10 ^ (j + 1)) := st3
    have smu : Small u := smD10.le (by omega)
    have hq9 : u / D1 ≤ 9 := by have := Nat.div_lt_of_lt_mul (show u < D1 * 10 by omega); omega
    have hmod : u % D1 < D1 := Nat.mod_lt u (by omega)
    have smBj : Small (B1 * 10 ^ j) := by have := bl_mul B1 (10 ^ j); have := ten_bl j; exact small_of_bl (k := 3100) (by omega) (by omega)
    have smAj : Small (A1 * 10 ^ j) := by have := bl_mul A1 (10 ^ j); have := ten_bl j; exact small_of_bl (k := 3100) (by omega) (by omega)
    have HSP : Hid (Spn wr g x0 x1 x2 x3 ev u (B1 * 10 ^ j) (A1 * 10 ^ j) D1) := sp
    have HBE : Hid (Below w.heap.size w wr) := hbel
    have hltr := sp.lt
    have y0 := sp.c0
    have y3 := sp.c3
    have m0 := sp.n0.1
    have m3 := sp.n3.1
    have hgw : w.heap.size ≤ g := hg1
    clear he hu hno st1 st2 st3 hdj sp hbel
    go_wp2_with fail
    refine (digit_any _ x0 x3 u D1 m0 m3 hD0 smu (by omega)).mono ?_
    rintro e w4 ⟨vd, rfl, rd, bd⟩
    have nd := num_new rd hltr
    have sp4 := HSP.out.below bd
    have be4 : Below w.heap.size w w4 := HBE.out.trans (bd.mono HBE.out.size)
    clear HSP HBE y0 y3 m0 m3 bd rd
    have HSP4 : Hid (Spn w4 g x0 x1 x2 x3 ev u (B1 * 10 ^ j) (A1 * 10 ^ j) D1) := sp4
    have HBE4 : Hid (Below w.heap.size w w4) := be4
    have hl4 := sp4.lt
    have y3 := sp4.c3
    have m3 := sp4.n3.1
    have HND : Hid (Num w4 g vd (u % D1)) := nd
    have hdig : u / D1 ≤ 9 := hq9
    generalize hdg : u / D1 = dg at *
    generalize hdn : u % D1 = dn at *
    have HND' := HND
    clear sp4 be4 hdg hdn nd hq9
    have hlo : dj * 10 + dg < 18446744073709551616 := by omega
    go_wp2_with fail
    refine (sub_any _ x3 vd D1 dn m3 HND.out.1 (by omega) hD0 smD).mono ?_
    rintro e w5 ⟨vu, rfl, ru, bu⟩
    have sp5 := HSP4.out.below bu
    have nd5 := HND.out.below bu
    have nu5 := num_new ru hl4
    have be5 : Below w.heap.size w w5 := HBE4.out.trans (bu.mono HBE4.out.size)
    clear HSP4 HBE4 HND HND' y3 m3 hl4 ru bu
    have y1 := sp5.c1
    have y2 := sp5.c2
    have y4 := sp5.c4
    have smdn : Small dn := smD.le (by omega)
    have smup : Small (D1 - dn) := smD.le (by omega)
    obtain ⟨up, hup⟩ : ∃ up, D1 - dn = up := ⟨_, rfl⟩
    rw [hup] at nu5 smup
    have HUP : Hid (D1 - dn = up) := hup
    have HSP5 : Hid (Spn w5 g x0 x1 x2 x3 ev u (B1 * 10 ^ j) (A1 * 10 ^ j) D1) := sp5
    have HND5 : Hid (Num w5 g vd dn) := nd5
    have HNU5 : Hid (Num w5 g vu up) := nu5
    have HBE5 : Hid (Below w.heap.size w w5) := be5
    clear hup sp5 nd5 nu5 be5
    obtain ⟨Bj, hBj⟩ : ∃ Bj, B1 * 10 ^ j = Bj := ⟨_, rfl⟩
    obtain ⟨Aj, hAj⟩ : ∃ Aj, A1 * 10 ^ j = Aj := ⟨_, rfl⟩
    rw [hBj] at smBj HSP5
    rw [hAj] at smAj HSP5
    have HBJ : Hid (B1 * 10 ^ j = Bj) := hBj
    have HAJ : Hid (A1 * 10 ^ j = Aj) := hAj
    clear hBj hAj
    have hw1 : ∀ n, Calls Tryd.prog 57 #[.pointer (some ⟨g, 0, none⟩), vd, x1] (w5.drewN n) fun e w'' => e = .returned (.bool (inS dn Bj ev)) ∧ ∃ m, w'' = w5.drewN m := fun n => Calls.quiet_of (within_any _ g vd x1 dn Bj ev (HND5.out.drewN _).1 (HSP5.out.drewN _).n1.1 smdn (HSP5.out.drewN _).c4)
    have hw2 : ∀ n, Calls Tryd.prog 57 #[.pointer (some ⟨g, 0, none⟩), vu, x2] (w5.drewN n) fun e w'' => e = .returned (.bool (inS up Aj ev)) ∧ ∃ m, w'' = w5.drewN m := fun n => Calls.quiet_of (within_any _ g vu x2 up Aj ev (HNU5.out.drewN _).1 (HSP5.out.drewN _).n2.1 smup (HSP5.out.drewN _).c4)
    have HW1 := Hid.mk' hw1
    have HW2 := Hid.mk' hw2
    clear hw1 hw2
    go_wp2_with fail
    go_quiet (first
      | (go_at_call 57; with_reducible exact HW1.out _)
      | (go_at_call 57; with_reducible exact HW2.out _))
    clear HW1 HW2
    have HSP6 := Hid.mk' (HSP5.out.drewN nq)
    have HND6 := Hid.mk' (HND5.out.drewN nq)
    have HNU6 := Hid.mk' (HNU5.out.drewN nq)
    have HBE6 := Hid.mk' (below_drewN HBE5.out nq)
    clear HSP5 HND5 HNU5 HBE5
    generalize w5.drewN nq = w6 at *
    cases hl : inS dn Bj ev <;> cases hu : inS up Aj ev
    · have sp6 := HSP6.out
      have z0 := sp6.c0
      have z1 := sp6.c1
      have z2 := sp6.c2
      have m1 := sp6.n1
      have m2 := sp6.n2
      have hl6 := sp6.lt
      have fr6 := sp6.fr
      have m6 := HND6.out
      clear sp6
      have hj16 : j < 16 := by
        rcases Nat.lt_or_eq_of_le hj with h' | h'
        · exact h'
        · exfalso
          have hp := pick_none (ev := ev) (A := A1 * 10 ^ j) (B := B1 * 10 ^ j) HST1.out HST2.out HUP.out (by rw [HBJ.out]; exact hl) (by rw [HAJ.out]; exact hu)
          rw [h'] at hp
          exact pick_17 hD0 HLE.out H17.out hp
      go_wp2_with fail
      go_region_with
        (first
          | (go_at_call_of 59 vd; refine (tenfold_any _ vd dn (m6.1.below (Below.refl _ _).drew) smdn).mono ?_; rintro e wA ⟨vA, rfl, rA, bA⟩; obtain ⟨aA, kA, pA, eA⟩ := rA.form; subst eA; have bA' := (Below.refl _ _).drew.trans bA; have spA := HSP6.out.below bA'; have cA1 := spA.c1; have cA2 := spA.c2)
          | (go_at_call_of 59 x1; refine (tenfold_any _ x1 Bj (m1.1.below bA') smBj).mono ?_; rintro e wB ⟨vB, rfl, rB, bB⟩; obtain ⟨aB, kB, pB, eB⟩ := rB.form; subst eB; have spB := spA.below bB; have cB2 := spB.c2)
          | (go_at_call_of 59 x2; refine (tenfold_any _ x2 Aj ((m2.1.below bA').below bB) smAj).mono ?_; rintro e wC ⟨vC, rfl, rC, bC⟩; obtain ⟨aC, kC, pC, eC⟩ := rC.form; subst eC; have spC := spB.below bC; have cC0 := spC.c0; have cC1 := spC.c1; have cC2 := spC.c2; have fC := spC.fr))
      all_goals
        have nA := ((num_new rA hl6).below bB).below bC
        have nB := (num_new rB spA.lt).below bC
        have nC := num_new rC spB.lt
        have SPF := Hid.mk' (((spC.set0 nA).set1 (nB.set 0 (.slice aA kA pA))).set2 ((nC.set 0 (.slice aA kA pA)).set 1 (.slice aB kB pB)))
        have bC6 : Below w6.heap.size w6 wC := (bA'.trans (bB.mono bA'.size)).trans (bC.mono (Nat.le_trans bA'.size bB.size))
        have BEF := Hid.mk' ((((HBE6.out.trans (bC6.mono HBE6.out.size)).setCell (p := ⟨g, 0, none⟩) hgw (.slice aA kA pA)).setCell (p := ⟨g, 1, none⟩) hgw (.slice aB kB pB)).setCell (p := ⟨g, 2, none⟩) hgw (.slice aC kC pC))
        clear nA nB nC spA spB spC bA bA' bB bC rA rB rC bC6
        go_wp2
        go_roundw
        case rel =>
          refine ⟨j + 1, dj * 10 + dg, dn * 10, .slice aA kA pA, .slice aB kB pB, .slice aC kC pC, x3, by omega, by go_num, by go_num, ?_, HST3.out, by omega, ?_, BEF.out⟩
          · rw [Nat.pow_succ, ← Nat.mul_assoc, ← Nat.mul_assoc, HBJ.out, HAJ.out]; exact SPF.out
          · intro i hi
            rcases Nat.lt_or_eq_of_le (Nat.le_of_lt_succ hi) with h' | h'
            · exact HNO.out i h'
            · rw [h']
              exact pick_none HST1.out HST2.out HUP.out (by rw [HBJ.out]; exact hl) (by rw [HAJ.out]; exact hu)
        case measure => simp [intOf]; omega
    · go_wp2
      go_ret2
      refine ⟨a, b, j, dj * 10 + dg + 1, tup2 (by omega) (by omega), ha, hb, hj, ?_⟩
      rw [HS1.out, HB1'.out, HA1.out, HD1.out]
      refine ⟨HOK.out.1, HOK.out.2, HSH.out _ _ ⟨?_, HNO.out⟩, HBE6.out⟩
      rw [HBJ.out, HAJ.out]
      exact pick_upper HST1.out HST2.out HUP.out hl hu
    · go_wp2
      go_ret2
      refine ⟨a, b, j, dj * 10 + dg, tup2 (by omega) (by omega), ha, hb, hj, ?_⟩
      rw [HS1.out, HB1'.out, HA1.out, HD1.out]
      refine ⟨HOK.out.1, HOK.out.2, HSH.out _ _ ⟨?_, HNO.out⟩, HBE6.out⟩
      rw [HBJ.out, HAJ.out]
      exact pick_lower HST1.out HST2.out HUP.out hl hu
    · go_wp2_with fail
      refine (nearer_anyI _ (dj * 10 + dg) _ vd vu dn up HND6.out.1 HNU6.out.1 smdn hlo (by omega)).mono ?_
      rintro e w7 ⟨rfl, n7, rfl⟩
      have hne := nearS_le (dj * 10 + dg) dn up
      generalize hnr : nearS (dj * 10 + dg) dn up = nr at *
      have HNR : Hid (nearS (dj * 10 + dg) dn up = nr) := hnr
      clear hnr
      go_wp2
      go_ret2
      refine ⟨a, b, j, dj * 10 + dg + nr, tup2 (by omega) (by omega), ha, hb, hj, ?_⟩
      rw [HS1.out, HB1'.out, HA1.out, HD1.out]
      refine ⟨HOK.out.1, HOK.out.2, HSH.out _ _ ⟨?_, HNO.out⟩, below_drewN HBE6.out n7⟩
      rw [HBJ.out, HAJ.out, ← HNR.out]
      exact pick_both HST1.out HST2.out HUP.out hl hu

end Go.Proofs.YthdcceackfdbbaaDoor
