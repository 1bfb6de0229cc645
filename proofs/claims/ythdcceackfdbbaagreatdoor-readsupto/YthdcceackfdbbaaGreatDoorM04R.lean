import Derived.Test.YthdcceackfdbbaaGreatDoorM03R

namespace Go.Proofs.YthdcceackfdbbaaGreatDoor
open Go.RowKit
theorem small_of_bl {a k : Nat} (h : bl a ≤ k) (hk : k ≤ 65536) : Small a := Small.of_lt (k := k) (Nat.lt_of_lt_of_le (bl_hi a) (Nat.pow_le_pow_right (by omega) h)) hk
theorem bl_shift (a n : Nat) : bl (a * 2 ^ n) ≤ bl a + n := by
  refine bl_le ?_
  rw [Nat.pow_add]
  exact (Nat.mul_lt_mul_right (Nat.pow_pos (by omega))).2 (bl_hi a)
theorem shift_repI (w : World) (va : Value) (a n : Nat) (m : Int) (ha : Rep w 0 va a) (la : Small a) (hn : n ≤ 100000) (hm : m = (n : Int)) :
    Calls Tryz.prog 196 #[va, .int .i64 m] w fun e w' => ∃ v', e = .returned v' ∧ Rep w' w.heap.size v' (a * 2 ^ n) ∧ Below w.heap.size w w' := by
  subst hm; exact shift_rep w va a n ha la hn
theorem tup3 {a b : Value} {c c' : Int} (h : c = c') : Ending.returned (.tuple #[a, b, .int .i64 c]) = .returned (.tuple #[a, b, .int .i64 c']) := by rw [h]
set_option maxHeartbeats 800000 in
theorem normalize_any (w : World) (va vb : Value) (a b : Nat) (ha : Rep w 0 va a) (hb : Rep w 0 vb b) (ha0 : a ≠ 0) (hb0 : b ≠ 0) (la : bl a ≤ 20000) (lb : bl b ≤ 20000) :
    Calls Tryz.prog 195 #[va, vb] w fun e w' => ∃ (va' vb' : Value) (i j : Nat), e = .returned (.tuple #[va', vb', .int .i64 ((j : Int) - (i : Int))]) ∧ Rep w' 0 va' (a * 2 ^ i) ∧ Rep w' 0 vb' (b * 2 ^ j) ∧
      b * 2 ^ j ≤ a * 2 ^ i ∧ a * 2 ^ i < 2 * (b * 2 ^ j) ∧ i ≤ 20001 ∧ j ≤ 20000 ∧ Below w.heap.size w w' := by
  have sa := small_of_bl la (by omega)
  have sb := small_of_bl lb (by omega)
  generalize hA : bl a = A at *
  generalize hB : bl b = B at *
  have HA : Hid (bl a = A) := hA
  have HB : Hid (bl b = B) := hB
  clear hA hB
  go_enter Tryz.func195, Tryz.ntmps195
  go_wp2_with fail
  refine (bitlen_rep _ _ a ha sa).mono ?_
  rintro e w1 ⟨rfl, n1, rfl⟩
  go_wp2_with fail
  refine (bitlen_rep _ _ b (hb.drewN n1) sb).mono ?_
  rintro e w1 ⟨rfl, n2, rfl⟩
  rw [HA.out, HB.out]
  by_cases hge : B ≤ A
  · obtain ⟨m1, m2⟩ := norm_ge ha0 hb0 (by rw [HA.out, HB.out]; exact hge)
    rw [HA.out, HB.out] at m1 m2
    obtain ⟨d, hd⟩ : ∃ d : Nat, d = A - B := ⟨_, rfl⟩
    rw [← hd] at m1 m2
    have hd2 : d ≤ 20000 := by omega
    have sb2 : Small (b * 2 ^ d) := small_of_bl (Nat.le_trans (bl_shift b d) (by rw [HB.out]; exact Nat.add_le_add lb hd2)) (by omega)
    have M1 : Hid (a < 2 * (b * 2 ^ d)) := m1
    have M2 : Hid (b * 2 ^ d < 2 * a) := m2
    have HD : Hid (d = A - B) := hd
    clear hd m1 m2
    go_wp2_with fail
    refine (shift_repI _ _ b d ((A : Int) - (B : Int)) (hb.drewN (n1 + n2)) sb (by omega) (by have := HD.out; omega)).mono ?_
    rintro e w2 ⟨v2, rfl, r2, b2⟩
    simp only [World.heap_drewN] at b2 r2
    have bb2 : Below w.heap.size w w2 := (below_drewN (Below.refl _ _) (n1 + n2)).trans b2
    go_wp2_with fail
    refine (compare_rep _ _ _ a (b * 2 ^ d) (ha.below bb2) (r2.base (Nat.zero_le _)) sa).mono ?_
    rintro e w3 ⟨rfl, n3, rfl⟩
    by_cases hc : a < b * 2 ^ d
    · rw [cmpI_lt (by omega)]
      have HC : Hid (a < b * 2 ^ d) := hc
      clear hc
      go_wp2_with fail
      refine (shift_rep _ _ a 1 ((ha.below bb2).drewN n3) sa (by omega)).mono ?_
      rintro e w4 ⟨v4, rfl, r4, b4⟩
      simp only [World.heap_drewN] at b4 r4
      go_wp2
      go_ret3
      refine ⟨v4, v2, 1, d, tup3 (by have := HD.out; omega), r4.base (Nat.zero_le _), ((r2.base (Nat.zero_le _)).drewN n3).below (by simpa using b4), ?_, ?_, by omega, by omega, (below_drewN bb2 n3).trans (b4.mono bb2.size)⟩
      · have := M2.out; omega
      · have := HC.out; omega
    · have hcm : (0 : Int) ≤ cmpI (a : Int) ((b * 2 ^ d : Nat) : Int) := by unfold cmpI; split <;> (try split) <;> omega
      generalize cmpI (a : Int) ((b * 2 ^ d : Nat) : Int) = cm at hcm ⊢
      have HC : Hid (¬ a < b * 2 ^ d) := hc
      clear hc
      go_wp2
      go_ret3
      refine ⟨va, v2, 0, d, tup3 (by have := HD.out; omega), by simpa using (ha.below bb2).drewN n3, (r2.base (Nat.zero_le _)).drewN n3, ?_, ?_, by omega, by omega, below_drewN bb2 n3⟩
      · have := HC.out; omega
      · have := M1.out; omega
  · obtain ⟨m1, m2⟩ := norm_ge hb0 ha0 (by rw [HA.out, HB.out]; omega)
    rw [HA.out, HB.out] at m1 m2
    obtain ⟨d, hd⟩ : ∃ d : Nat, d = B - A := ⟨_, rfl⟩
    rw [← hd] at m1 m2
    have hd2 : d ≤ 20000 := by omega
    have hd3 : 1 ≤ d := by omega
    have sa2 : Small (a * 2 ^ d) := small_of_bl (Nat.le_trans (bl_shift a d) (by rw [HA.out]; exact Nat.add_le_add la hd2)) (by omega)
    have M1 : Hid (b < 2 * (a * 2 ^ d)) := m1
    have M2 : Hid (a * 2 ^ d < 2 * b) := m2
    have HD : Hid (d = B - A) := hd
    clear hd m1 m2
    go_wp2_with fail
    refine (shift_repI _ _ a d (-((A : Int) - (B : Int))) (ha.drewN (n1 + n2)) sa (by omega) (by have := HD.out; omega)).mono ?_
    rintro e w2 ⟨v2, rfl, r2, b2⟩
    simp only [World.heap_drewN] at b2 r2
    have bb2 : Below w.heap.size w w2 := (below_drewN (Below.refl _ _) (n1 + n2)).trans b2
    go_wp2_with fail
    refine (compare_rep _ _ _ (a * 2 ^ d) b (r2.base (Nat.zero_le _)) (hb.below bb2) sa2).mono ?_
    rintro e w3 ⟨rfl, n3, rfl⟩
    by_cases hc : a * 2 ^ d < b
    · rw [cmpI_lt (by omega)]
      have HC : Hid (a * 2 ^ d < b) := hc
      clear hc
      go_wp2_with fail
      refine (shift_rep _ _ (a * 2 ^ d) 1 ((r2.base (Nat.zero_le _)).drewN n3) sa2 (by omega)).mono ?_
      rintro e w4 ⟨v4, rfl, r4, b4⟩
      simp only [World.heap_drewN] at b4 r4
      go_wp2
      go_ret3
      refine ⟨v4, vb, d + 1, 0, tup3 (by have := HD.out; omega), ?_, by simpa using ((hb.below bb2).drewN n3).below (by simpa using b4), ?_, ?_, by omega, by omega, (below_drewN bb2 n3).trans (b4.mono bb2.size)⟩
      · rw [Nat.pow_succ, ← Nat.mul_assoc]; exact r4.base (Nat.zero_le _)
      · have := M1.out; rw [Nat.pow_succ, ← Nat.mul_assoc]; omega
      · have := HC.out; rw [Nat.pow_succ, ← Nat.mul_assoc]; omega
    · have hcm : (0 : Int) ≤ cmpI ((a * 2 ^ d : Nat) : Int) (b : Int) := by unfold cmpI; split <;> (try split) <;> omega
      generalize cmpI ((a * 2 ^ d : Nat) : Int) (b : Int) = cm at hcm ⊢
      have HC : Hid (¬ a * 2 ^ d < b) := hc
      clear hc
      go_wp2
      go_ret3
      refine ⟨v2, vb, d, 0, tup3 (by have := HD.out; omega), (r2.base (Nat.zero_le _)).drewN n3, by simpa using (hb.below bb2).drewN n3, ?_, ?_, by omega, by omega, below_drewN bb2 n3⟩
      · have := HC.out; omega
      · have := M2.out; omega
end Go.Proofs.YthdcceackfdbbaaGreatDoor
namespace Go.Proofs.YthdcceackfdbbaaGreatDoor
open Go.RowKit
theorem digit_one {u B : Nat} (h : u < 2 * B) : u / B ≤ 1 := by
  have : u / B < 2 := Nat.div_lt_of_lt_mul (by omega)
  omega
theorem or_bit (W d : Nat) (hd : d ≤ 1) (hW : W < 4503599627370496) : bits BinOp.or IntKind.u64 ((W : Int) * 2) (d : Int) = ((2 * W + d : Nat) : Int) := by
  rw [show (W : Int) * 2 = ((W * 2 : Nat) : Int) from by omega, u64_or_nat _ _ (by omega) (by omega), nat_join 1 _ _ (by simp) (by simp; omega)]
  congr 1; omega
theorem quot_step {A B W u k d : Nat} (he : A * 2 ^ k = 2 * B * W + u) (hu : u < 2 * B) (hW : W < 2 ^ k) (hd : u / B = d) :
    A * 2 ^ (k + 1) = 2 * B * (2 * W + d) + u % B * 2 ∧ u % B * 2 < 2 * B ∧ 2 * W + d < 2 ^ (k + 1) := by
  have h1 := Nat.div_add_mod u B
  rw [hd] at h1
  have hB : 0 < B := by omega
  have h2 := Nat.mod_lt u hB
  have hd1 := digit_one hu
  refine ⟨?_, by omega, by rw [Nat.pow_succ]; omega⟩
  rw [Nat.pow_succ, ← Nat.mul_assoc, he, Nat.mul_add, Nat.add_mul]
  have e1 : 2 * B * (2 * W) = 2 * B * W * 2 := by rw [Nat.mul_left_comm, Nat.mul_comm]
  have e2 : 2 * B * d = 2 * (B * d) := by rw [Nat.mul_assoc]
  omega
theorem rhe_of {n d q r : Nat} (h : n = d * q + r) (hr : r < d) : rhe n d = if d < 2 * r ∨ (2 * r = d ∧ q % 2 = 1) then q + 1 else q := by
  have h1 : n / d = q := by rw [h, Nat.mul_comm, Nat.add_comm, Nat.add_mul_div_right _ _ (by omega), Nat.div_eq_of_lt hr]; omega
  have h2 : n % d = r := by rw [h, Nat.mul_add_mod, Nat.mod_eq_of_lt hr]
  unfold rhe
  rw [h1, h2]
theorem rnd_fin {a b i j s A B : Nat} {p : Int} (hpl : plog a b = p) (c1 : ¬ 1023 < p) (hp : (j : Int) - i = p) (hrat : ∀ (s : Nat) (e : Int), e = (j : Int) + 1 - i - s → rhe (A * 2 ^ s) (2 * B) = rat a b e)
    (hs : (p < -1022 ∧ p + 1074 + 1 = (s : Int)) ∨ (¬ p < -1022 ∧ (53 : Int) = (s : Int))) : (rnd a b : Int) = max (p + 1022) 0 * 4503599627370496 + ((rhe (A * 2 ^ s) (2 * B) : Nat) : Int) := by
  unfold rnd
  rw [hpl, if_neg c1]
  unfold eOf
  rcases hs with ⟨h1, h2⟩ | ⟨h1, h2⟩
  · rw [if_pos h1, hrat s (-1074) (by omega)]
    rw [show max (p + 1022) 0 = 0 from by omega]
    simp
  · rw [if_neg h1, hrat s (p - 52) (by omega)]
    have : ((p - 52 + 1074).toNat : Int) = max (p + 1022) 0 := by omega
    rw [← this]
    simp
set_option maxHeartbeats 1600000 in
theorem roundQ_any (w : World) (va vb : Value) (a b : Nat) (ha : Rep w 0 va a) (hb : Rep w 0 vb b) (ha0 : a ≠ 0) (hb0 : b ≠ 0) (la : bl a ≤ 20000) (lb : bl b ≤ 20000) :
    Calls Tryz.prog 158 #[va, vb] w fun e w' => e = .returned (.int .u64 ((rnd a b : Nat) : Int)) ∧ Below w.heap.size w w' := by
  go_enter Tryz.func158, Tryz.ntmps158
  go_wp2_with fail
  refine (normalize_any _ _ _ a b ha hb ha0 hb0 la lb).mono ?_
  rintro e w1 ⟨va', vb', i, j, rfl, r1, r2, h1, h2, hi, hj, hb1⟩
  have hpl := plog_eq ha0 hb0 h1 h2
  obtain ⟨p, hp⟩ : ∃ p : Int, (j : Int) - (i : Int) = p := ⟨_, rfl⟩
  rw [hp] at hpl
  have hp1 : -20001 ≤ p := by omega
  have hp2 : p ≤ 20000 := by omega
  have HPL : Hid (plog a b = p) := hpl
  have HP : Hid ((j : Int) - (i : Int) = p) := hp
  have H1 : Hid (b * 2 ^ j ≤ a * 2 ^ i) := h1
  have H2 : Hid (a * 2 ^ i < 2 * (b * 2 ^ j)) := h2
  rw [hp]
  clear hp hpl h1 h2
  have sB : Small (b * 2 ^ j) := small_of_bl (k := 40000) (Nat.le_trans (bl_shift b j) (by omega)) (by omega)
  have sB2 : Small (2 * (b * 2 ^ j)) := by
    refine small_of_bl (k := 40001) (Nat.le_trans (bl_le (k := bl (b * 2 ^ j) + 1) ?_) (Nat.succ_le_succ (Nat.le_trans (bl_shift b j) (by omega : bl b + j ≤ 40000)))) (by omega)
    have := bl_hi (b * 2 ^ j)
    rw [Nat.pow_succ]; omega
  have hB0 : b * 2 ^ j ≠ 0 := Nat.ne_of_gt (Nat.mul_pos (by omega) (Nat.pow_pos (by omega)))
  have hrat := fun (s : Nat) (e : Int) (he : e = (j : Int) + 1 - i - s) => rat_of (a := a) (b := b) (s := s) he
  by_cases c1 : 1023 < p
  · go_wp2
    go_ret
    refine ⟨ret_int ?_, hb1⟩
    unfold rnd; rw [HPL.out, if_pos c1]; rfl
  · by_cases c2 : p < -1075
    · go_wp2
      go_ret
      refine ⟨ret_int ?_, hb1⟩
      rw [rnd_low ha0 hb0 H1.out H2.out (by rw [HP.out]; exact c2)]; rfl
    · generalize hA' : a * 2 ^ i = A' at *
      generalize hB' : b * 2 ^ j = B' at *
      have HRAT : Hid (∀ (s : Nat) (e : Int), e = (j : Int) + 1 - i - s → rhe (A' * 2 ^ s) (2 * B') = rat a b e) := hrat
      clear hA' hB' hrat
      by_cases c3 : p < -1022
      · have c1b : decide (1023 < p) = false := by simp; omega
        have c3b : decide (p < -1022) = true := by simp; omega
        have c4b : decide (p + 1074 + 1 < 0) = false := by simp; omega
        obtain ⟨s, hs⟩ : ∃ s : Nat, p + 1074 + 1 = (s : Int) := ⟨(p + 1074 + 1 : Int).toNat, by omega⟩
        have hs53 : s ≤ 53 := by omega
        have HS : Hid (p + 1074 + 1 = (s : Int)) := hs
        clear hs
        go_wp2_with fail
        go_loopw [0, 7, 30] (fun v q t wr => ∃ (k W u : Nat), k ≤ s ∧ t = .int .i64 k ∧ q = .int .u64 W ∧ Rep wr 0 v u ∧ A' * 2 ^ k = 2 * B' * W + u ∧ u < 2 * B' ∧ W < 2 ^ k ∧ Below w1.heap.size w1 wr) (fun _ _ t _ => s - (intOf t).toNat)
        case atStart => exact ⟨0, 0, A', Nat.zero_le _, rfl, rfl, r1, by simp, H2.out, by simp, Below.refl _ _⟩
        case round =>
          obtain ⟨k, W, u, hk, rfl, rfl, ru, he, hu, hW, hbel⟩ := hrel
          have HE : Hid (A' * 2 ^ k = 2 * B' * W + u) := he
          have HU : Hid (u < 2 * B') := hu
          have HW : Hid (W < 2 ^ k) := hW
          have hW2 : W < 9007199254740992 := Nat.lt_of_lt_of_le hW (Nat.le_trans (Nat.pow_le_pow_right (by omega) (Nat.le_trans hk hs53)) (by decide))
          have su : Small u := sB2.le (by omega)
          have r2r : Rep wr 0 vb' B' := r2.below hbel
          clear he hu hW
          by_cases hlt : k < s
          · have hW3 : W < 4503599627370496 := Nat.lt_of_lt_of_le HW.out (Nat.le_trans (Nat.pow_le_pow_right (by omega) (show k ≤ 52 by omega)) (by decide))
            have hltI : (k : Int) < p + 1074 + 1 := by rw [HS.out]; omega
            go_wp2_with fail
            refine (digit_any _ u0 vb' u B' ru r2r hB0 su (by have := digit_one HU.out; omega)).mono ?_
            rintro e w2 ⟨v2, rfl, rr, bb⟩
            have hd1 := digit_one HU.out
            generalize hd : u / B' = d at *
            have HD : Hid (u / B' = d) := hd
            clear hd
            go_wp2_with fail
            refine (shift_rep _ v2 (u % B') 1 (rr.base (Nat.zero_le _)) (su.le (Nat.mod_le _ _)) (by omega)).mono ?_
            rintro e w3 ⟨v3, rfl, r3, b3⟩
            go_wp2
            go_roundw
            case rel =>
              rw [or_bit W d hd1 hW3]
              obtain ⟨q1, q2, q3⟩ := quot_step HE.out HU.out HW.out HD.out
              exact ⟨k + 1, 2 * W + d, u % B' * 2, by omega, by go_num, rfl, by simpa using r3.base (Nat.zero_le _), q1, q2, q3, hbel.trans ((bb.mono hbel.size).trans (b3.mono (Nat.le_trans hbel.size bb.size)))⟩
            case measure => simp [intOf]; omega
          · have hltI : ¬ (k : Int) < p + 1074 + 1 := by rw [HS.out]; omega
            go_wp2_with fail
            refine (compare_rep _ u0 vb' u B' ru r2r su).mono ?_
            rintro e w2 ⟨rfl, nq, rfl⟩
            have hks : k = s := by omega
            have hfin := rnd_fin (s := s) HPL.out (by omega) HP.out HRAT.out (.inl ⟨by omega, HS.out⟩)
            have hE := HE.out
            rw [hks] at hE
            have hre := rhe_of hE HU.out
            have HF : Hid ((rnd a b : Int) = max (p + 1022) 0 * 4503599627370496 + ((rhe (A' * 2 ^ s) (2 * B') : Nat) : Int)) := hfin
            have HRE : Hid (rhe (A' * 2 ^ s) (2 * B') = if 2 * B' < 2 * u ∨ (2 * u = 2 * B' ∧ W % 2 = 1) then W + 1 else W) := hre
            have hbE : Below w.heap.size w (wr.drewN nq) := below_drewN (hb1.trans (hbel.mono hb1.size)) nq
            clear hfin hE hre hks
            rcases Nat.lt_trichotomy u B' with hc | hc | hc
            · rw [cmpI_lt (by omega)]
              go_wp2
              go_ret
              refine ⟨ret_int ?_, hbE⟩
              rw [HF.out, HRE.out, if_neg (by omega)]
            · rw [cmpI_eq (by omega)]
              have HC : Hid (u = B') := hc
              clear hc
              rcases Nat.mod_two_eq_zero_or_one W with ho | ho
              · have hbt : (bits BinOp.and IntKind.u64 (W : Int) 1 == 1) = false := by rw [and_one_u64 _ (by omega) (by omega)]; simp; omega
                have HO : Hid (W % 2 = 0) := ho
                clear ho
                go_wp2
                go_ret
                refine ⟨ret_int ?_, hbE⟩
                have := HO.out
                rw [HF.out, HRE.out, if_neg (by rw [HC.out]; omega)]
              · have hbt : (bits BinOp.and IntKind.u64 (W : Int) 1 == 1) = true := by rw [and_one_u64 _ (by omega) (by omega)]; simp; omega
                have HO : Hid (W % 2 = 1) := ho
                clear ho
                go_wp2
                go_ret
                refine ⟨ret_int ?_, hbE⟩
                rw [HF.out, HRE.out, if_pos (by rw [HC.out]; exact .inr ⟨rfl, HO.out⟩)]
                rfl
            · rw [cmpI_gt (by omega)]
              go_wp2
              go_ret
              refine ⟨ret_int ?_, hbE⟩
              rw [HF.out, HRE.out, if_pos (by omega)]
              rfl
      · have c1b : decide (1023 < p) = false := by simp; omega
        have c3b : decide (p < -1022) = false := by simp; omega
        obtain ⟨s, hs⟩ : ∃ s : Nat, (53 : Int) = (s : Int) := ⟨((53 : Int) : Int).toNat, by omega⟩
        have hs53 : s ≤ 53 := by omega
        have HS : Hid ((53 : Int) = (s : Int)) := hs
        clear hs
        go_wp2_with fail
        go_loopw [0, 7, 30] (fun v q t wr => ∃ (k W u : Nat), k ≤ s ∧ t = .int .i64 k ∧ q = .int .u64 W ∧ Rep wr 0 v u ∧ A' * 2 ^ k = 2 * B' * W + u ∧ u < 2 * B' ∧ W < 2 ^ k ∧ Below w1.heap.size w1 wr) (fun _ _ t _ => s - (intOf t).toNat)
        case atStart => exact ⟨0, 0, A', Nat.zero_le _, rfl, rfl, r1, by simp, H2.out, by simp, Below.refl _ _⟩
        case round =>
          obtain ⟨k, W, u, hk, rfl, rfl, ru, he, hu, hW, hbel⟩ := hrel
          have HE : Hid (A' * 2 ^ k = 2 * B' * W + u) := he
          have HU : Hid (u < 2 * B') := hu
          have HW : Hid (W < 2 ^ k) := hW
          have hW2 : W < 9007199254740992 := Nat.lt_of_lt_of_le hW (Nat.le_trans (Nat.pow_le_pow_right (by omega) (Nat.le_trans hk hs53)) (by decide))
          have su : Small u := sB2.le (by omega)
          have r2r : Rep wr 0 vb' B' := r2.below hbel
          clear he hu hW
          by_cases hlt : k < s
          · have hW3 : W < 4503599627370496 := Nat.lt_of_lt_of_le HW.out (Nat.le_trans (Nat.pow_le_pow_right (by omega) (show k ≤ 52 by omega)) (by decide))
            have hltI : (k : Int) < (53 : Int) := by rw [HS.out]; omega
            go_wp2_with fail
            refine (digit_any _ u0 vb' u B' ru r2r hB0 su (by have := digit_one HU.out; omega)).mono ?_
            rintro e w2 ⟨v2, rfl, rr, bb⟩
            have hd1 := digit_one HU.out
            generalize hd : u / B' = d at *
            have HD : Hid (u / B' = d) := hd
            clear hd
            go_wp2_with fail
            refine (shift_rep _ v2 (u % B') 1 (rr.base (Nat.zero_le _)) (su.le (Nat.mod_le _ _)) (by omega)).mono ?_
            rintro e w3 ⟨v3, rfl, r3, b3⟩
            go_wp2
            go_roundw
            case rel =>
              rw [or_bit W d hd1 hW3]
              obtain ⟨q1, q2, q3⟩ := quot_step HE.out HU.out HW.out HD.out
              exact ⟨k + 1, 2 * W + d, u % B' * 2, by omega, by go_num, rfl, by simpa using r3.base (Nat.zero_le _), q1, q2, q3, hbel.trans ((bb.mono hbel.size).trans (b3.mono (Nat.le_trans hbel.size bb.size)))⟩
            case measure => simp [intOf]; omega
          · have hltI : ¬ (k : Int) < (53 : Int) := by rw [HS.out]; omega
            go_wp2_with fail
            refine (compare_rep _ u0 vb' u B' ru r2r su).mono ?_
            rintro e w2 ⟨rfl, nq, rfl⟩
            have hks : k = s := by omega
            have hfin := rnd_fin (s := s) HPL.out (by omega) HP.out HRAT.out (.inr ⟨by omega, HS.out⟩)
            have hE := HE.out
            rw [hks] at hE
            have hre := rhe_of hE HU.out
            have HF : Hid ((rnd a b : Int) = max (p + 1022) 0 * 4503599627370496 + ((rhe (A' * 2 ^ s) (2 * B') : Nat) : Int)) := hfin
            have HRE : Hid (rhe (A' * 2 ^ s) (2 * B') = if 2 * B' < 2 * u ∨ (2 * u = 2 * B' ∧ W % 2 = 1) then W + 1 else W) := hre
            have hbE : Below w.heap.size w (wr.drewN nq) := below_drewN (hb1.trans (hbel.mono hb1.size)) nq
            clear hfin hE hre hks
            rcases Nat.lt_trichotomy u B' with hc | hc | hc
            · rw [cmpI_lt (by omega)]
              go_wp2
              go_ret
              refine ⟨ret_int ?_, hbE⟩
              rw [HF.out, HRE.out, if_neg (by omega)]
            · rw [cmpI_eq (by omega)]
              have HC : Hid (u = B') := hc
              clear hc
              rcases Nat.mod_two_eq_zero_or_one W with ho | ho
              · have hbt : (bits BinOp.and IntKind.u64 (W : Int) 1 == 1) = false := by rw [and_one_u64 _ (by omega) (by omega)]; simp; omega
                have HO : Hid (W % 2 = 0) := ho
                clear ho
                go_wp2
                go_ret
                refine ⟨ret_int ?_, hbE⟩
                have := HO.out
                rw [HF.out, HRE.out, if_neg (by rw [HC.out]; omega)]
              · have hbt : (bits BinOp.and IntKind.u64 (W : Int) 1 == 1) = true := by rw [and_one_u64 _ (by omega) (by omega)]; simp; omega
                have HO : Hid (W % 2 = 1) := ho
                clear ho
                go_wp2
                go_ret
                refine ⟨ret_int ?_, hbE⟩
                rw [HF.out, HRE.out, if_pos (by rw [HC.out]; exact .inr ⟨rfl, HO.out⟩)]
                rfl
            · rw [cmpI_gt (by omega)]
              go_wp2
              go_ret
              refine ⟨ret_int ?_, hbE⟩
              rw [HF.out, HRE.out, if_pos (by omega)]
              rfl
end Go.Proofs.YthdcceackfdbbaaGreatDoor
namespace Go.Proofs.YthdcceackfdbbaaGreatDoor
theorem plog_key {a b : Nat} (ha : a ≠ 0) (hb : b ≠ 0) : ∃ i' j' : Nat, plog a b = (j' : Int) - i' ∧ b * 2 ^ j' ≤ a * 2 ^ i' ∧ a * 2 ^ i' < 2 * (b * 2 ^ j') := by
  unfold plog
  by_cases hk : 0 ≤ (bl a : Int) - bl b
  · rw [if_pos hk]
    obtain ⟨n1, n2⟩ := norm_ge ha hb (by omega)
    have et : ((bl a : Int) - bl b).toNat = bl a - bl b := by omega
    rw [et]
    by_cases hc : a < b * 2 ^ (bl a - bl b)
    · rw [if_pos hc]; exact ⟨1, bl a - bl b, by omega, by omega, by omega⟩
    · rw [if_neg hc]; exact ⟨0, bl a - bl b, by omega, by omega, by omega⟩
  · rw [if_neg hk]
    obtain ⟨n1, n2⟩ := norm_ge hb ha (by omega)
    have et : (-((bl a : Int) - bl b)).toNat = bl b - bl a := by omega
    rw [et]
    by_cases hc : a * 2 ^ (bl b - bl a) < b
    · rw [if_pos hc]
      refine ⟨bl b - bl a + 1, 0, by omega, ?_, ?_⟩
      · rw [Nat.pow_succ, ← Nat.mul_assoc]; omega
      · rw [Nat.pow_succ, ← Nat.mul_assoc]; omega
    · rw [if_neg hc]; exact ⟨bl b - bl a, 0, by omega, by omega, by omega⟩
theorem rnd_big {a b n : Nat} (ha : a ≠ 0) (hb : b ≠ 0) (hn : 1024 ≤ n) (h : b * 2 ^ n ≤ a) : rnd a b = 9218868437227405312 := by
  obtain ⟨i, j, e, h1, h2⟩ := plog_key ha hb
  have := power_unique (i := 0) (j := n) (by simpa using h) h2
  unfold rnd
  rw [if_pos (by omega)]
theorem rnd_tiny {a b n : Nat} (ha : a ≠ 0) (hb : b ≠ 0) (hn : 1076 ≤ n) (h : a * 2 ^ n < b) : rnd a b = 0 := by
  obtain ⟨i, j, e, h1, h2⟩ := plog_key ha hb
  have := power_unique (i' := n + 1) (j' := 0) h1 (by rw [Nat.pow_succ, ← Nat.mul_assoc]; omega)
  exact rnd_low ha hb h1 h2 (by omega)
def dval (l : List UInt8) : Nat := l.foldl (fun n c => n * 10 + (c.toNat - 48)) 0
def isDig (c : UInt8) : Bool := 48 ≤ c.toNat && c.toNat ≤ 57
def Digs (l : List UInt8) : Prop := ∀ c ∈ l, isDig c = true
theorem dval_snoc (l : List UInt8) (c : UInt8) : dval (l ++ [c]) = dval l * 10 + (c.toNat - 48) := by simp [dval]
theorem isDig_bd {c : UInt8} (h : isDig c = true) : 48 ≤ c.toNat ∧ c.toNat ≤ 57 := by simpa [isDig] using h
theorem digs_snoc {l : List UInt8} {c : UInt8} (h : Digs (l ++ [c])) : Digs l ∧ isDig c = true := ⟨fun x hx => h x (by simp [hx]), h c (by simp)⟩
theorem list_snoc_ind {α : Type} {P : List α → Prop} (h0 : P []) (h1 : ∀ l x, P l → P (l ++ [x])) (l : List α) : P l := by
  generalize hn : l.length = n
  induction n generalizing l with
  | zero => rw [List.length_eq_zero_iff.1 hn]; exact h0
  | succ n ih =>
    have hne : l ≠ [] := by intro e; simp [e] at hn
    rw [← List.dropLast_concat_getLast hne]
    exact h1 _ _ (ih _ (by simp; omega))
theorem dval_lt {l : List UInt8} (h : Digs l) : dval l < 10 ^ l.length := by
  induction l using list_snoc_ind with
  | h0 => simp [dval]
  | h1 l c ih =>
    obtain ⟨h1, h2⟩ := digs_snoc h
    have := ih h1
    have := isDig_bd h2
    rw [dval_snoc, List.length_append, List.length_singleton, Nat.pow_succ]
    omega
theorem dval_ge {l : List UInt8} (h : Digs l) {c : UInt8} {r : List UInt8} (hl : l = c :: r) (hc : c.toNat ≠ 48) : 10 ^ (l.length - 1) ≤ dval l := by
  subst hl
  have hcd := isDig_bd (h c (by simp))
  have key : ∀ r : List UInt8, 10 ^ r.length ≤ dval (c :: r) := by
    intro r
    induction r using list_snoc_ind with
    | h0 => simp [dval]; omega
    | h1 r d ih => rw [← List.cons_append, dval_snoc, List.length_append, List.length_singleton, Nat.pow_succ]; omega
  simpa using key r
def decRnd (D : Nat) (k : Int) : Nat := if D = 0 then 0 else if 0 ≤ k then rnd (D * 10 ^ k.toNat) 1 else rnd D (10 ^ (-k).toNat)
def powLe (c m : Nat) : Bool := Nat.ble (2 ^ c) (10 ^ m)
theorem powLe_le {c m : Nat} (h : powLe c m = true) : 2 ^ c ≤ 10 ^ m := Nat.le_of_ble_eq_true h
theorem two_ten_big : powLe 1024 309 = true := by kernel_rfl
theorem two_ten_tiny : powLe 1076 324 = true := by kernel_rfl
theorem ten_pow_pos (n : Nat) : 0 < 10 ^ n := Nat.pow_pos (by omega)
theorem decRnd_big_aux {D m c : Nat} {k : Int} {n : Nat} (hc : 1024 ≤ c) (hm : powLe c m = true) (hD : 10 ^ n ≤ D) (h : (m : Int) ≤ (n : Int) + k) (hk : 0 ≤ k) : decRnd D k = 9218868437227405312 := by
  have p1 := ten_pow_pos n
  unfold decRnd
  rw [if_neg (by omega), if_pos hk]
  have p2 := ten_pow_pos k.toNat
  refine rnd_big (n := c) (Nat.ne_of_gt (Nat.mul_pos (by omega) p2)) (by omega) hc ?_
  have h1 : 10 ^ (n + k.toNat) ≤ D * 10 ^ k.toNat := by rw [Nat.pow_add]; exact Nat.mul_le_mul_right _ hD
  have h2 : 10 ^ m ≤ 10 ^ (n + k.toNat) := Nat.pow_le_pow_right (by omega) (by omega)
  rw [Nat.one_mul]
  exact Nat.le_trans (powLe_le hm) (Nat.le_trans h2 h1)
theorem decRnd_big {D : Nat} {k : Int} {n : Nat} (hD : 10 ^ n ≤ D) (h : 309 ≤ (n : Int) + k) (hk : 0 ≤ k) : decRnd D k = 9218868437227405312 :=
  decRnd_big_aux (m := 309) (c := 1024) (Nat.le_refl _) two_ten_big hD h hk
theorem decRnd_tiny_aux {D m c : Nat} {k : Int} {n : Nat} (hc : 1076 ≤ c) (hm : powLe c m = true) (hD : D < 10 ^ n) (hD0 : D ≠ 0) (h : (n : Int) + k ≤ -(m : Int)) (hk : ¬ 0 ≤ k) : decRnd D k = 0 := by
  unfold decRnd
  rw [if_neg hD0, if_neg hk]
  refine rnd_tiny (n := c) hD0 (Nat.ne_of_gt (ten_pow_pos _)) hc ?_
  have h1 : 10 ^ (n + m) ≤ 10 ^ (-k).toNat := Nat.pow_le_pow_right (by omega) (by omega)
  rw [Nat.pow_add] at h1
  have h2 := powLe_le hm
  have h3 : D * 2 ^ c ≤ D * 10 ^ m := Nat.mul_le_mul_left _ h2
  have h4 : D * 10 ^ m < 10 ^ n * 10 ^ m := (Nat.mul_lt_mul_right (ten_pow_pos m)).2 hD
  exact Nat.lt_of_le_of_lt h3 (Nat.lt_of_lt_of_le h4 h1)
theorem decRnd_tiny {D : Nat} {k : Int} {n : Nat} (hD : D < 10 ^ n) (hD0 : D ≠ 0) (h : (n : Int) + k ≤ -324) : decRnd D k = 0 :=
  decRnd_tiny_aux (m := 324) (c := 1076) (Nat.le_refl _) two_ten_tiny hD hD0 h (by omega)
end Go.Proofs.YthdcceackfdbbaaGreatDoor
namespace Go.Proofs.YthdcceackfdbbaaGreatDoor
open Go.RowKit
theorem ten_bl (n : Nat) : bl (10 ^ n) ≤ 4 * n + 1 := by
  refine bl_le (Nat.lt_of_le_of_lt (Nat.pow_le_pow_left (by decide : 10 ≤ 16) n) ?_)
  rw [show (16 : Nat) = 2 ^ 4 from rfl, ← Nat.pow_mul]
  exact Nat.pow_lt_pow_right (by omega) (by omega)
theorem ten_small {n : Nat} (h : n ≤ 4000) : Small (10 ^ n) := small_of_bl (k := 16001) (Nat.le_trans (ten_bl n) (by omega)) (by omega)
set_option maxHeartbeats 400000 in
theorem tenTo_any (w : World) (n : Nat) (m : Int) (hn : n ≤ 4000) (hm : m = (n : Int)) :
    Calls Tryz.prog 160 #[.int .i64 m] w fun e w' => ∃ v', e = .returned v' ∧ Rep w' w.heap.size v' (10 ^ n) ∧ Below w.heap.size w w' := by
  subst hm
  go_enter Tryz.func160, Tryz.ntmps160
  go_wp2_with fail
  refine (power_any _ 10 n (by omega) (by omega) (by omega) (ten_small hn)).mono ?_
  rintro e w1 ⟨v1, rfl, r1, b1⟩
  go_wp2
  go_ret
  exact ⟨v1, rfl, r1, b1⟩
theorem dval_small {l : List UInt8} (h : Digs l) (hl : l.length ≤ 100) : Small (dval l) := (ten_small (n := l.length) (by omega)).le (Nat.le_of_lt (dval_lt h))
theorem take_get {s : ByteArray} {k : Nat} (h : k < s.size) : s.data.toList[k]? = some s[k] := by
  have h' : k < s.data.toList.length := by simpa using h
  rw [List.getElem?_eq_getElem h']
  simp
  rfl
theorem mulAdd_repI (w : World) (v : Value) (a f mm : Nat) (m : Int) (h : Rep w 0 v a) (ha : Small a) (hf : f < 4294967296) (hm : mm < 4294967296) (e : m = (mm : Int)) :
    Calls Tryz.prog 157 #[v, .int .u32 f, .int .u32 m] w fun e w' => ∃ v', e = .returned v' ∧ Rep w' w.heap.size v' (a * f + mm) ∧ Below w.heap.size w w' := by
  subst e; exact mulAdd_rep w v a f mm h ha hf hm
theorem bcell {W w1 : World} (hb : Below W.heap.size W w1) : (∀ b o, b < W.heap.size → w1.cell? ⟨b, o, none⟩ = W.cell? ⟨b, o, none⟩) ∧ (∀ b o, b < W.heap.size → w1.frozen? ⟨b, o, none⟩ = W.frozen? ⟨b, o, none⟩) :=
  ⟨fun b o h => hb.cell (p := ⟨b, o, none⟩) h, fun b o h => hb.frozen (p := ⟨b, o, none⟩) h⟩
theorem bl_mono {a b : Nat} (h : a ≤ b) : bl a ≤ bl b := bl_le (Nat.lt_of_le_of_lt h (bl_hi b))
theorem bl_mul (a b : Nat) : bl (a * b) ≤ bl a + bl b := by
  refine bl_le ?_
  rw [Nat.pow_add]
  exact Nat.mul_lt_mul_of_lt_of_le (bl_hi a) (Nat.le_of_lt (bl_hi b)) (Nat.pow_pos (by omega))
theorem bytes_toList (s : ByteArray) : s.toList = s.data.toList := ByteArray.toList_eq s
set_option maxHeartbeats 800000 in
theorem round_any (w : World) (s : ByteArray) (p : Int) (hd : Digs s.data.toList) (hl : s.size ≤ 60) (hz : ∀ c r, s.data.toList = c :: r → c.toNat ≠ 48) (hp1 : -100000 ≤ p) (hp2 : p ≤ 100000) :
    Calls Tryz.prog 121 #[.agg #[.string s, .int .i64 p]] w fun e w' => e = .returned (.int .u64 ((decRnd (dval s.data.toList) p : Nat) : Int)) ∧ Below w.heap.size w w' := by
  have HZ : Hid (∀ c r, s.data.toList = c :: r → c.toNat ≠ 48) := hz
  have hsz : s.data.toList.length = s.size := by simp
  have HSZ : Hid (s.data.toList.length = s.size) := hsz
  clear hz hsz
  by_cases h0 : s.size = 0
  · have he : s.toList.isEmpty = true := by rw [bytes_toList]; rw [List.isEmpty_iff, ← List.length_eq_zero_iff, HSZ.out, h0]
    have hn : s.data.toList = [] := by rw [← List.length_eq_zero_iff, HSZ.out, h0]
    have HN : Hid (s.data.toList = []) := hn
    clear hn
    go_enter Tryz.func121, Tryz.ntmps121
    go_wp2
    go_ret
    exact ⟨by rw [HN.out]; rfl, (Below.refl _ _).alloc (Nat.le_refl _) _⟩
  · have he : s.toList.isEmpty = false := by
      rw [bytes_toList]
      cases hh : s.data.toList with
      | nil => have := HSZ.out; rw [hh] at this; simp at this; omega
      | cons c r => rfl
    obtain ⟨c, r, hcr⟩ : ∃ c r, s.data.toList = c :: r := by
      cases hh : s.data.toList with
      | nil => have := HSZ.out; rw [hh] at this; simp at this; omega
      | cons c r => exact ⟨c, r, rfl⟩
    have hge := dval_ge hd hcr (HZ.out c r hcr)
    have hlt := dval_lt hd
    rw [HSZ.out] at hge hlt
    have hpos : dval s.data.toList ≠ 0 := by have := ten_pow_pos (s.size - 1); omega
    have HGE : Hid (10 ^ (s.size - 1) ≤ dval s.data.toList) := hge
    have HLT : Hid (dval s.data.toList < 10 ^ s.size) := hlt
    have HPOS : Hid (dval s.data.toList ≠ 0) := hpos
    clear hge hlt hpos hcr HZ
    by_cases c1 : 309 < p + s.size
    · have c1b : decide (309 < p + (s.size : Int)) = true := by simpa using c1
      go_enter Tryz.func121, Tryz.ntmps121
      go_wp2
      go_ret
      refine ⟨ret_int ?_, (Below.refl _ _).alloc (Nat.le_refl _) _⟩
      rw [decRnd_big HGE.out (by omega) (by omega)]
      rfl
    · have c1b : decide (309 < p + (s.size : Int)) = false := by simp; omega
      by_cases c2 : p + s.size < -323
      · have c2b : decide (p + (s.size : Int) < -323) = true := by simpa using c2
        go_enter Tryz.func121, Tryz.ntmps121
        go_wp2
        go_ret
        refine ⟨ret_int ?_, (Below.refl _ _).alloc (Nat.le_refl _) _⟩
        rw [decRnd_tiny HLT.out HPOS.out (by omega)]
        rfl
      · have c2b : decide (p + (s.size : Int) < -323) = false := by simp; omega
        go_enter Tryz.func121, Tryz.ntmps121
        go_wp2_with fail
        go_loopw [4, 24] (fun v i wr => ∃ (k : Nat), k ≤ s.size ∧ i = .int .i64 k ∧ Rep wr w.heap.size v (dval (s.data.toList.take k)) ∧ wr.cell? ⟨w.heap.size, 0, none⟩ = some (.string s) ∧ wr.cell? ⟨w.heap.size, 1, none⟩ = some (.int .i64 p) ∧ w.heap.size < wr.heap.size ∧ Below w.heap.size w wr) (fun _ i _ => s.size - (intOf i).toNat)
        case atStart => exact ⟨0, Nat.zero_le _, rfl, ⟨[], ⟨World.ownsRow_nil _ _ _ _, by intro y hy; simp at hy⟩, canon_nil, rfl⟩, by simp, by simp, by simp, (Below.refl _ _).alloc (Nat.le_refl _) _⟩
        case round =>
          obtain ⟨k, hk, rfl, hr, hc0, hc1, hsz, hbel⟩ := hrel
          have hdk : Digs (s.data.toList.take k) := fun x hx => hd x (List.mem_of_mem_take hx)
          have hdl : (s.data.toList.take k).length ≤ 100 := by rw [List.length_take, HSZ.out]; omega
          by_cases hlt : k < s.size
          · have hg := take_get hlt
            have hb := isDig_bd (hd _ (List.mem_of_getElem? hg))
            have hts := take_snoc_get hg
            have HTS : Hid (s.data.toList.take (k + 1) = s.data.toList.take k ++ [s[k]]) := hts
            have HB : Hid (48 ≤ s[k].toNat ∧ s[k].toNat ≤ 57) := hb
            clear hg hb hts
            go_wp2_with fail
            refine (mulAdd_repI _ u4 _ 10 (s[k].toNat - 48) ((((s[k]'hlt).toNat : Int) - 48) % 256) (hr.base (Nat.zero_le _)) (dval_small hdk hdl) (by omega) (by have := HB.out; omega) (by have := HB.out; omega)).mono ?_
            rintro e w2 ⟨v2, rfl, r2, b2⟩
            obtain ⟨hcl, hfr⟩ := bcell b2
            have e0 := hcl w.heap.size 0 hsz
            have e1 := hcl w.heap.size 1 hsz
            rw [hc0] at e0
            rw [hc1] at e1
            clear hcl hfr
            go_wp2
            go_roundw
            case rel =>
              refine ⟨k + 1, by omega, by go_num, ?_, e0, e1, Nat.lt_of_lt_of_le hsz b2.size, hbel.trans (b2.mono hbel.size)⟩
              rw [HTS.out, dval_snoc]
              exact r2.base (Nat.le_of_lt hsz)
            case measure => simp [intOf]; omega
          · have hkk : s.data.toList.take k = s.data.toList := List.take_of_length_le (by rw [HSZ.out]; omega)
            have hr' := hr
            rw [hkk] at hr' hdk hdl
            have hsm := dval_small hdk hdl
            have hbl : bl (dval s.data.toList) ≤ 241 := Nat.le_trans (bl_le (Nat.lt_of_lt_of_le (bl_hi (dval s.data.toList)) (Nat.pow_le_pow_right (by omega) (Nat.le_refl _)))) (Nat.le_trans (bl_mono (Nat.le_of_lt HLT.out)) (Nat.le_trans (ten_bl s.size) (by omega)))
            generalize hD : dval s.data.toList = D at *
            have HD : Hid (dval s.data.toList = D) := hD
            have HBL : Hid (bl D ≤ 241) := hbl
            clear hr hkk hbl hD
            by_cases hp : 0 ≤ p
            · have hpb : decide (0 ≤ p) = true := by simpa using hp
              obtain ⟨n, rfl⟩ := Int.eq_ofNat_of_zero_le hp
              go_wp2_with fail
              refine (tenTo_any _ n _ (by omega) rfl).mono ?_
              rintro e w2 ⟨v2, rfl, r2, b2⟩
              go_wp2_with fail
              refine (mul_rep _ u4 v2 _ _ ((hr'.base (Nat.zero_le _)).below b2) (r2.base (Nat.zero_le _)) hsm (ten_small (by omega))).mono ?_
              rintro e w3 ⟨v3, rfl, r3, b3⟩
              go_wp2_with fail
              refine (of_any _ 1 (by omega)).mono ?_
              rintro e w4 ⟨v4, rfl, r4, b4⟩
              go_wp2_with fail
              refine (roundQ_any _ v3 v4 _ 1 ((r3.base (Nat.zero_le _)).below b4) (r4.base (Nat.zero_le _)) (Nat.ne_of_gt (Nat.mul_pos (Nat.pos_of_ne_zero HPOS.out) (ten_pow_pos _))) (by omega) ?_ (by decide)).mono ?_
              · exact Nat.le_trans (bl_mul D (10 ^ n)) (by have := HBL.out; have := ten_bl n; omega)
              rintro e w5 ⟨rfl, b5⟩
              go_wp2
              go_ret
              refine ⟨ret_int ?_, hbel.trans ((b2.mono hbel.size).trans ((b3.mono (Nat.le_trans hbel.size b2.size)).trans ((b4.mono (Nat.le_trans hbel.size (Nat.le_trans b2.size b3.size))).trans (b5.mono (Nat.le_trans hbel.size (Nat.le_trans b2.size (Nat.le_trans b3.size b4.size)))))))⟩
              rw [HD.out]
              unfold decRnd
              rw [if_neg HPOS.out, if_pos (by omega)]
              rfl
            · have hpb : decide (0 ≤ p) = false := by simpa using hp
              obtain ⟨n, hn⟩ : ∃ n : Nat, -p = (n : Int) := ⟨(-p).toNat, by omega⟩
              have hn2 : n ≤ 400 := by omega
              have HN : Hid (-p = (n : Int)) := hn
              clear hn
              go_wp2_with fail
              refine (tenTo_any _ n (-p) (by omega) HN.out).mono ?_
              rintro e w2 ⟨v2, rfl, r2, b2⟩
              go_wp2_with fail
              refine (roundQ_any _ u4 v2 _ _ ((hr'.base (Nat.zero_le _)).below b2) (r2.base (Nat.zero_le _)) HPOS.out (Nat.ne_of_gt (ten_pow_pos _)) (by have := HBL.out; omega) (Nat.le_trans (ten_bl n) (by omega))).mono ?_
              rintro e w3 ⟨rfl, b3⟩
              go_wp2
              go_ret
              refine ⟨ret_int ?_, hbel.trans ((b2.mono hbel.size).trans (b3.mono (Nat.le_trans hbel.size b2.size)))⟩
              rw [HD.out]
              unfold decRnd
              rw [if_neg HPOS.out, if_neg (by omega), HN.out]
              rfl
end Go.Proofs.YthdcceackfdbbaaGreatDoor
namespace Go.Proofs.YthdcceackfdbbaaGreatDoor
theorem takeWhile_at {α : Type} {p : α → Bool} {l : List α} {k : Nat} (h1 : ∀ x ∈ l.take k, p x = true) (h2 : ∀ x, l[k]? = some x → p x = false) : l.takeWhile p = l.take k ∧ l.dropWhile p = l.drop k := by
  induction l generalizing k with
  | nil => simp
  | cons a r ih =>
    cases k with
    | zero =>
      have := h2 a (by simp)
      simp [this]
    | succ k =>
      have ha := h1 a (by simp)
      obtain ⟨e1, e2⟩ := ih (k := k) (fun x hx => h1 x (by simp [hx])) (fun x hx => h2 x (by simpa using hx))
      simp [ha, e1, e2]
def signL : List UInt8 → Bool × List UInt8
  | [] => (false, [])
  | c :: r => if c = 43 then (false, r) else if c = 45 then (true, r) else (false, c :: r)
def smallW (l : List UInt8) : Nat := l.foldl (fun v c => if v < 1000 then v * 10 + (c.toNat - 48) else v) 0
theorem smallW_snoc (l : List UInt8) (c : UInt8) : smallW (l ++ [c]) = if smallW l < 1000 then smallW l * 10 + (c.toNat - 48) else smallW l := by unfold smallW; rw [List.foldl_append]; rfl
theorem smallW_le {l : List UInt8} (h : Digs l) : smallW l ≤ 10000 := by
  induction l using list_snoc_ind with
  | h0 => simp [smallW]
  | h1 l c ih =>
    obtain ⟨h1, h2⟩ := digs_snoc h
    have := ih h1
    have := isDig_bd h2
    rw [smallW_snoc]
    split <;> omega
theorem smallW_stay (l r : List UInt8) (h : 1000 ≤ smallW l) : smallW (l ++ r) = smallW l := by
  induction r using list_snoc_ind with
  | h0 => simp
  | h1 r c ih => rw [← List.append_assoc, smallW_snoc, ih, if_neg (by omega)]
def powL : List UInt8 → Option Int
  | [] => some 0
  | c :: r =>
    if c = 101 ∨ c = 69 then
      (if (signL r).2.takeWhile isDig = [] ∨ (signL r).2.dropWhile isDig ≠ [] then none
       else some (if (signL r).1 then -(smallW ((signL r).2.takeWhile isDig) : Int) else (smallW ((signL r).2.takeWhile isDig) : Int)))
    else none
def fracL : List UInt8 → List UInt8 × List UInt8
  | [] => ([], [])
  | c :: r => if c = 46 then (r.takeWhile isDig, r.dropWhile isDig) else ([], c :: r)
def decL (l : List UInt8) : Option (List UInt8 × Int) :=
  if l.takeWhile isDig ++ (fracL (l.dropWhile isDig)).1 = [] then none
  else (powL (fracL (l.dropWhile isDig)).2).map fun p => ((l.takeWhile isDig ++ (fracL (l.dropWhile isDig)).1).dropWhile (· == 48), p - (fracL (l.dropWhile isDig)).1.length)
def finL : Option (List UInt8 × Int) → Bool → Nat × Nat
  | none, _ => (0, 1)
  | some dp, m => (decRnd (dval dp.1) dp.2 + (if m then 9223372036854775808 else 0), 0)
def scanL (l : List UInt8) : Nat × Nat :=
  if 60 < l.length then (0, 1)
  else if l = [105, 110, 102] ∨ l = [43, 105, 110, 102] then (9218868437227405312, 0)
  else if l = [45, 105, 110, 102] then (18442240474082181120, 0)
  else if l = [110, 97, 110] then (9221120237041090560, 0)
  else finL (decL (signL l).2) (signL l).1
end Go.Proofs.YthdcceackfdbbaaGreatDoor
