/- Walks: roundQuotient. Own text. -/
import Derived.Test.YthdcceackfdbbaaDoorWh
namespace Go.Proofs.YthdcceackfdbbaaDoor
open Go.RowKit

theorem digit_one {u B : Nat} (h : u < 2 * B) : u / B ≤ 1 := by
  have : u / B < 2 := Nat.div_lt_of_lt_mul (by omega)
  omega

theorem or_bit (W d : Nat) (hd : d ≤ 1) (hW : W < 4503599627370496) : bits BinOp.or IntKind.u64 ((W : Int) * 2) (d : Int) = ((2 * W + d : Nat) : Int) := by
  rw [show (W : Int) * 2 = ((W * 2 : Nat) : Int) from by omega, u64_or_nat _ _ (by omega) (by omega), nat_join 1 _ _ (by simp) (by simp; omega)]
  congr 1; omega

theorem quot_step {A B W u k d : Nat} (he : A * 2 ^ k = 2 * B * W + u) (hu : u < 2 * B) (hW : W < 2 ^ k) (hd : u / B = d) :
    A * 2 ^ (k + 1) = 2 * B * (2 * W + d) + u % B * 2 ∧ u % B * 2 < 2 * B ∧ 2 * W + d < 2 ^ (k + 1) := by
  have h1 := Nat.div_add_mod u B
  rw [hd] at h1
  have hB : 0 < B := by omega
  have h2 := Nat.mod_lt u hB
  have hd1 := digit_one hu
  refine ⟨?_, by omega, by rw [Nat.pow_succ]; omega⟩
  rw [Nat.pow_succ, ← Nat.mul_assoc, he, Nat.mul_add, Nat.add_mul]
  have e1 : 2 * B * (2 * W) = 2 * B * W * 2 := by rw [Nat.mul_left_comm, Nat.mul_comm]
  have e2 : 2 * B * d = 2 * (B * d) := by rw [Nat.mul_assoc]
  omega

theorem rhe_of {n d q r : Nat} (h : n = d * q + r) (hr : r < d) : rhe n d = if d < 2 * r ∨ (2 * r = d ∧ q % 2 = 1) then q + 1 else q := by
  have h1 : n / d = q := by rw [h, Nat.mul_comm, Nat.add_comm, Nat.add_mul_div_right _ _ (by omega), Nat.div_eq_of_lt hr]; omega
  have h2 : n % d = r := by rw [h, Nat.mul_add_mod, Nat.mod_eq_of_lt hr]
  unfold rhe
  rw [h1, h2]

theorem rnd_fin {a b i j s A B : Nat} {p : Int} (hpl : plog a b = p) (c1 : ¬ 1023 < p) (hp : (j : Int) - i = p) (hrat : ∀ (s : Nat) (e : Int), e = (j : Int) + 1 - i - s → rhe (A * 2 ^ s) (2 * B) = rat a b e)
    (hs : (p < -1022 ∧ p + 1074 + 1 = (s : Int)) ∨ (¬ p < -1022 ∧ (53 : Int) = (s : Int))) : (rnd a b : Int) = max (p + 1022) 0 * 4503599627370496 + ((rhe (A * 2 ^ s) (2 * B) : Nat) : Int) := by
  unfold rnd
  rw [hpl, if_neg c1]
  unfold eOf
  rcases hs with ⟨h1, h2⟩ | ⟨h1, h2⟩
  · rw [if_pos h1, hrat s (-1074) (by omega)]
    rw [show max (p + 1022) 0 = 0 from by omega]
    simp
  · rw [if_neg h1, hrat s (p - 52) (by omega)]
    have : ((p - 52 + 1074).toNat : Int) = max (p + 1022) 0 := by omega
    rw [← this]
    simp

set_option maxHeartbeats 1600000 in
theorem roundQ_any (w : World) (va vb : Value) (a b : Nat) (ha : Rep w 0 va a) (hb : Rep w 0 vb b) (ha0 : a ≠ 0) (hb0 : b ≠ 0) (la : bl a ≤ 20000) (lb : bl b ≤ 20000) :
    Calls Tryd.prog 65 #[va, vb] w fun e w' => e = .returned (.int .u64 ((rnd a b : Nat) : Int)) ∧ Below w.heap.size w w' := by
  go_enter Tryd.func65, Tryd.ntmps65
  go_wp2_with fail
  refine (normalize_any _ _ _ a b ha hb ha0 hb0 la lb).mono ?_
  rintro e w1 ⟨va', vb', i, j, rfl, r1, r2, h1, h2, hi, hj, hb1⟩
  have hpl := plog_eq ha0 hb0 h1 h2
  obtain ⟨p, hp⟩ : ∃ p : Int, (j : Int) - (i : Int) = p := ⟨_, rfl⟩
  rw [hp] at hpl
  have hp1 : -20001 ≤ p := by omega
  have hp2 : p ≤ 20000 := by omega
  have HPL : Hid (plog a b = p) := hpl
  have HP : Hid ((j : Int) - (i : Int) = p) := hp
  have H1 : Hid (b * 2 ^ j ≤ a * 2 ^ i) := h1
  have H2 : Hid (a * 2 ^ i < 2 * (b * 2 ^ j)) := h2
  rw [hp]
  clear hp hpl h1 h2
  have sB : Small (b * 2 ^ j) := small_of_bl (k := 40000) (Nat.le_trans (bl_shift b j) (by omega)) (by omega)
  have sB2 : Small (2 * (b * 2 ^ j)) := by
    refine small_of_bl (k := 40001) (Nat.le_trans (bl_le (k := bl (b * 2 ^ j) + 1) ?_) (Nat.succ_le_succ (Nat.le_trans (bl_shift b j) (by omega : bl b + j ≤ 40000)))) (by omega)
    have := bl_hi (b * 2 ^ j)
    rw [Nat.pow_succ]; omega
  have hB0 : b * 2 ^ j ≠ 0 := Nat.ne_of_gt (Nat.mul_pos (by omega) (Nat.pow_pos (by omega)))
  have hrat := fun (s : Nat) (e : Int) (he : e = (j : Int) + 1 - i - s) => rat_of (a := a) (b := b) (s := s) he
  by_cases c1 : 1023 < p
  · go_wp2
    go_ret
    refine ⟨ret_int ?_, hb1⟩
    unfold rnd; rw [HPL.out, if_pos c1]; rfl
  · by_cases c2 : p < -1075
    · go_wp2
      go_ret
      refine ⟨ret_int ?_, hb1⟩
      rw [rnd_low ha0 hb0 H1.out H2.out (by rw [HP.out]; exact c2)]; rfl
    · generalize hA' : a * 2 ^ i = A' at *
      generalize hB' : b * 2 ^ j = B' at *
      have HRAT : Hid (∀ (s : Nat) (e : Int), e = (j : Int) + 1 - i - s → rhe (A' * 2 ^ s) (2 * B') = rat a b e) := hrat
      clear hA' hB' hrat
      by_cases c3 : p < -1022
      · have c1b : decide (1023 < p) = false := by simp; omega
        have c3b : decide (p < -1022) = true := by simp; omega
        have c4b : decide (p + 1074 + 1 < 0) = false := by simp; omega
        obtain ⟨s, hs⟩ : ∃ s : Nat, p + 1074 + 1 = (s : Int) := ⟨(p + 1074 + 1 : Int).toNat, by omega⟩
        have hs53 : s ≤ 53 := by omega
        have HS : Hid (p + 1074 + 1 = (s : Int)) := hs
        clear hs
        go_wp2_with fail
        go_loopw [0, 7, 30] (fun v q t wr => ∃ (k W u : Nat), k ≤ s ∧ t = .int .i64 k ∧ q = .int .u64 W ∧ Rep wr 0 v u ∧ A' * 2 ^ k = 2 * B' * W + u ∧ u < 2 * B' ∧ W < 2 ^ k ∧ Below w1.heap.size w1 wr) (fun _ _ t _ => s - (intOf t).toNat)
        case atStart => exact ⟨0, 0, A', Nat.zero_le _, rfl, rfl, r1, by simp, H2.out, by simp, Below.refl _ _⟩
        case round =>
          obtain ⟨k, W, u, hk, rfl, rfl, ru, he, hu, hW, hbel⟩ := hrel
          have HE : Hid (A' * 2 ^ k = 2 * B' * W + u) := he
          have HU : Hid (u < 2 * B') := hu
          have HW : Hid (W < 2 ^ k) := hW
          have hW2 : W < 9007199254740992 := Nat.lt_of_lt_of_le hW (Nat.le_trans (Nat.pow_le_pow_right (by omega) (Nat.le_trans hk hs53)) (by decide))
          have su : Small u := sB2.le (by omega)
          have r2r : Rep wr 0 vb' B' := r2.below hbel
          clear he hu hW
          by_cases hlt : k < s
          · have hW3 : W < 4503599627370496 := Nat.lt_of_lt_of_le HW.out (Nat.le_trans (Nat.pow_le_pow_right (by omega) (show k ≤ 52 by omega)) (by decide))
            have hltI : (k : Int) < p + 1074 + 1 := by rw [HS.out]; omega
            go_wp2_with fail
            refine (digit_any _ u0 vb' u B' ru r2r hB0 su (by have := digit_one HU.out; omega)).mono ?_
            rintro e w2 ⟨v2, rfl, rr, bb⟩
            have hd1 := digit_one HU.out
            generalize hd : u / B' = d at *
            have HD : Hid (u / B' = d) := hd
            clear hd
            go_wp2_with fail
            refine (shift_rep _ v2 (u % B') 1 (rr.base (Nat.zero_le _)) (su.le (Nat.mod_le _ _)) (by omega)).mono ?_
            rintro e w3 ⟨v3, rfl, r3, b3⟩
            go_wp2
            go_roundw
            case rel =>
              rw [or_bit W d hd1 hW3]
              obtain ⟨q1, q2, q3⟩ := quot_step HE.out HU.out HW.out HD.out
              exact ⟨k + 1, 2 * W + d, u % B' * 2, by omega, by go_num, rfl, by simpa using r3.base (Nat.zero_le _), q1, q2, q3, hbel.trans ((bb.mono hbel.size).trans (b3.mono (Nat.le_trans hbel.size bb.size)))⟩
            case measure => simp [intOf]; omega
          · have hltI : ¬ (k : Int) < p + 1074 + 1 := by rw [HS.out]; omega
            go_wp2_with fail
            refine (compare_rep _ u0 vb' u B' ru r2r su).mono ?_
            rintro e w2 ⟨rfl, nq, rfl⟩
            have hks : k = s := by omega
            have hfin := rnd_fin (s := s) HPL.out (by omega) HP.out HRAT.out (.inl ⟨by omega, HS.out⟩)
            have hE := HE.out
            rw [hks] at hE
            have hre := rhe_of hE HU.out
            have HF : Hid ((rnd a b : Int) = max (p + 1022) 0 * 4503599627370496 + ((rhe (A' * 2 ^ s) (2 * B') : Nat) : Int)) := hfin
            have HRE : Hid (rhe (A' * 2 ^ s) (2 * B') = if 2 * B' < 2 * u ∨ (2 * u = 2 * B' ∧ W % 2 = 1) then W + 1 else W) := hre
            have hbE : Below w.heap.size w (wr.drewN nq) := below_drewN (hb1.trans (hbel.mono hb1.size)) nq
            clear hfin hE hre hks
            rcases Nat.lt_trichotomy u B' with hc | hc | hc
            · rw [cmpI_lt (by omega)]
              go_wp2
              go_ret
              refine ⟨ret_int ?_, hbE⟩
              rw [HF.out, HRE.out, if_neg (by omega)]
            · rw [cmpI_eq (by omega)]
              have HC : Hid (u = B') := hc
              clear hc
              rcases Nat.mod_two_eq_zero_or_one W with ho | ho
              · have hbt : (bits BinOp.and IntKind.u64 (W : Int) 1 == 1) = false := by rw [and_one_u64 _ (by omega) (by omega)]; simp; omega
                have HO : Hid (W % 2 = 0) := ho
                clear ho
                go_wp2
                go_ret
                refine ⟨ret_int ?_, hbE⟩
                have := HO.out
                rw [HF.out, HRE.out, if_neg (by rw [HC.out]; omega)]
              · have hbt : (bits BinOp.and IntKind.u64 (W : Int) 1 == 1) = true := by rw [and_one_u64 _ (by omega) (by omega)]; simp; omega
                have HO : Hid (W % 2 = 1) := ho
                clear ho
                go_wp2
                go_ret
                refine ⟨ret_int ?_, hbE⟩
                rw [HF.out, HRE.out, if_pos (by rw [HC.out]; exact .inr ⟨rfl, HO.out⟩)]
                rfl
            · rw [cmpI_gt (by omega)]
              go_wp2
              go_ret
              refine ⟨ret_int ?_, hbE⟩
              rw [HF.out, HRE.out, if_pos (by omega)]
              rfl
      · have c1b : decide (1023 < p) = false := by simp; omega
        have c3b : decide (p < -1022) = false := by simp; omega
        obtain ⟨s, hs⟩ : ∃ s : Nat, (53 : Int) = (s : Int) := ⟨((53 : Int) : Int).toNat, by omega⟩
        have hs53 : s ≤ 53 := by omega
        have HS : Hid ((53 : Int) = (s : Int)) := hs
        clear hs
        go_wp2_with fail
        go_loopw [0, 7, 30] (fun v q t wr => ∃ (k W u : Nat), k ≤ s ∧ t = .int .i64 k ∧ q = .int .u64 W ∧ Rep wr 0 v u ∧ A' * 2 ^ k = 2 * B' * W + u ∧ u < 2 * B' ∧ W < 2 ^ k ∧ Below w1.heap.size w1 wr) (fun _ _ t _ => s - (intOf t).toNat)
        case atStart => exact ⟨0, 0, A', Nat.zero_le _, rfl, rfl, r1, by simp, H2.out, by simp, Below.refl _ _⟩
        case round =>
          obtain ⟨k, W, u, hk, rfl, rfl, ru, he, hu, hW, hbel⟩ := hrel
          have HE : Hid (A' * 2 ^ k = 2 * B' * W + u) := he
          have HU : Hid (u < 2 * B') := hu
          have HW : Hid (W < 2 ^ k) := hW
          have hW2 : W < 9007199254740992 := Nat.lt_of_lt_of_le hW (Nat.le_trans (Nat.pow_le_pow_right (by omega) (Nat.le_trans hk hs53)) (by decide))
          have su : Small u := sB2.le (by omega)
          have r2r : Rep wr 0 vb' B' := r2.below hbel
          clear he hu hW
          by_cases hlt : k < s
          · have hW3 : W < 4503599627370496 := Nat.lt_of_lt_of_le HW.out (Nat.le_trans (Nat.pow_le_pow_right (by omega) (show k ≤ 52 by omega)) (by decide))
            have hltI : (k : Int) < (53 : Int) := by rw [HS.out]; omega
            go_wp2_with fail
            refine (digit_any _ u0 vb' u B' ru r2r hB0 su (by have := digit_one HU.out; omega)).mono ?_
            rintro e w2 ⟨v2, rfl, rr, bb⟩
            have hd1 := digit_one HU.out
            generalize hd : u / B' = d at *
            have HD : Hid (u / B' = d) := hd
            clear hd
            go_wp2_with fail
            refine (shift_rep _ v2 (u % B') 1 (rr.base (Nat.zero_le _)) (su.le (Nat.mod_le _ _)) (by omega)).mono ?_
            rintro e w3 ⟨v3, rfl, r3, b3⟩
            go_wp2
            go_roundw
            case rel =>
              rw [or_bit W d hd1 hW3]
              obtain ⟨q1, q2, q3⟩ := quot_step HE.out HU.out HW.out HD.out
              exact ⟨k + 1, 2 * W + d, u % B' * 2, by omega, by go_num, rfl, by simpa using r3.base (Nat.zero_le _), q1, q2, q3, hbel.trans ((bb.mono hbel.size).trans (b3.mono (Nat.le_trans hbel.size bb.size)))⟩
            case measure => simp [intOf]; omega
          · have hltI : ¬ (k : Int) < (53 : Int) := by rw [HS.out]; omega
            go_wp2_with fail
            refine (compare_rep _ u0 vb' u B' ru r2r su).mono ?_
            rintro e w2 ⟨rfl, nq, rfl⟩
            have hks : k = s := by omega
            have hfin := rnd_fin (s := s) HPL.out (by omega) HP.out HRAT.out (.inr ⟨by omega, HS.out⟩)
            have hE := HE.out
            rw [hks] at hE
            have hre := rhe_of hE HU.out
            have HF : Hid ((rnd a b : Int) = max (p + 1022) 0 * 4503599627370496 + ((rhe (A' * 2 ^ s) (2 * B') : Nat) : Int)) := hfin
            have HRE : Hid (rhe (A' * 2 ^ s) (2 * B') = if 2 * B' < 2 * u ∨ (2 * u = 2 * B' ∧ W % 2 = 1) then W + 1 else W) := hre
            have hbE : Below w.heap.size w (wr.drewN nq) := below_drewN (hb1.trans (hbel.mono hb1.size)) nq
            clear hfin hE hre hks
            rcases Nat.lt_trichotomy u B' with hc | hc | hc
            · rw [cmpI_lt (by omega)]
              go_wp2
              go_ret
              refine ⟨ret_int ?_, hbE⟩
              rw [HF.out, HRE.out, if_neg (by omega)]
            · rw [cmpI_eq (by omega)]
              have HC : Hid (u = B') := hc
              clear hc
              rcases Nat.mod_two_eq_zero_or_one W with ho | ho
              · have hbt : (bits BinOp.and IntKind.u64 (W : Int) 1 == 1) = false := by rw [and_one_u64 _ (by omega) (by omega)]; simp; omega
                have HO : Hid (W % 2 = 0) := ho
                clear ho
                go_wp2
                go_ret
                refine ⟨ret_int ?_, hbE⟩
                have := HO.out
                rw [HF.out, HRE.out, if_neg (by rw [HC.out]; omega)]
              · have hbt : (bits BinOp.and IntKind.u64 (W : Int) 1 == 1) = true := by rw [and_one_u64 _ (by omega) (by omega)]; simp; omega
                have HO : Hid (W % 2 = 1) := ho
                clear ho
                go_wp2
                go_ret
                refine ⟨ret_int ?_, hbE⟩
                rw [HF.out, HRE.out, if_pos (by rw [HC.out]; exact .inr ⟨rfl, HO.out⟩)]
                rfl
            · rw [cmpI_gt (by omega)]
              go_wp2
              go_ret
              refine ⟨ret_int ?_, hbE⟩
              rw [HF.out, HRE.out, if_pos (by omega)]
              rfl

end Go.Proofs.YthdcceackfdbbaaDoor
