import Derived.Test.YthdcceackfdbbaaGreatDoorM20R
import Derived.Test.YthdcceackfdbbaaGreatDoorM10R
import Derived.Test.YthdcceackfdbbaaGreatDoorM04R

namespace Go.Proofs.YthdcceackfdbbaaGreatDoor
open Go.RowKit
theorem smallB_of_bl {a k : Nat} (h : bl a ≤ k) (hk : k ≤ 8700) : SmallB a := SmallB.of_lt (k := k) (Nat.lt_of_lt_of_le (bl_hi a) (Nat.pow_le_pow_right (by omega) h)) hk
theorem product_rep (w : World) (va vb : Value) (a b : Nat) (ha : RepB w 0 va a) (hb : RepB w 0 vb b) (sa : SmallB a) (sb : SmallB b) :
    Calls Tryz.prog 125 #[va, vb] w fun e w' => ∃ v', e = .returned v' ∧ RepB w' w.heap.size v' (a * b) ∧ Below w.heap.size w w' := by
  obtain ⟨l, h1, h2, h3, h4⟩ := ha.own sa
  obtain ⟨k, k1, k2, k3, k4⟩ := hb.own sb
  have := product_any w va vb l k h1 k1 (by omega) (by omega)
  rw [h3, k3] at this
  exact this
theorem canon_len_bl {l : List Nat} {k : Nat} (hc : Canon l) (h : bl (valB l) ≤ 29 * k) : l.length ≤ k := by
  refine canon_lenB hc (Nat.lt_of_lt_of_le (bl_hi _) (Nat.le_trans (Nat.pow_le_pow_right (by omega) h) ?_))
  rw [Nat.pow_mul]; exact Nat.pow_le_pow_left (by decide) _
theorem plog_le_bl {a b : Nat} (ha : a ≠ 0) (hb : b ≠ 0) : plog a b ≤ (bl a : Int) := by
  obtain ⟨i0, j0, e, k1, k2⟩ := plog_key ha hb
  have h3 : a * 2 ^ 0 < 2 * (b * 2 ^ bl a) := by
    rw [Nat.pow_zero, Nat.mul_one]
    have h4 := bl_hi a
    have h5 : 1 * 2 ^ bl a ≤ b * 2 ^ bl a := Nat.mul_le_mul_right _ (by omega)
    omega
  have := power_unique k1 h3
  omega
set_option maxRecDepth 20000 in
set_option maxHeartbeats 6400000 in
theorem rounded_any (w : World) (va vb : Value) (a b : Nat) (ha : RepB w 0 va a) (hb : RepB w 0 vb b) (ha0 : a ≠ 0) (hb0 : b ≠ 0) (hla : bl a ≤ 2200) (hlb : bl b ≤ 2200) :
    Calls Tryz.prog 92 #[va, vb] w fun e w' => e = .returned (.int .u64 ((rnd a b : Nat) : Int)) ∧ Below w.heap.size w w' := by
  have sa := smallB_of_bl hla (by omega)
  have sb := smallB_of_bl hlb (by omega)
  obtain ⟨la, oa, ca, hva, _⟩ := ha.own sa
  obtain ⟨lb, ob, cb, hvb, _⟩ := hb.own sb
  have hal : la.length ≤ 76 := canon_len_bl ca (by rw [hva]; omega)
  have hbl' : lb.length ≤ 76 := canon_len_bl cb (by rw [hvb]; omega)
  have hane : la ≠ [] := by intro e; rw [e] at hva; simp [valB] at hva; omega
  have ha1 : 1 ≤ la.length := by cases la with | nil => exact absurd rfl hane | cons _ _ => simp
  have HGU : Hid (guess la.length lb.length + 54 ≤ plog a b) := guess_le ha0 hb0 (by rw [← hva]; exact canon_leB ca hane) (by rw [← hvb]; exact val_ltB ob.2) ha1
  have HPU : plog a b ≤ 5000 := Int.le_trans (plog_le_bl ha0 hb0) (by omega)
  obtain ⟨aa, capa, hvae, _, _, _⟩ := oa.shape1
  obtain ⟨ab, capb, hvbe, _, _, _⟩ := ob.shape1
  subst hvae hvbe
  generalize hNA : la.length = NA at *
  generalize hNB : lb.length = NB at *
  clear oa ob ca cb hva hvb hane hNA hNB
  by_cases c1 : 1 < (NA : Int) - NB
  · have d1 : decide (1 < (NA : Int) - NB) = true := by simp; omega
    have d2 : decide (29 * ((NA : Int) - NB - 1) - 54 < -1074) = false := by simp; omega
    by_cases c2 : 29 * ((NA : Int) - NB - 1) - 54 < 0
    · have d3 : decide (29 * ((NA : Int) - NB - 1) - 54 < 0) = true := by simp; omega
      obtain ⟨i, hi⟩ : ∃ i : Nat, -(29 * ((NA : Int) - NB - 1) - 54) = (i : Int) := ⟨(-(29 * ((NA : Int) - NB - 1) - 54)).toNat, by omega⟩
      have HI : Hid (-(29 * ((NA : Int) - NB - 1) - 54) = (i : Int)) := hi
      have hi2 : i ≤ 1074 := by omega
      clear hi
      go_enter Tryz.func92, Tryz.ntmps92
      go_wp2_with fail
      refine (power2_any _ _ a i (-(29 * ((NA : Int) - NB - 1) - 54)) ha (by omega) HI.out (smallB_of_bl (Nat.le_trans (bl_shift a i) (by omega : bl a + i ≤ 3300)) (by omega))).mono ?_
      rintro e w1 ⟨vA, rfl, rA, hbw⟩
      obtain ⟨j, hj⟩ : ∃ j : Nat, j = 0 := ⟨_, rfl⟩
      have rB : RepB w1 0 (.slice ab NB capb) (b * 2 ^ j) := by rw [hj]; simpa using hb.below hbw
      have blA : bl (a * 2 ^ i) ≤ 3300 := Nat.le_trans (bl_shift a i) (by omega)
      have sA : SmallB (a * 2 ^ i) := smallB_of_bl blA (by omega)
      have sB : SmallB (b * 2 ^ j) := smallB_of_bl (Nat.le_trans (bl_shift b j) (by omega : bl b + j ≤ 4400)) (by omega)
      have blX : bl (b * 2 ^ j * 9007199254740992) ≤ 4500 := Nat.le_trans (bl_shift (b * 2 ^ j) 53) (by have := bl_shift b j; omega)
      have hij : -(29 * ((NA : Int) - NB - 1) - 54) = (i : Int) := HI.out
      obtain ⟨E, hE⟩ : ∃ E : Int, (29 * ((NA : Int) - NB - 1) - 54) = E := ⟨_, rfl⟩
      have HE : Hid (E = (j : Int) - i) := by unfold Hid; rw [← hE]; omega
      have hEb : -1074 ≤ E ∧ E ≤ 2200 := by omega
      have HG : Hid (E = -1074 ∨ E + 52 ≤ plog a b) := by unfold Hid; have := HGU.out; rw [← hE]; unfold guess at this; rw [if_pos (by omega)] at this; right; omega
      rw [hE]
      clear hE
      go_wp2_with fail
      refine (small_any _ 1 (by omega)).mono ?_
      rintro e w2 ⟨v2, rfl, r2, b2⟩
      go_wp2_with fail
      refine (power2_any _ v2 1 53 53 (r2.base (Nat.zero_le _)) (by omega) rfl (SmallB.of_lt (k := 54) (by decide) (by omega))).mono ?_
      rintro e w3 ⟨v3, rfl, r3, b3⟩
      rw [show 1 * 2 ^ 53 = 9007199254740992 from rfl] at r3
      have bb3 : Below w1.heap.size w1 w3 := b2.trans (b3.mono b2.size)
      go_wp2_with fail
      refine (product_rep _ (.slice ab NB capb) v3 _ _ (rB.below bb3) r3 sB (SmallB.of_lt (k := 54) (by decide) (by omega))).mono ?_
      rintro e w4 ⟨v4, rfl, r4, b4⟩
      have bb4 : Below w1.heap.size w1 w4 := bb3.trans (b4.mono bb3.size)
      clear b2 b3 b4 bb3 r2 r3
      go_wp2_with fail
      go_loopw [1, 5, 7] (fun vb ve vx wr => ∃ (j' : Nat) (E' : Int), E' = (j' : Int) - i ∧ ve = .int .i64 E' ∧ -1074 ≤ E' ∧ E' ≤ 6000 ∧ RepB wr 0 vb (b * 2 ^ j') ∧ RepB wr 0 vx (b * 2 ^ j' * 9007199254740992) ∧ bl (b * 2 ^ j' * 9007199254740992) ≤ 4500 ∧ (E' = -1074 ∨ E' + 52 ≤ plog a b) ∧ Below w1.heap.size w1 wr) (fun _ ve _ _ => (plog a b + 1 - intOf ve).toNat)
      case atStart => exact ⟨j, E, HE.out, rfl, hEb.1, by omega, (rB.below bb4), r4.base (Nat.zero_le _), blX, HG.out, bb4⟩
      case round =>
        clear HE HG hEb r4 bb4
        obtain ⟨j', E', hE', rfl, hE1, hE2, rb, rx, hblx, hlow, bx⟩ := hrel
        have HE' : Hid (E' = (j' : Int) - i) := hE'
        have HBLX : Hid (bl (b * 2 ^ j' * 9007199254740992) ≤ 4500) := hblx
        have HLOW : Hid (E' = -1074 ∨ E' + 52 ≤ plog a b) := hlow
        have sx : SmallB (b * 2 ^ j' * 9007199254740992) := smallB_of_bl hblx (by omega)
        have sb' : SmallB (b * 2 ^ j' * 1000000000) := sx.le (Nat.mul_le_mul_left _ (by omega))
        have sb1 : SmallB (b * 2 ^ j') := sx.le (Nat.le_mul_of_pos_right _ (by omega))
        have rA' := rA.below bx
        clear hE' hblx hlow
        go_wp2_with fail
        refine (compareB_rep _ vA u7 _ _ rA' rx sA).mono ?_
        rintro e w5 ⟨rfl, nq, rfl⟩
        by_cases hc : b * 2 ^ j' * 9007199254740992 ≤ a * 2 ^ i
        · have hcm : 0 ≤ cmpI ((a * 2 ^ i : Nat) : Int) ((b * 2 ^ j' * 9007199254740992 : Nat) : Int) := by unfold cmpI; split <;> (try split) <;> omega
          generalize cmpI ((a * 2 ^ i : Nat) : Int) ((b * 2 ^ j' * 9007199254740992 : Nat) : Int) = cq at hcm ⊢
          have hmore := round_more ha0 hb0 hc
          rw [← HE'.out] at hmore
          have HM : Hid (E' + 53 ≤ plog a b) := hmore
          have HPB : Hid (plog a b ≤ 5000) := HPU
          have hE3 : E' ≤ 5000 := by have := HPB.out; omega
          have hbl2 : bl (b * 2 ^ j' * 9007199254740992) ≤ 3300 := Nat.le_trans (bl_mono hc) blA
          have HBL2 : Hid (bl (b * 2 ^ j' * 9007199254740992) ≤ 3300) := hbl2
          clear hc hmore hbl2
          go_wp2_with fail
          refine (times_rep _ u7 _ 2 2 ((rx.drewN nq)) sx (by omega) rfl).mono ?_
          rintro e w6 ⟨v6, rfl, r6, b6⟩
          simp only [World.heap_drewN] at r6 b6
          have bx6 : Below w1.heap.size w1 w6 := (below_drewN bx nq).trans (b6.mono bx.size)
          go_wp2_with fail
          refine (times_rep _ u1 _ 2 2 ((rb.drewN nq).below (by simpa using b6)) sb1 (by omega) rfl).mono ?_
          rintro e w7 ⟨v7, rfl, r7, b7⟩
          have bx7 : Below w1.heap.size w1 w7 := bx6.trans (b7.mono bx6.size)
          have r6' := r6.below b7
          go_wp2
          go_roundw
          case rel =>
            refine ⟨j' + 1, E' + 1, by have := HE'.out; omega, rfl, by omega, by omega, ?_, ?_, ?_, .inr (by have := HM.out; omega), bx7⟩
            · rw [Nat.pow_succ, ← Nat.mul_assoc]; exact r7.base (Nat.zero_le _)
            · rw [Nat.pow_succ, ← Nat.mul_assoc, Nat.mul_right_comm]; exact r6'.base (Nat.zero_le _)
            · rw [Nat.pow_succ, ← Nat.mul_assoc, Nat.mul_right_comm]
              have h1 := bl_shift (b * 2 ^ j' * 9007199254740992) 1
              rw [Nat.pow_one] at h1
              have := HBL2.out
              omega
          case measure => simp only [intOf]; have := HM.out; omega
        · have hcm : cmpI ((a * 2 ^ i : Nat) : Int) ((b * 2 ^ j' * 9007199254740992 : Nat) : Int) = -1 := cmpI_lt (by omega)
          rw [hcm]
          have hstop := round_stop ha0 hb0 (by omega : a * 2 ^ i < b * 2 ^ j' * 9007199254740992)
          have hB0 : b * 2 ^ j' ≠ 0 := Nat.ne_of_gt (Nat.mul_pos (by omega) (Nat.pow_pos (by omega)))
          have hfin := finR_eq ha0 hb0 (by rw [← HE'.out]; exact hE1) hstop (by rw [← HE'.out]; exact HLOW.out)
          rw [← HE'.out] at hfin
          have hdm := Nat.div_add_mod (a * 2 ^ i) (b * 2 ^ j')
          have hml := Nat.mod_lt (a * 2 ^ i) (Nat.pos_of_ne_zero hB0)
          obtain ⟨hq1, hq2, hq3⟩ := rhe_bounds hdm.symm hml (by omega)
          have hre := rhe_of' hdm.symm hml
          have hqb : b * 2 ^ j' * (a * 2 ^ i / (b * 2 ^ j')) = a * 2 ^ i - a * 2 ^ i % (b * 2 ^ j') := by omega
          have hle : b * 2 ^ j' * (a * 2 ^ i / (b * 2 ^ j')) ≤ a * 2 ^ i := by omega
          generalize hAv : a * 2 ^ i = A at *
          generalize hBv : b * 2 ^ j' = Bv at *
          generalize hQ : A / Bv = Qv at *
          generalize hRm : A % Bv = Rm at *
          have HFIN : Hid (finR (rhe A Bv) E' = rnd a b) := hfin
          have HRE : Hid (rhe A Bv = if Bv < 2 * Rm ∨ (2 * Rm = Bv ∧ Qv % 2 = 1) then Qv + 1 else Qv) := hre
          have HQ : Hid (A / Bv = Qv) := hQ
          have HQB : Hid (Bv * Qv = A - Rm) := hqb
          have HLE : Hid (Bv * Qv ≤ A) := hle
          have HRM : Hid (Rm < Bv) := hml
          have HDM : Hid (Bv * Qv + Rm = A) := hdm
          clear hcm hfin hre hQ hqb hle hml hdm hq2 hq3 hRm hAv hBv hstop hc HE' HLOW HBLX
          go_wp2_with fail
          refine (divided_any _ vA u1 A Bv (rA'.drewN nq) (rb.drewN nq) hB0 sA sb').mono ?_
          rintro e w6 ⟨v6, rfl, r6, b6⟩
          simp only [World.heap_drewN] at r6 b6
          rw [HQ.out] at r6
          have bx6 : Below w1.heap.size w1 w6 := (below_drewN bx nq).trans (b6.mono bx.size)
          have sQ : SmallB Qv := SmallB.of_lt (k := 53) (by omega) (by omega)
          go_wp2_with fail
          refine (product_rep _ v6 u1 Qv Bv (r6.base (Nat.zero_le _)) ((rb.drewN nq).below (by simpa using b6)) sQ sb1).mono ?_
          rintro e w7 ⟨v7, rfl, r7, b7⟩
          rw [Nat.mul_comm Qv Bv] at r7
          have bx7 : Below w1.heap.size w1 w7 := bx6.trans (b7.mono bx6.size)
          go_wp2_with fail
          refine (minus_rep _ vA v7 A (Bv * Qv) (rA.below bx7) (r7.base (Nat.zero_le _)) sA).mono ?_
          rintro e w8 ⟨v8, d8, rfl, r8, hd8, s8, b8⟩
          have hd8' : d8 = Rm := by have := hd8 HLE.out; have := HDM.out; omega
          subst hd8'
          have bx8 : Below w1.heap.size w1 w8 := bx7.trans (b8.mono bx7.size)
          have rq8 := (r6.below b7).below b8
          obtain ⟨lq, oq, cq, hvq, hlq⟩ := rq8.own sQ
          clear hd8
          go_wp2_with fail
          refine (value_any _ v6 lq (oq.base (Nat.zero_le _)) (by omega) (by rw [hvq]; omega)).mono ?_
          rintro e w9 ⟨rfl, rfl⟩
          rw [hvq]
          clear oq cq hvq hlq rq8
          go_wp2_with fail
          refine (times_rep _ v8 d8 2 2 (r8.base (Nat.zero_le _)) s8 (by omega) rfl).mono ?_
          rintro e w10 ⟨v10, rfl, r10, b10⟩
          have bx10 : Below w1.heap.size w1 w10 := bx8.trans (b10.mono bx8.size)
          have s10 : SmallB (d8 * 2) := sx.le (by have := HRM.out; omega)
          go_wp2_with fail
          refine (compareB_rep _ v10 u1 (d8 * 2) Bv (r10.base (Nat.zero_le _)) (((((rb.drewN nq).below (by simpa using b6)).below b7).below b8).below b10) s10).mono ?_
          rintro e w11 ⟨rfl, nq2, rfl⟩
          have bf : Below w.heap.size w (w10.drewN nq2) := below_drewN (hbw.trans (bx10.mono hbw.size)) nq2
          clear b6 b7 b8 b10 bx6 bx7 bx8 bx10 r6 r7 r8 r10 rx rb rA' bx
          have key : ∃ (cm : Int) (mm : Nat), cmpI ((d8 * 2 : Nat) : Int) (Bv : Int) = cm ∧ rhe A Bv = mm ∧ ((0 < cm ∧ mm = Qv + 1) ∨ (cm = 0 ∧ Qv % 2 = 1 ∧ mm = Qv + 1) ∨ (cm = 0 ∧ Qv % 2 = 0 ∧ mm = Qv) ∨ (cm < 0 ∧ mm = Qv)) := by
            have hr := HRE.out
            rcases Nat.lt_trichotomy (d8 * 2) Bv with h | h | h
            · exact ⟨-1, Qv, cmpI_lt (by omega), by rw [hr, if_neg (by omega)], .inr (.inr (.inr ⟨by omega, rfl⟩))⟩
            · rcases Nat.mod_two_eq_zero_or_one Qv with ho | ho
              · exact ⟨0, Qv, cmpI_eq (by omega), by rw [hr, if_neg (by omega)], .inr (.inr (.inl ⟨rfl, ho, rfl⟩))⟩
              · exact ⟨0, Qv + 1, cmpI_eq (by omega), by rw [hr, if_pos (by omega)], .inr (.inl ⟨rfl, ho, rfl⟩)⟩
            · exact ⟨1, Qv + 1, cmpI_gt (by omega), by rw [hr, if_pos (by omega)], .inl ⟨by omega, rfl⟩⟩
          obtain ⟨cm, mm, hcm, hmm, hcs⟩ := key
          rw [hcm]
          have HFM : Hid (finR mm E' = rnd a b) := by unfold Hid; rw [← hmm]; exact HFIN.out
          clear hcm hmm HFIN HRE HQ HQB HLE HRM HDM
          rcases hcs with ⟨c5, hm⟩ | ⟨c5, hp, hm⟩ | ⟨c5, hp, hm⟩ | ⟨c5, hm⟩
          · subst hm
            skip
            by_cases k1 : Qv + 1 = 9007199254740992
            · have t1 : (((Qv : Int) + 1) == 9007199254740992) = true := by simp; omega
              have K1 : Hid (Qv + 1 = 9007199254740992) := k1
              clear k1
              by_cases k2 : 2047 ≤ E' + 1 + 1075
              · have t2 : decide (2047 ≤ E' + 1 + 1075) = true := by simp; omega
                go_wp2
                go_ret
                refine ⟨ret_int ?_, bf⟩
                rw [← HFM.out]
                unfold finR
                rw [if_pos K1.out, if_pos (by omega)]
                rfl
              · have t2 : decide (2047 ≤ E' + 1 + 1075) = false := by simp; omega
                go_wp2
                go_ret
                refine ⟨ret_int ?_, bf⟩
                rw [← HFM.out]
                unfold finR
                rw [if_pos K1.out, if_neg (by omega)]
                omega
            · have t1 : (((Qv : Int) + 1) == 9007199254740992) = false := by simp; omega
              have K1 : Hid (¬ Qv + 1 = 9007199254740992) := k1
              clear k1
              by_cases k3 : Qv + 1 < 4503599627370496
              · have t3 : decide (((Qv : Int) + 1) < 4503599627370496) = true := by simp; omega
                go_wp2
                go_ret
                refine ⟨ret_int ?_, bf⟩
                rw [← HFM.out]
                unfold finR
                rw [if_neg K1.out, if_pos (by omega)]
                all_goals rfl
              · have t3 : decide (((Qv : Int) + 1) < 4503599627370496) = false := by simp; omega
                by_cases k2 : 2047 ≤ E' + 1075
                · have t2 : decide (2047 ≤ E' + 1075) = true := by simp; omega
                  go_wp2
                  go_ret
                  refine ⟨ret_int ?_, bf⟩
                  rw [← HFM.out]
                  unfold finR
                  rw [if_neg K1.out, if_neg (by omega), if_pos (by omega)]
                  rfl
                · have t2 : decide (2047 ≤ E' + 1075) = false := by simp; omega
                  go_wp2
                  go_ret
                  refine ⟨ret_int ?_, bf⟩
                  rw [← HFM.out]
                  unfold finR
                  rw [if_neg K1.out, if_neg (by omega), if_neg (by omega)]
                  omega
          · subst hm
            subst c5
            have p1 : ((Qv : Int) % 2 == 1) = true := by simp; omega
            by_cases k1 : Qv + 1 = 9007199254740992
            · have t1 : (((Qv : Int) + 1) == 9007199254740992) = true := by simp; omega
              have K1 : Hid (Qv + 1 = 9007199254740992) := k1
              clear k1
              by_cases k2 : 2047 ≤ E' + 1 + 1075
              · have t2 : decide (2047 ≤ E' + 1 + 1075) = true := by simp; omega
                go_wp2
                go_ret
                refine ⟨ret_int ?_, bf⟩
                rw [← HFM.out]
                unfold finR
                rw [if_pos K1.out, if_pos (by omega)]
                rfl
              · have t2 : decide (2047 ≤ E' + 1 + 1075) = false := by simp; omega
                go_wp2
                go_ret
                refine ⟨ret_int ?_, bf⟩
                rw [← HFM.out]
                unfold finR
                rw [if_pos K1.out, if_neg (by omega)]
                omega
            · have t1 : (((Qv : Int) + 1) == 9007199254740992) = false := by simp; omega
              have K1 : Hid (¬ Qv + 1 = 9007199254740992) := k1
              clear k1
              by_cases k3 : Qv + 1 < 4503599627370496
              · have t3 : decide (((Qv : Int) + 1) < 4503599627370496) = true := by simp; omega
                go_wp2
                go_ret
                refine ⟨ret_int ?_, bf⟩
                rw [← HFM.out]
                unfold finR
                rw [if_neg K1.out, if_pos (by omega)]
                all_goals rfl
              · have t3 : decide (((Qv : Int) + 1) < 4503599627370496) = false := by simp; omega
                by_cases k2 : 2047 ≤ E' + 1075
                · have t2 : decide (2047 ≤ E' + 1075) = true := by simp; omega
                  go_wp2
                  go_ret
                  refine ⟨ret_int ?_, bf⟩
                  rw [← HFM.out]
                  unfold finR
                  rw [if_neg K1.out, if_neg (by omega), if_pos (by omega)]
                  rfl
                · have t2 : decide (2047 ≤ E' + 1075) = false := by simp; omega
                  go_wp2
                  go_ret
                  refine ⟨ret_int ?_, bf⟩
                  rw [← HFM.out]
                  unfold finR
                  rw [if_neg K1.out, if_neg (by omega), if_neg (by omega)]
                  omega
          · subst hm
            subst c5
            have p1 : ((mm : Int) % 2 == 1) = false := by simp; omega
            by_cases k1 : mm = 9007199254740992
            · have t1 : ((mm : Int) == 9007199254740992) = true := by simp; omega
              have K1 : Hid (mm = 9007199254740992) := k1
              clear k1
              by_cases k2 : 2047 ≤ E' + 1 + 1075
              · have t2 : decide (2047 ≤ E' + 1 + 1075) = true := by simp; omega
                go_wp2
                go_ret
                refine ⟨ret_int ?_, bf⟩
                rw [← HFM.out]
                unfold finR
                rw [if_pos K1.out, if_pos (by omega)]
                rfl
              · have t2 : decide (2047 ≤ E' + 1 + 1075) = false := by simp; omega
                go_wp2
                go_ret
                refine ⟨ret_int ?_, bf⟩
                rw [← HFM.out]
                unfold finR
                rw [if_pos K1.out, if_neg (by omega)]
                omega
            · have t1 : ((mm : Int) == 9007199254740992) = false := by simp; omega
              have K1 : Hid (¬ mm = 9007199254740992) := k1
              clear k1
              by_cases k3 : mm < 4503599627370496
              · have t3 : decide ((mm : Int) < 4503599627370496) = true := by simp; omega
                go_wp2
                go_ret
                refine ⟨ret_int ?_, bf⟩
                rw [← HFM.out]
                unfold finR
                rw [if_neg K1.out, if_pos (by omega)]
                all_goals rfl
              · have t3 : decide ((mm : Int) < 4503599627370496) = false := by simp; omega
                by_cases k2 : 2047 ≤ E' + 1075
                · have t2 : decide (2047 ≤ E' + 1075) = true := by simp; omega
                  go_wp2
                  go_ret
                  refine ⟨ret_int ?_, bf⟩
                  rw [← HFM.out]
                  unfold finR
                  rw [if_neg K1.out, if_neg (by omega), if_pos (by omega)]
                  rfl
                · have t2 : decide (2047 ≤ E' + 1075) = false := by simp; omega
                  go_wp2
                  go_ret
                  refine ⟨ret_int ?_, bf⟩
                  rw [← HFM.out]
                  unfold finR
                  rw [if_neg K1.out, if_neg (by omega), if_neg (by omega)]
                  omega
          · subst hm
            have p2 : (cm == 0) = false := by simp; omega
            have p3 : decide (0 < cm) = false := by simp; omega
            by_cases k1 : mm = 9007199254740992
            · have t1 : ((mm : Int) == 9007199254740992) = true := by simp; omega
              have K1 : Hid (mm = 9007199254740992) := k1
              clear k1
              by_cases k2 : 2047 ≤ E' + 1 + 1075
              · have t2 : decide (2047 ≤ E' + 1 + 1075) = true := by simp; omega
                go_wp2
                go_ret
                refine ⟨ret_int ?_, bf⟩
                rw [← HFM.out]
                unfold finR
                rw [if_pos K1.out, if_pos (by omega)]
                rfl
              · have t2 : decide (2047 ≤ E' + 1 + 1075) = false := by simp; omega
                go_wp2
                go_ret
                refine ⟨ret_int ?_, bf⟩
                rw [← HFM.out]
                unfold finR
                rw [if_pos K1.out, if_neg (by omega)]
                omega
            · have t1 : ((mm : Int) == 9007199254740992) = false := by simp; omega
              have K1 : Hid (¬ mm = 9007199254740992) := k1
              clear k1
              by_cases k3 : mm < 4503599627370496
              · have t3 : decide ((mm : Int) < 4503599627370496) = true := by simp; omega
                go_wp2
                go_ret
                refine ⟨ret_int ?_, bf⟩
                rw [← HFM.out]
                unfold finR
                rw [if_neg K1.out, if_pos (by omega)]
                all_goals rfl
              · have t3 : decide ((mm : Int) < 4503599627370496) = false := by simp; omega
                by_cases k2 : 2047 ≤ E' + 1075
                · have t2 : decide (2047 ≤ E' + 1075) = true := by simp; omega
                  go_wp2
                  go_ret
                  refine ⟨ret_int ?_, bf⟩
                  rw [← HFM.out]
                  unfold finR
                  rw [if_neg K1.out, if_neg (by omega), if_pos (by omega)]
                  rfl
                · have t2 : decide (2047 ≤ E' + 1075) = false := by simp; omega
                  go_wp2
                  go_ret
                  refine ⟨ret_int ?_, bf⟩
                  rw [← HFM.out]
                  unfold finR
                  rw [if_neg K1.out, if_neg (by omega), if_neg (by omega)]
                  omega
    · have d3 : decide (29 * ((NA : Int) - NB - 1) - 54 < 0) = false := by simp; omega
      obtain ⟨j, hj⟩ : ∃ j : Nat, 29 * ((NA : Int) - NB - 1) - 54 = (j : Int) := ⟨(29 * ((NA : Int) - NB - 1) - 54).toNat, by omega⟩
      have HJ : Hid (29 * ((NA : Int) - NB - 1) - 54 = (j : Int)) := hj
      have hj2 : j ≤ 2200 := by omega
      clear hj
      go_enter Tryz.func92, Tryz.ntmps92
      go_wp2_with fail
      refine (power2_any _ _ b j (29 * ((NA : Int) - NB - 1) - 54) hb (by omega) HJ.out (smallB_of_bl (Nat.le_trans (bl_shift b j) (by omega : bl b + j ≤ 4400)) (by omega))).mono ?_
      rintro e w1 ⟨vB, rfl, rB, hbw⟩
      obtain ⟨i, hi⟩ : ∃ i : Nat, i = 0 := ⟨_, rfl⟩
      have rA : RepB w1 0 (.slice aa NA capa) (a * 2 ^ i) := by rw [hi]; simpa using ha.below hbw
      have blA : bl (a * 2 ^ i) ≤ 3300 := Nat.le_trans (bl_shift a i) (by omega)
      have sA : SmallB (a * 2 ^ i) := smallB_of_bl blA (by omega)
      have sB : SmallB (b * 2 ^ j) := smallB_of_bl (Nat.le_trans (bl_shift b j) (by omega : bl b + j ≤ 4400)) (by omega)
      have blX : bl (b * 2 ^ j * 9007199254740992) ≤ 4500 := Nat.le_trans (bl_shift (b * 2 ^ j) 53) (by have := bl_shift b j; omega)
      have hij : 29 * ((NA : Int) - NB - 1) - 54 = (j : Int) := HJ.out
      obtain ⟨E, hE⟩ : ∃ E : Int, (29 * ((NA : Int) - NB - 1) - 54) = E := ⟨_, rfl⟩
      have HE : Hid (E = (j : Int) - i) := by unfold Hid; rw [← hE]; omega
      have hEb : -1074 ≤ E ∧ E ≤ 2200 := by omega
      have HG : Hid (E = -1074 ∨ E + 52 ≤ plog a b) := by unfold Hid; have := HGU.out; rw [← hE]; unfold guess at this; rw [if_pos (by omega)] at this; right; omega
      rw [hE]
      clear hE
      go_wp2_with fail
      refine (small_any _ 1 (by omega)).mono ?_
      rintro e w2 ⟨v2, rfl, r2, b2⟩
      go_wp2_with fail
      refine (power2_any _ v2 1 53 53 (r2.base (Nat.zero_le _)) (by omega) rfl (SmallB.of_lt (k := 54) (by decide) (by omega))).mono ?_
      rintro e w3 ⟨v3, rfl, r3, b3⟩
      rw [show 1 * 2 ^ 53 = 9007199254740992 from rfl] at r3
      have bb3 : Below w1.heap.size w1 w3 := b2.trans (b3.mono b2.size)
      go_wp2_with fail
      refine (product_rep _ vB v3 _ _ (rB.below bb3) r3 sB (SmallB.of_lt (k := 54) (by decide) (by omega))).mono ?_
      rintro e w4 ⟨v4, rfl, r4, b4⟩
      have bb4 : Below w1.heap.size w1 w4 := bb3.trans (b4.mono bb3.size)
      clear b2 b3 b4 bb3 r2 r3
      go_wp2_with fail
      go_loopw [1, 5, 7] (fun vb ve vx wr => ∃ (j' : Nat) (E' : Int), E' = (j' : Int) - i ∧ ve = .int .i64 E' ∧ -1074 ≤ E' ∧ E' ≤ 6000 ∧ RepB wr 0 vb (b * 2 ^ j') ∧ RepB wr 0 vx (b * 2 ^ j' * 9007199254740992) ∧ bl (b * 2 ^ j' * 9007199254740992) ≤ 4500 ∧ (E' = -1074 ∨ E' + 52 ≤ plog a b) ∧ Below w1.heap.size w1 wr) (fun _ ve _ _ => (plog a b + 1 - intOf ve).toNat)
      case atStart => exact ⟨j, E, HE.out, rfl, hEb.1, by omega, (rB.below bb4), r4.base (Nat.zero_le _), blX, HG.out, bb4⟩
      case round =>
        clear HE HG hEb r4 bb4
        obtain ⟨j', E', hE', rfl, hE1, hE2, rb, rx, hblx, hlow, bx⟩ := hrel
        have HE' : Hid (E' = (j' : Int) - i) := hE'
        have HBLX : Hid (bl (b * 2 ^ j' * 9007199254740992) ≤ 4500) := hblx
        have HLOW : Hid (E' = -1074 ∨ E' + 52 ≤ plog a b) := hlow
        have sx : SmallB (b * 2 ^ j' * 9007199254740992) := smallB_of_bl hblx (by omega)
        have sb' : SmallB (b * 2 ^ j' * 1000000000) := sx.le (Nat.mul_le_mul_left _ (by omega))
        have sb1 : SmallB (b * 2 ^ j') := sx.le (Nat.le_mul_of_pos_right _ (by omega))
        have rA' := rA.below bx
        clear hE' hblx hlow
        go_wp2_with fail
        refine (compareB_rep _ (.slice aa NA capa) u7 _ _ rA' rx sA).mono ?_
        rintro e w5 ⟨rfl, nq, rfl⟩
        by_cases hc : b * 2 ^ j' * 9007199254740992 ≤ a * 2 ^ i
        · have hcm : 0 ≤ cmpI ((a * 2 ^ i : Nat) : Int) ((b * 2 ^ j' * 9007199254740992 : Nat) : Int) := by unfold cmpI; split <;> (try split) <;> omega
          generalize cmpI ((a * 2 ^ i : Nat) : Int) ((b * 2 ^ j' * 9007199254740992 : Nat) : Int) = cq at hcm ⊢
          have hmore := round_more ha0 hb0 hc
          rw [← HE'.out] at hmore
          have HM : Hid (E' + 53 ≤ plog a b) := hmore
          have HPB : Hid (plog a b ≤ 5000) := HPU
          have hE3 : E' ≤ 5000 := by have := HPB.out; omega
          have hbl2 : bl (b * 2 ^ j' * 9007199254740992) ≤ 3300 := Nat.le_trans (bl_mono hc) blA
          have HBL2 : Hid (bl (b * 2 ^ j' * 9007199254740992) ≤ 3300) := hbl2
          clear hc hmore hbl2
          go_wp2_with fail
          refine (times_rep _ u7 _ 2 2 ((rx.drewN nq)) sx (by omega) rfl).mono ?_
          rintro e w6 ⟨v6, rfl, r6, b6⟩
          simp only [World.heap_drewN] at r6 b6
          have bx6 : Below w1.heap.size w1 w6 := (below_drewN bx nq).trans (b6.mono bx.size)
          go_wp2_with fail
          refine (times_rep _ u1 _ 2 2 ((rb.drewN nq).below (by simpa using b6)) sb1 (by omega) rfl).mono ?_
          rintro e w7 ⟨v7, rfl, r7, b7⟩
          have bx7 : Below w1.heap.size w1 w7 := bx6.trans (b7.mono bx6.size)
          have r6' := r6.below b7
          go_wp2
          go_roundw
          case rel =>
            refine ⟨j' + 1, E' + 1, by have := HE'.out; omega, rfl, by omega, by omega, ?_, ?_, ?_, .inr (by have := HM.out; omega), bx7⟩
            · rw [Nat.pow_succ, ← Nat.mul_assoc]; exact r7.base (Nat.zero_le _)
            · rw [Nat.pow_succ, ← Nat.mul_assoc, Nat.mul_right_comm]; exact r6'.base (Nat.zero_le _)
            · rw [Nat.pow_succ, ← Nat.mul_assoc, Nat.mul_right_comm]
              have h1 := bl_shift (b * 2 ^ j' * 9007199254740992) 1
              rw [Nat.pow_one] at h1
              have := HBL2.out
              omega
          case measure => simp only [intOf]; have := HM.out; omega
        · have hcm : cmpI ((a * 2 ^ i : Nat) : Int) ((b * 2 ^ j' * 9007199254740992 : Nat) : Int) = -1 := cmpI_lt (by omega)
          rw [hcm]
          have hstop := round_stop ha0 hb0 (by omega : a * 2 ^ i < b * 2 ^ j' * 9007199254740992)
          have hB0 : b * 2 ^ j' ≠ 0 := Nat.ne_of_gt (Nat.mul_pos (by omega) (Nat.pow_pos (by omega)))
          have hfin := finR_eq ha0 hb0 (by rw [← HE'.out]; exact hE1) hstop (by rw [← HE'.out]; exact HLOW.out)
          rw [← HE'.out] at hfin
          have hdm := Nat.div_add_mod (a * 2 ^ i) (b * 2 ^ j')
          have hml := Nat.mod_lt (a * 2 ^ i) (Nat.pos_of_ne_zero hB0)
          obtain ⟨hq1, hq2, hq3⟩ := rhe_bounds hdm.symm hml (by omega)
          have hre := rhe_of' hdm.symm hml
          have hqb : b * 2 ^ j' * (a * 2 ^ i / (b * 2 ^ j')) = a * 2 ^ i - a * 2 ^ i % (b * 2 ^ j') := by omega
          have hle : b * 2 ^ j' * (a * 2 ^ i / (b * 2 ^ j')) ≤ a * 2 ^ i := by omega
          generalize hAv : a * 2 ^ i = A at *
          generalize hBv : b * 2 ^ j' = Bv at *
          generalize hQ : A / Bv = Qv at *
          generalize hRm : A % Bv = Rm at *
          have HFIN : Hid (finR (rhe A Bv) E' = rnd a b) := hfin
          have HRE : Hid (rhe A Bv = if Bv < 2 * Rm ∨ (2 * Rm = Bv ∧ Qv % 2 = 1) then Qv + 1 else Qv) := hre
          have HQ : Hid (A / Bv = Qv) := hQ
          have HQB : Hid (Bv * Qv = A - Rm) := hqb
          have HLE : Hid (Bv * Qv ≤ A) := hle
          have HRM : Hid (Rm < Bv) := hml
          have HDM : Hid (Bv * Qv + Rm = A) := hdm
          clear hcm hfin hre hQ hqb hle hml hdm hq2 hq3 hRm hAv hBv hstop hc HE' HLOW HBLX
          go_wp2_with fail
          refine (divided_any _ (.slice aa NA capa) u1 A Bv (rA'.drewN nq) (rb.drewN nq) hB0 sA sb').mono ?_
          rintro e w6 ⟨v6, rfl, r6, b6⟩
          simp only [World.heap_drewN] at r6 b6
          rw [HQ.out] at r6
          have bx6 : Below w1.heap.size w1 w6 := (below_drewN bx nq).trans (b6.mono bx.size)
          have sQ : SmallB Qv := SmallB.of_lt (k := 53) (by omega) (by omega)
          go_wp2_with fail
          refine (product_rep _ v6 u1 Qv Bv (r6.base (Nat.zero_le _)) ((rb.drewN nq).below (by simpa using b6)) sQ sb1).mono ?_
          rintro e w7 ⟨v7, rfl, r7, b7⟩
          rw [Nat.mul_comm Qv Bv] at r7
          have bx7 : Below w1.heap.size w1 w7 := bx6.trans (b7.mono bx6.size)
          go_wp2_with fail
          refine (minus_rep _ (.slice aa NA capa) v7 A (Bv * Qv) (rA.below bx7) (r7.base (Nat.zero_le _)) sA).mono ?_
          rintro e w8 ⟨v8, d8, rfl, r8, hd8, s8, b8⟩
          have hd8' : d8 = Rm := by have := hd8 HLE.out; have := HDM.out; omega
          subst hd8'
          have bx8 : Below w1.heap.size w1 w8 := bx7.trans (b8.mono bx7.size)
          have rq8 := (r6.below b7).below b8
          obtain ⟨lq, oq, cq, hvq, hlq⟩ := rq8.own sQ
          clear hd8
          go_wp2_with fail
          refine (value_any _ v6 lq (oq.base (Nat.zero_le _)) (by omega) (by rw [hvq]; omega)).mono ?_
          rintro e w9 ⟨rfl, rfl⟩
          rw [hvq]
          clear oq cq hvq hlq rq8
          go_wp2_with fail
          refine (times_rep _ v8 d8 2 2 (r8.base (Nat.zero_le _)) s8 (by omega) rfl).mono ?_
          rintro e w10 ⟨v10, rfl, r10, b10⟩
          have bx10 : Below w1.heap.size w1 w10 := bx8.trans (b10.mono bx8.size)
          have s10 : SmallB (d8 * 2) := sx.le (by have := HRM.out; omega)
          go_wp2_with fail
          refine (compareB_rep _ v10 u1 (d8 * 2) Bv (r10.base (Nat.zero_le _)) (((((rb.drewN nq).below (by simpa using b6)).below b7).below b8).below b10) s10).mono ?_
          rintro e w11 ⟨rfl, nq2, rfl⟩
          have bf : Below w.heap.size w (w10.drewN nq2) := below_drewN (hbw.trans (bx10.mono hbw.size)) nq2
          clear b6 b7 b8 b10 bx6 bx7 bx8 bx10 r6 r7 r8 r10 rx rb rA' bx
          have key : ∃ (cm : Int) (mm : Nat), cmpI ((d8 * 2 : Nat) : Int) (Bv : Int) = cm ∧ rhe A Bv = mm ∧ ((0 < cm ∧ mm = Qv + 1) ∨ (cm = 0 ∧ Qv % 2 = 1 ∧ mm = Qv + 1) ∨ (cm = 0 ∧ Qv % 2 = 0 ∧ mm = Qv) ∨ (cm < 0 ∧ mm = Qv)) := by
            have hr := HRE.out
            rcases Nat.lt_trichotomy (d8 * 2) Bv with h | h | h
            · exact ⟨-1, Qv, cmpI_lt (by omega), by rw [hr, if_neg (by omega)], .inr (.inr (.inr ⟨by omega, rfl⟩))⟩
            · rcases Nat.mod_two_eq_zero_or_one Qv with ho | ho
              · exact ⟨0, Qv, cmpI_eq (by omega), by rw [hr, if_neg (by omega)], .inr (.inr (.inl ⟨rfl, ho, rfl⟩))⟩
              · exact ⟨0, Qv + 1, cmpI_eq (by omega), by rw [hr, if_pos (by omega)], .inr (.inl ⟨rfl, ho, rfl⟩)⟩
            · exact ⟨1, Qv + 1, cmpI_gt (by omega), by rw [hr, if_pos (by omega)], .inl ⟨by omega, rfl⟩⟩
          obtain ⟨cm, mm, hcm, hmm, hcs⟩ := key
          rw [hcm]
          have HFM : Hid (finR mm E' = rnd a b) := by unfold Hid; rw [← hmm]; exact HFIN.out
          clear hcm hmm HFIN HRE HQ HQB HLE HRM HDM
          rcases hcs with ⟨c5, hm⟩ | ⟨c5, hp, hm⟩ | ⟨c5, hp, hm⟩ | ⟨c5, hm⟩
          · subst hm
            skip
            by_cases k1 : Qv + 1 = 9007199254740992
            · have t1 : (((Qv : Int) + 1) == 9007199254740992) = true := by simp; omega
              have K1 : Hid (Qv + 1 = 9007199254740992) := k1
              clear k1
              by_cases k2 : 2047 ≤ E' + 1 + 1075
              · have t2 : decide (2047 ≤ E' + 1 + 1075) = true := by simp; omega
                go_wp2
                go_ret
                refine ⟨ret_int ?_, bf⟩
                rw [← HFM.out]
                unfold finR
                rw [if_pos K1.out, if_pos (by omega)]
                rfl
              · have t2 : decide (2047 ≤ E' + 1 + 1075) = false := by simp; omega
                go_wp2
                go_ret
                refine ⟨ret_int ?_, bf⟩
                rw [← HFM.out]
                unfold finR
                rw [if_pos K1.out, if_neg (by omega)]
                omega
            · have t1 : (((Qv : Int) + 1) == 9007199254740992) = false := by simp; omega
              have K1 : Hid (¬ Qv + 1 = 9007199254740992) := k1
              clear k1
              by_cases k3 : Qv + 1 < 4503599627370496
              · have t3 : decide (((Qv : Int) + 1) < 4503599627370496) = true := by simp; omega
                go_wp2
                go_ret
                refine ⟨ret_int ?_, bf⟩
                rw [← HFM.out]
                unfold finR
                rw [if_neg K1.out, if_pos (by omega)]
                all_goals rfl
              · have t3 : decide (((Qv : Int) + 1) < 4503599627370496) = false := by simp; omega
                by_cases k2 : 2047 ≤ E' + 1075
                · have t2 : decide (2047 ≤ E' + 1075) = true := by simp; omega
                  go_wp2
                  go_ret
                  refine ⟨ret_int ?_, bf⟩
                  rw [← HFM.out]
                  unfold finR
                  rw [if_neg K1.out, if_neg (by omega), if_pos (by omega)]
                  rfl
                · have t2 : decide (2047 ≤ E' + 1075) = false := by simp; omega
                  go_wp2
                  go_ret
                  refine ⟨ret_int ?_, bf⟩
                  rw [← HFM.out]
                  unfold finR
                  rw [if_neg K1.out, if_neg (by omega), if_neg (by omega)]
                  omega
          · subst hm
            subst c5
            have p1 : ((Qv : Int) % 2 == 1) = true := by simp; omega
            by_cases k1 : Qv + 1 = 9007199254740992
            · have t1 : (((Qv : Int) + 1) == 9007199254740992) = true := by simp; omega
              have K1 : Hid (Qv + 1 = 9007199254740992) := k1
              clear k1
              by_cases k2 : 2047 ≤ E' + 1 + 1075
              · have t2 : decide (2047 ≤ E' + 1 + 1075) = true := by simp; omega
                go_wp2
                go_ret
                refine ⟨ret_int ?_, bf⟩
                rw [← HFM.out]
                unfold finR
                rw [if_pos K1.out, if_pos (by omega)]
                rfl
              · have t2 : decide (2047 ≤ E' + 1 + 1075) = false := by simp; omega
                go_wp2
                go_ret
                refine ⟨ret_int ?_, bf⟩
                rw [← HFM.out]
                unfold finR
                rw [if_pos K1.out, if_neg (by omega)]
                omega
            · have t1 : (((Qv : Int) + 1) == 9007199254740992) = false := by simp; omega
              have K1 : Hid (¬ Qv + 1 = 9007199254740992) := k1
              clear k1
              by_cases k3 : Qv + 1 < 4503599627370496
              · have t3 : decide (((Qv : Int) + 1) < 4503599627370496) = true := by simp; omega
                go_wp2
                go_ret
                refine ⟨ret_int ?_, bf⟩
                rw [← HFM.out]
                unfold finR
                rw [if_neg K1.out, if_pos (by omega)]
                all_goals rfl
              · have t3 : decide (((Qv : Int) + 1) < 4503599627370496) = false := by simp; omega
                by_cases k2 : 2047 ≤ E' + 1075
                · have t2 : decide (2047 ≤ E' + 1075) = true := by simp; omega
                  go_wp2
                  go_ret
                  refine ⟨ret_int ?_, bf⟩
                  rw [← HFM.out]
                  unfold finR
                  rw [if_neg K1.out, if_neg (by omega), if_pos (by omega)]
                  rfl
                · have t2 : decide (2047 ≤ E' + 1075) = false := by simp; omega
                  go_wp2
                  go_ret
                  refine ⟨ret_int ?_, bf⟩
                  rw [← HFM.out]
                  unfold finR
                  rw [if_neg K1.out, if_neg (by omega), if_neg (by omega)]
                  omega
          · subst hm
            subst c5
            have p1 : ((mm : Int) % 2 == 1) = false := by simp; omega
            by_cases k1 : mm = 9007199254740992
            · have t1 : ((mm : Int) == 9007199254740992) = true := by simp; omega
              have K1 : Hid (mm = 9007199254740992) := k1
              clear k1
              by_cases k2 : 2047 ≤ E' + 1 + 1075
              · have t2 : decide (2047 ≤ E' + 1 + 1075) = true := by simp; omega
                go_wp2
                go_ret
                refine ⟨ret_int ?_, bf⟩
                rw [← HFM.out]
                unfold finR
                rw [if_pos K1.out, if_pos (by omega)]
                rfl
              · have t2 : decide (2047 ≤ E' + 1 + 1075) = false := by simp; omega
                go_wp2
                go_ret
                refine ⟨ret_int ?_, bf⟩
                rw [← HFM.out]
                unfold finR
                rw [if_pos K1.out, if_neg (by omega)]
                omega
            · have t1 : ((mm : Int) == 9007199254740992) = false := by simp; omega
              have K1 : Hid (¬ mm = 9007199254740992) := k1
              clear k1
              by_cases k3 : mm < 4503599627370496
              · have t3 : decide ((mm : Int) < 4503599627370496) = true := by simp; omega
                go_wp2
                go_ret
                refine ⟨ret_int ?_, bf⟩
                rw [← HFM.out]
                unfold finR
                rw [if_neg K1.out, if_pos (by omega)]
                all_goals rfl
              · have t3 : decide ((mm : Int) < 4503599627370496) = false := by simp; omega
                by_cases k2 : 2047 ≤ E' + 1075
                · have t2 : decide (2047 ≤ E' + 1075) = true := by simp; omega
                  go_wp2
                  go_ret
                  refine ⟨ret_int ?_, bf⟩
                  rw [← HFM.out]
                  unfold finR
                  rw [if_neg K1.out, if_neg (by omega), if_pos (by omega)]
                  rfl
                · have t2 : decide (2047 ≤ E' + 1075) = false := by simp; omega
                  go_wp2
                  go_ret
                  refine ⟨ret_int ?_, bf⟩
                  rw [← HFM.out]
                  unfold finR
                  rw [if_neg K1.out, if_neg (by omega), if_neg (by omega)]
                  omega
          · subst hm
            have p2 : (cm == 0) = false := by simp; omega
            have p3 : decide (0 < cm) = false := by simp; omega
            by_cases k1 : mm = 9007199254740992
            · have t1 : ((mm : Int) == 9007199254740992) = true := by simp; omega
              have K1 : Hid (mm = 9007199254740992) := k1
              clear k1
              by_cases k2 : 2047 ≤ E' + 1 + 1075
              · have t2 : decide (2047 ≤ E' + 1 + 1075) = true := by simp; omega
                go_wp2
                go_ret
                refine ⟨ret_int ?_, bf⟩
                rw [← HFM.out]
                unfold finR
                rw [if_pos K1.out, if_pos (by omega)]
                rfl
              · have t2 : decide (2047 ≤ E' + 1 + 1075) = false := by simp; omega
                go_wp2
                go_ret
                refine ⟨ret_int ?_, bf⟩
                rw [← HFM.out]
                unfold finR
                rw [if_pos K1.out, if_neg (by omega)]
                omega
            · have t1 : ((mm : Int) == 9007199254740992) = false := by simp; omega
              have K1 : Hid (¬ mm = 9007199254740992) := k1
              clear k1
              by_cases k3 : mm < 4503599627370496
              · have t3 : decide ((mm : Int) < 4503599627370496) = true := by simp; omega
                go_wp2
                go_ret
                refine ⟨ret_int ?_, bf⟩
                rw [← HFM.out]
                unfold finR
                rw [if_neg K1.out, if_pos (by omega)]
                all_goals rfl
              · have t3 : decide ((mm : Int) < 4503599627370496) = false := by simp; omega
                by_cases k2 : 2047 ≤ E' + 1075
                · have t2 : decide (2047 ≤ E' + 1075) = true := by simp; omega
                  go_wp2
                  go_ret
                  refine ⟨ret_int ?_, bf⟩
                  rw [← HFM.out]
                  unfold finR
                  rw [if_neg K1.out, if_neg (by omega), if_pos (by omega)]
                  rfl
                · have t2 : decide (2047 ≤ E' + 1075) = false := by simp; omega
                  go_wp2
                  go_ret
                  refine ⟨ret_int ?_, bf⟩
                  rw [← HFM.out]
                  unfold finR
                  rw [if_neg K1.out, if_neg (by omega), if_neg (by omega)]
                  omega
  · have d1 : decide (1 < (NA : Int) - NB) = false := by simp; omega
    by_cases c2 : 30 * ((NA : Int) - NB - 1) - 54 < -1074
    · have d2 : decide (30 * ((NA : Int) - NB - 1) - 54 < -1074) = true := by simp; omega
      obtain ⟨i, hi⟩ : ∃ i : Nat, (1074 : Int) = (i : Int) := ⟨1074, rfl⟩
      have HI : Hid (1074 = (i : Int)) := hi
      have hi2 : i ≤ 1074 := by omega
      clear hi
      go_enter Tryz.func92, Tryz.ntmps92
      go_wp2_with fail
      refine (power2_any _ _ a i (1074) ha (by omega) HI.out (smallB_of_bl (Nat.le_trans (bl_shift a i) (by omega : bl a + i ≤ 3300)) (by omega))).mono ?_
      rintro e w1 ⟨vA, rfl, rA, hbw⟩
      obtain ⟨j, hj⟩ : ∃ j : Nat, j = 0 := ⟨_, rfl⟩
      have rB : RepB w1 0 (.slice ab NB capb) (b * 2 ^ j) := by rw [hj]; simpa using hb.below hbw
      have blA : bl (a * 2 ^ i) ≤ 3300 := Nat.le_trans (bl_shift a i) (by omega)
      have sA : SmallB (a * 2 ^ i) := smallB_of_bl blA (by omega)
      have sB : SmallB (b * 2 ^ j) := smallB_of_bl (Nat.le_trans (bl_shift b j) (by omega : bl b + j ≤ 4400)) (by omega)
      have blX : bl (b * 2 ^ j * 9007199254740992) ≤ 4500 := Nat.le_trans (bl_shift (b * 2 ^ j) 53) (by have := bl_shift b j; omega)
      have hij : 1074 = (i : Int) := HI.out
      obtain ⟨E, hE⟩ : ∃ E : Int, (-1074) = E := ⟨_, rfl⟩
      have HE : Hid (E = (j : Int) - i) := by unfold Hid; rw [← hE]; omega
      have hEb : -1074 ≤ E ∧ E ≤ 2200 := by omega
      have HG : Hid (E = -1074 ∨ E + 52 ≤ plog a b) := by unfold Hid; have := HGU.out; rw [← hE]; unfold guess at this; left; omega
      rw [hE]
      clear hE
      go_wp2_with fail
      refine (small_any _ 1 (by omega)).mono ?_
      rintro e w2 ⟨v2, rfl, r2, b2⟩
      go_wp2_with fail
      refine (power2_any _ v2 1 53 53 (r2.base (Nat.zero_le _)) (by omega) rfl (SmallB.of_lt (k := 54) (by decide) (by omega))).mono ?_
      rintro e w3 ⟨v3, rfl, r3, b3⟩
      rw [show 1 * 2 ^ 53 = 9007199254740992 from rfl] at r3
      have bb3 : Below w1.heap.size w1 w3 := b2.trans (b3.mono b2.size)
      go_wp2_with fail
      refine (product_rep _ (.slice ab NB capb) v3 _ _ (rB.below bb3) r3 sB (SmallB.of_lt (k := 54) (by decide) (by omega))).mono ?_
      rintro e w4 ⟨v4, rfl, r4, b4⟩
      have bb4 : Below w1.heap.size w1 w4 := bb3.trans (b4.mono bb3.size)
      clear b2 b3 b4 bb3 r2 r3
      go_wp2_with fail
      go_loopw [1, 5, 7] (fun vb ve vx wr => ∃ (j' : Nat) (E' : Int), E' = (j' : Int) - i ∧ ve = .int .i64 E' ∧ -1074 ≤ E' ∧ E' ≤ 6000 ∧ RepB wr 0 vb (b * 2 ^ j') ∧ RepB wr 0 vx (b * 2 ^ j' * 9007199254740992) ∧ bl (b * 2 ^ j' * 9007199254740992) ≤ 4500 ∧ (E' = -1074 ∨ E' + 52 ≤ plog a b) ∧ Below w1.heap.size w1 wr) (fun _ ve _ _ => (plog a b + 1 - intOf ve).toNat)
      case atStart => exact ⟨j, E, HE.out, rfl, hEb.1, by omega, (rB.below bb4), r4.base (Nat.zero_le _), blX, HG.out, bb4⟩
      case round =>
        clear HE HG hEb r4 bb4
        obtain ⟨j', E', hE', rfl, hE1, hE2, rb, rx, hblx, hlow, bx⟩ := hrel
        have HE' : Hid (E' = (j' : Int) - i) := hE'
        have HBLX : Hid (bl (b * 2 ^ j' * 9007199254740992) ≤ 4500) := hblx
        have HLOW : Hid (E' = -1074 ∨ E' + 52 ≤ plog a b) := hlow
        have sx : SmallB (b * 2 ^ j' * 9007199254740992) := smallB_of_bl hblx (by omega)
        have sb' : SmallB (b * 2 ^ j' * 1000000000) := sx.le (Nat.mul_le_mul_left _ (by omega))
        have sb1 : SmallB (b * 2 ^ j') := sx.le (Nat.le_mul_of_pos_right _ (by omega))
        have rA' := rA.below bx
        clear hE' hblx hlow
        go_wp2_with fail
        refine (compareB_rep _ vA u7 _ _ rA' rx sA).mono ?_
        rintro e w5 ⟨rfl, nq, rfl⟩
        by_cases hc : b * 2 ^ j' * 9007199254740992 ≤ a * 2 ^ i
        · have hcm : 0 ≤ cmpI ((a * 2 ^ i : Nat) : Int) ((b * 2 ^ j' * 9007199254740992 : Nat) : Int) := by unfold cmpI; split <;> (try split) <;> omega
          generalize cmpI ((a * 2 ^ i : Nat) : Int) ((b * 2 ^ j' * 9007199254740992 : Nat) : Int) = cq at hcm ⊢
          have hmore := round_more ha0 hb0 hc
          rw [← HE'.out] at hmore
          have HM : Hid (E' + 53 ≤ plog a b) := hmore
          have HPB : Hid (plog a b ≤ 5000) := HPU
          have hE3 : E' ≤ 5000 := by have := HPB.out; omega
          have hbl2 : bl (b * 2 ^ j' * 9007199254740992) ≤ 3300 := Nat.le_trans (bl_mono hc) blA
          have HBL2 : Hid (bl (b * 2 ^ j' * 9007199254740992) ≤ 3300) := hbl2
          clear hc hmore hbl2
          go_wp2_with fail
          refine (times_rep _ u7 _ 2 2 ((rx.drewN nq)) sx (by omega) rfl).mono ?_
          rintro e w6 ⟨v6, rfl, r6, b6⟩
          simp only [World.heap_drewN] at r6 b6
          have bx6 : Below w1.heap.size w1 w6 := (below_drewN bx nq).trans (b6.mono bx.size)
          go_wp2_with fail
          refine (times_rep _ u1 _ 2 2 ((rb.drewN nq).below (by simpa using b6)) sb1 (by omega) rfl).mono ?_
          rintro e w7 ⟨v7, rfl, r7, b7⟩
          have bx7 : Below w1.heap.size w1 w7 := bx6.trans (b7.mono bx6.size)
          have r6' := r6.below b7
          go_wp2
          go_roundw
          case rel =>
            refine ⟨j' + 1, E' + 1, by have := HE'.out; omega, rfl, by omega, by omega, ?_, ?_, ?_, .inr (by have := HM.out; omega), bx7⟩
            · rw [Nat.pow_succ, ← Nat.mul_assoc]; exact r7.base (Nat.zero_le _)
            · rw [Nat.pow_succ, ← Nat.mul_assoc, Nat.mul_right_comm]; exact r6'.base (Nat.zero_le _)
            · rw [Nat.pow_succ, ← Nat.mul_assoc, Nat.mul_right_comm]
              have h1 := bl_shift (b * 2 ^ j' * 9007199254740992) 1
              rw [Nat.pow_one] at h1
              have := HBL2.out
              omega
          case measure => simp only [intOf]; have := HM.out; omega
        · have hcm : cmpI ((a * 2 ^ i : Nat) : Int) ((b * 2 ^ j' * 9007199254740992 : Nat) : Int) = -1 := cmpI_lt (by omega)
          rw [hcm]
          have hstop := round_stop ha0 hb0 (by omega : a * 2 ^ i < b * 2 ^ j' * 9007199254740992)
          have hB0 : b * 2 ^ j' ≠ 0 := Nat.ne_of_gt (Nat.mul_pos (by omega) (Nat.pow_pos (by omega)))
          have hfin := finR_eq ha0 hb0 (by rw [← HE'.out]; exact hE1) hstop (by rw [← HE'.out]; exact HLOW.out)
          rw [← HE'.out] at hfin
          have hdm := Nat.div_add_mod (a * 2 ^ i) (b * 2 ^ j')
          have hml := Nat.mod_lt (a * 2 ^ i) (Nat.pos_of_ne_zero hB0)
          obtain ⟨hq1, hq2, hq3⟩ := rhe_bounds hdm.symm hml (by omega)
          have hre := rhe_of' hdm.symm hml
          have hqb : b * 2 ^ j' * (a * 2 ^ i / (b * 2 ^ j')) = a * 2 ^ i - a * 2 ^ i % (b * 2 ^ j') := by omega
          have hle : b * 2 ^ j' * (a * 2 ^ i / (b * 2 ^ j')) ≤ a * 2 ^ i := by omega
          generalize hAv : a * 2 ^ i = A at *
          generalize hBv : b * 2 ^ j' = Bv at *
          generalize hQ : A / Bv = Qv at *
          generalize hRm : A % Bv = Rm at *
          have HFIN : Hid (finR (rhe A Bv) E' = rnd a b) := hfin
          have HRE : Hid (rhe A Bv = if Bv < 2 * Rm ∨ (2 * Rm = Bv ∧ Qv % 2 = 1) then Qv + 1 else Qv) := hre
          have HQ : Hid (A / Bv = Qv) := hQ
          have HQB : Hid (Bv * Qv = A - Rm) := hqb
          have HLE : Hid (Bv * Qv ≤ A) := hle
          have HRM : Hid (Rm < Bv) := hml
          have HDM : Hid (Bv * Qv + Rm = A) := hdm
          clear hcm hfin hre hQ hqb hle hml hdm hq2 hq3 hRm hAv hBv hstop hc HE' HLOW HBLX
          go_wp2_with fail
          refine (divided_any _ vA u1 A Bv (rA'.drewN nq) (rb.drewN nq) hB0 sA sb').mono ?_
          rintro e w6 ⟨v6, rfl, r6, b6⟩
          simp only [World.heap_drewN] at r6 b6
          rw [HQ.out] at r6
          have bx6 : Below w1.heap.size w1 w6 := (below_drewN bx nq).trans (b6.mono bx.size)
          have sQ : SmallB Qv := SmallB.of_lt (k := 53) (by omega) (by omega)
          go_wp2_with fail
          refine (product_rep _ v6 u1 Qv Bv (r6.base (Nat.zero_le _)) ((rb.drewN nq).below (by simpa using b6)) sQ sb1).mono ?_
          rintro e w7 ⟨v7, rfl, r7, b7⟩
          rw [Nat.mul_comm Qv Bv] at r7
          have bx7 : Below w1.heap.size w1 w7 := bx6.trans (b7.mono bx6.size)
          go_wp2_with fail
          refine (minus_rep _ vA v7 A (Bv * Qv) (rA.below bx7) (r7.base (Nat.zero_le _)) sA).mono ?_
          rintro e w8 ⟨v8, d8, rfl, r8, hd8, s8, b8⟩
          have hd8' : d8 = Rm := by have := hd8 HLE.out; have := HDM.out; omega
          subst hd8'
          have bx8 : Below w1.heap.size w1 w8 := bx7.trans (b8.mono bx7.size)
          have rq8 := (r6.below b7).below b8
          obtain ⟨lq, oq, cq, hvq, hlq⟩ := rq8.own sQ
          clear hd8
          go_wp2_with fail
          refine (value_any _ v6 lq (oq.base (Nat.zero_le _)) (by omega) (by rw [hvq]; omega)).mono ?_
          rintro e w9 ⟨rfl, rfl⟩
          rw [hvq]
          clear oq cq hvq hlq rq8
          go_wp2_with fail
          refine (times_rep _ v8 d8 2 2 (r8.base (Nat.zero_le _)) s8 (by omega) rfl).mono ?_
          rintro e w10 ⟨v10, rfl, r10, b10⟩
          have bx10 : Below w1.heap.size w1 w10 := bx8.trans (b10.mono bx8.size)
          have s10 : SmallB (d8 * 2) := sx.le (by have := HRM.out; omega)
          go_wp2_with fail
          refine (compareB_rep _ v10 u1 (d8 * 2) Bv (r10.base (Nat.zero_le _)) (((((rb.drewN nq).below (by simpa using b6)).below b7).below b8).below b10) s10).mono ?_
          rintro e w11 ⟨rfl, nq2, rfl⟩
          have bf : Below w.heap.size w (w10.drewN nq2) := below_drewN (hbw.trans (bx10.mono hbw.size)) nq2
          clear b6 b7 b8 b10 bx6 bx7 bx8 bx10 r6 r7 r8 r10 rx rb rA' bx
          have key : ∃ (cm : Int) (mm : Nat), cmpI ((d8 * 2 : Nat) : Int) (Bv : Int) = cm ∧ rhe A Bv = mm ∧ ((0 < cm ∧ mm = Qv + 1) ∨ (cm = 0 ∧ Qv % 2 = 1 ∧ mm = Qv + 1) ∨ (cm = 0 ∧ Qv % 2 = 0 ∧ mm = Qv) ∨ (cm < 0 ∧ mm = Qv)) := by
            have hr := HRE.out
            rcases Nat.lt_trichotomy (d8 * 2) Bv with h | h | h
            · exact ⟨-1, Qv, cmpI_lt (by omega), by rw [hr, if_neg (by omega)], .inr (.inr (.inr ⟨by omega, rfl⟩))⟩
            · rcases Nat.mod_two_eq_zero_or_one Qv with ho | ho
              · exact ⟨0, Qv, cmpI_eq (by omega), by rw [hr, if_neg (by omega)], .inr (.inr (.inl ⟨rfl, ho, rfl⟩))⟩
              · exact ⟨0, Qv + 1, cmpI_eq (by omega), by rw [hr, if_pos (by omega)], .inr (.inl ⟨rfl, ho, rfl⟩)⟩
            · exact ⟨1, Qv + 1, cmpI_gt (by omega), by rw [hr, if_pos (by omega)], .inl ⟨by omega, rfl⟩⟩
          obtain ⟨cm, mm, hcm, hmm, hcs⟩ := key
          rw [hcm]
          have HFM : Hid (finR mm E' = rnd a b) := by unfold Hid; rw [← hmm]; exact HFIN.out
          clear hcm hmm HFIN HRE HQ HQB HLE HRM HDM
          rcases hcs with ⟨c5, hm⟩ | ⟨c5, hp, hm⟩ | ⟨c5, hp, hm⟩ | ⟨c5, hm⟩
          · subst hm
            skip
            by_cases k1 : Qv + 1 = 9007199254740992
            · have t1 : (((Qv : Int) + 1) == 9007199254740992) = true := by simp; omega
              have K1 : Hid (Qv + 1 = 9007199254740992) := k1
              clear k1
              by_cases k2 : 2047 ≤ E' + 1 + 1075
              · have t2 : decide (2047 ≤ E' + 1 + 1075) = true := by simp; omega
                go_wp2
                go_ret
                refine ⟨ret_int ?_, bf⟩
                rw [← HFM.out]
                unfold finR
                rw [if_pos K1.out, if_pos (by omega)]
                rfl
              · have t2 : decide (2047 ≤ E' + 1 + 1075) = false := by simp; omega
                go_wp2
                go_ret
                refine ⟨ret_int ?_, bf⟩
                rw [← HFM.out]
                unfold finR
                rw [if_pos K1.out, if_neg (by omega)]
                omega
            · have t1 : (((Qv : Int) + 1) == 9007199254740992) = false := by simp; omega
              have K1 : Hid (¬ Qv + 1 = 9007199254740992) := k1
              clear k1
              by_cases k3 : Qv + 1 < 4503599627370496
              · have t3 : decide (((Qv : Int) + 1) < 4503599627370496) = true := by simp; omega
                go_wp2
                go_ret
                refine ⟨ret_int ?_, bf⟩
                rw [← HFM.out]
                unfold finR
                rw [if_neg K1.out, if_pos (by omega)]
                all_goals rfl
              · have t3 : decide (((Qv : Int) + 1) < 4503599627370496) = false := by simp; omega
                by_cases k2 : 2047 ≤ E' + 1075
                · have t2 : decide (2047 ≤ E' + 1075) = true := by simp; omega
                  go_wp2
                  go_ret
                  refine ⟨ret_int ?_, bf⟩
                  rw [← HFM.out]
                  unfold finR
                  rw [if_neg K1.out, if_neg (by omega), if_pos (by omega)]
                  rfl
                · have t2 : decide (2047 ≤ E' + 1075) = false := by simp; omega
                  go_wp2
                  go_ret
                  refine ⟨ret_int ?_, bf⟩
                  rw [← HFM.out]
                  unfold finR
                  rw [if_neg K1.out, if_neg (by omega), if_neg (by omega)]
                  omega
          · subst hm
            subst c5
            have p1 : ((Qv : Int) % 2 == 1) = true := by simp; omega
            by_cases k1 : Qv + 1 = 9007199254740992
            · have t1 : (((Qv : Int) + 1) == 9007199254740992) = true := by simp; omega
              have K1 : Hid (Qv + 1 = 9007199254740992) := k1
              clear k1
              by_cases k2 : 2047 ≤ E' + 1 + 1075
              · have t2 : decide (2047 ≤ E' + 1 + 1075) = true := by simp; omega
                go_wp2
                go_ret
                refine ⟨ret_int ?_, bf⟩
                rw [← HFM.out]
                unfold finR
                rw [if_pos K1.out, if_pos (by omega)]
                rfl
              · have t2 : decide (2047 ≤ E' + 1 + 1075) = false := by simp; omega
                go_wp2
                go_ret
                refine ⟨ret_int ?_, bf⟩
                rw [← HFM.out]
                unfold finR
                rw [if_pos K1.out, if_neg (by omega)]
                omega
            · have t1 : (((Qv : Int) + 1) == 9007199254740992) = false := by simp; omega
              have K1 : Hid (¬ Qv + 1 = 9007199254740992) := k1
              clear k1
              by_cases k3 : Qv + 1 < 4503599627370496
              · have t3 : decide (((Qv : Int) + 1) < 4503599627370496) = true := by simp; omega
                go_wp2
                go_ret
                refine ⟨ret_int ?_, bf⟩
                rw [← HFM.out]
                unfold finR
                rw [if_neg K1.out, if_pos (by omega)]
                all_goals rfl
              · have t3 : decide (((Qv : Int) + 1) < 4503599627370496) = false := by simp; omega
                by_cases k2 : 2047 ≤ E' + 1075
                · have t2 : decide (2047 ≤ E' + 1075) = true := by simp; omega
                  go_wp2
                  go_ret
                  refine ⟨ret_int ?_, bf⟩
                  rw [← HFM.out]
                  unfold finR
                  rw [if_neg K1.out, if_neg (by omega), if_pos (by omega)]
                  rfl
                · have t2 : decide (2047 ≤ E' + 1075) = false := by simp; omega
                  go_wp2
                  go_ret
                  refine ⟨ret_int ?_, bf⟩
                  rw [← HFM.out]
                  unfold finR
                  rw [if_neg K1.out, if_neg (by omega), if_neg (by omega)]
                  omega
          · subst hm
            subst c5
            have p1 : ((mm : Int) % 2 == 1) = false := by simp; omega
            by_cases k1 : mm = 9007199254740992
            · have t1 : ((mm : Int) == 9007199254740992) = true := by simp; omega
              have K1 : Hid (mm = 9007199254740992) := k1
              clear k1
              by_cases k2 : 2047 ≤ E' + 1 + 1075
              · have t2 : decide (2047 ≤ E' + 1 + 1075) = true := by simp; omega
                go_wp2
                go_ret
                refine ⟨ret_int ?_, bf⟩
                rw [← HFM.out]
                unfold finR
                rw [if_pos K1.out, if_pos (by omega)]
                rfl
              · have t2 : decide (2047 ≤ E' + 1 + 1075) = false := by simp; omega
                go_wp2
                go_ret
                refine ⟨ret_int ?_, bf⟩
                rw [← HFM.out]
                unfold finR
                rw [if_pos K1.out, if_neg (by omega)]
                omega
            · have t1 : ((mm : Int) == 9007199254740992) = false := by simp; omega
              have K1 : Hid (¬ mm = 9007199254740992) := k1
              clear k1
              by_cases k3 : mm < 4503599627370496
              · have t3 : decide ((mm : Int) < 4503599627370496) = true := by simp; omega
                go_wp2
                go_ret
                refine ⟨ret_int ?_, bf⟩
                rw [← HFM.out]
                unfold finR
                rw [if_neg K1.out, if_pos (by omega)]
                all_goals rfl
              · have t3 : decide ((mm : Int) < 4503599627370496) = false := by simp; omega
                by_cases k2 : 2047 ≤ E' + 1075
                · have t2 : decide (2047 ≤ E' + 1075) = true := by simp; omega
                  go_wp2
                  go_ret
                  refine ⟨ret_int ?_, bf⟩
                  rw [← HFM.out]
                  unfold finR
                  rw [if_neg K1.out, if_neg (by omega), if_pos (by omega)]
                  rfl
                · have t2 : decide (2047 ≤ E' + 1075) = false := by simp; omega
                  go_wp2
                  go_ret
                  refine ⟨ret_int ?_, bf⟩
                  rw [← HFM.out]
                  unfold finR
                  rw [if_neg K1.out, if_neg (by omega), if_neg (by omega)]
                  omega
          · subst hm
            have p2 : (cm == 0) = false := by simp; omega
            have p3 : decide (0 < cm) = false := by simp; omega
            by_cases k1 : mm = 9007199254740992
            · have t1 : ((mm : Int) == 9007199254740992) = true := by simp; omega
              have K1 : Hid (mm = 9007199254740992) := k1
              clear k1
              by_cases k2 : 2047 ≤ E' + 1 + 1075
              · have t2 : decide (2047 ≤ E' + 1 + 1075) = true := by simp; omega
                go_wp2
                go_ret
                refine ⟨ret_int ?_, bf⟩
                rw [← HFM.out]
                unfold finR
                rw [if_pos K1.out, if_pos (by omega)]
                rfl
              · have t2 : decide (2047 ≤ E' + 1 + 1075) = false := by simp; omega
                go_wp2
                go_ret
                refine ⟨ret_int ?_, bf⟩
                rw [← HFM.out]
                unfold finR
                rw [if_pos K1.out, if_neg (by omega)]
                omega
            · have t1 : ((mm : Int) == 9007199254740992) = false := by simp; omega
              have K1 : Hid (¬ mm = 9007199254740992) := k1
              clear k1
              by_cases k3 : mm < 4503599627370496
              · have t3 : decide ((mm : Int) < 4503599627370496) = true := by simp; omega
                go_wp2
                go_ret
                refine ⟨ret_int ?_, bf⟩
                rw [← HFM.out]
                unfold finR
                rw [if_neg K1.out, if_pos (by omega)]
                all_goals rfl
              · have t3 : decide ((mm : Int) < 4503599627370496) = false := by simp; omega
                by_cases k2 : 2047 ≤ E' + 1075
                · have t2 : decide (2047 ≤ E' + 1075) = true := by simp; omega
                  go_wp2
                  go_ret
                  refine ⟨ret_int ?_, bf⟩
                  rw [← HFM.out]
                  unfold finR
                  rw [if_neg K1.out, if_neg (by omega), if_pos (by omega)]
                  rfl
                · have t2 : decide (2047 ≤ E' + 1075) = false := by simp; omega
                  go_wp2
                  go_ret
                  refine ⟨ret_int ?_, bf⟩
                  rw [← HFM.out]
                  unfold finR
                  rw [if_neg K1.out, if_neg (by omega), if_neg (by omega)]
                  omega
    · have d2 : decide (30 * ((NA : Int) - NB - 1) - 54 < -1074) = false := by simp; omega
      have d3 : decide (30 * ((NA : Int) - NB - 1) - 54 < 0) = true := by simp; omega
      obtain ⟨i, hi⟩ : ∃ i : Nat, -(30 * ((NA : Int) - NB - 1) - 54) = (i : Int) := ⟨(-(30 * ((NA : Int) - NB - 1) - 54)).toNat, by omega⟩
      have HI : Hid (-(30 * ((NA : Int) - NB - 1) - 54) = (i : Int)) := hi
      have hi2 : i ≤ 1074 := by omega
      clear hi
      go_enter Tryz.func92, Tryz.ntmps92
      go_wp2_with fail
      refine (power2_any _ _ a i (-(30 * ((NA : Int) - NB - 1) - 54)) ha (by omega) HI.out (smallB_of_bl (Nat.le_trans (bl_shift a i) (by omega : bl a + i ≤ 3300)) (by omega))).mono ?_
      rintro e w1 ⟨vA, rfl, rA, hbw⟩
      obtain ⟨j, hj⟩ : ∃ j : Nat, j = 0 := ⟨_, rfl⟩
      have rB : RepB w1 0 (.slice ab NB capb) (b * 2 ^ j) := by rw [hj]; simpa using hb.below hbw
      have blA : bl (a * 2 ^ i) ≤ 3300 := Nat.le_trans (bl_shift a i) (by omega)
      have sA : SmallB (a * 2 ^ i) := smallB_of_bl blA (by omega)
      have sB : SmallB (b * 2 ^ j) := smallB_of_bl (Nat.le_trans (bl_shift b j) (by omega : bl b + j ≤ 4400)) (by omega)
      have blX : bl (b * 2 ^ j * 9007199254740992) ≤ 4500 := Nat.le_trans (bl_shift (b * 2 ^ j) 53) (by have := bl_shift b j; omega)
      have hij : -(30 * ((NA : Int) - NB - 1) - 54) = (i : Int) := HI.out
      obtain ⟨E, hE⟩ : ∃ E : Int, (30 * ((NA : Int) - NB - 1) - 54) = E := ⟨_, rfl⟩
      have HE : Hid (E = (j : Int) - i) := by unfold Hid; rw [← hE]; omega
      have hEb : -1074 ≤ E ∧ E ≤ 2200 := by omega
      have HG : Hid (E = -1074 ∨ E + 52 ≤ plog a b) := by unfold Hid; have := HGU.out; rw [← hE]; unfold guess at this; rw [if_neg (by omega)] at this; right; omega
      rw [hE]
      clear hE
      go_wp2_with fail
      refine (small_any _ 1 (by omega)).mono ?_
      rintro e w2 ⟨v2, rfl, r2, b2⟩
      go_wp2_with fail
      refine (power2_any _ v2 1 53 53 (r2.base (Nat.zero_le _)) (by omega) rfl (SmallB.of_lt (k := 54) (by decide) (by omega))).mono ?_
      rintro e w3 ⟨v3, rfl, r3, b3⟩
      rw [show 1 * 2 ^ 53 = 9007199254740992 from rfl] at r3
      have bb3 : Below w1.heap.size w1 w3 := b2.trans (b3.mono b2.size)
      go_wp2_with fail
      refine (product_rep _ (.slice ab NB capb) v3 _ _ (rB.below bb3) r3 sB (SmallB.of_lt (k := 54) (by decide) (by omega))).mono ?_
      rintro e w4 ⟨v4, rfl, r4, b4⟩
      have bb4 : Below w1.heap.size w1 w4 := bb3.trans (b4.mono bb3.size)
      clear b2 b3 b4 bb3 r2 r3
      go_wp2_with fail
      go_loopw [1, 5, 7] (fun vb ve vx wr => ∃ (j' : Nat) (E' : Int), E' = (j' : Int) - i ∧ ve = .int .i64 E' ∧ -1074 ≤ E' ∧ E' ≤ 6000 ∧ RepB wr 0 vb (b * 2 ^ j') ∧ RepB wr 0 vx (b * 2 ^ j' * 9007199254740992) ∧ bl (b * 2 ^ j' * 9007199254740992) ≤ 4500 ∧ (E' = -1074 ∨ E' + 52 ≤ plog a b) ∧ Below w1.heap.size w1 wr) (fun _ ve _ _ => (plog a b + 1 - intOf ve).toNat)
      case atStart => exact ⟨j, E, HE.out, rfl, hEb.1, by omega, (rB.below bb4), r4.base (Nat.zero_le _), blX, HG.out, bb4⟩
      case round =>
        clear HE HG hEb r4 bb4
        obtain ⟨j', E', hE', rfl, hE1, hE2, rb, rx, hblx, hlow, bx⟩ := hrel
        have HE' : Hid (E' = (j' : Int) - i) := hE'
        have HBLX : Hid (bl (b * 2 ^ j' * 9007199254740992) ≤ 4500) := hblx
        have HLOW : Hid (E' = -1074 ∨ E' + 52 ≤ plog a b) := hlow
        have sx : SmallB (b * 2 ^ j' * 9007199254740992) := smallB_of_bl hblx (by omega)
        have sb' : SmallB (b * 2 ^ j' * 1000000000) := sx.le (Nat.mul_le_mul_left _ (by omega))
        have sb1 : SmallB (b * 2 ^ j') := sx.le (Nat.le_mul_of_pos_right _ (by omega))
        have rA' := rA.below bx
        clear hE' hblx hlow
        go_wp2_with fail
        refine (compareB_rep _ vA u7 _ _ rA' rx sA).mono ?_
        rintro e w5 ⟨rfl, nq, rfl⟩
        by_cases hc : b * 2 ^ j' * 9007199254740992 ≤ a * 2 ^ i
        · have hcm : 0 ≤ cmpI ((a * 2 ^ i : Nat) : Int) ((b * 2 ^ j' * 9007199254740992 : Nat) : Int) := by unfold cmpI; split <;> (try split) <;> omega
          generalize cmpI ((a * 2 ^ i : Nat) : Int) ((b * 2 ^ j' * 9007199254740992 : Nat) : Int) = cq at hcm ⊢
          have hmore := round_more ha0 hb0 hc
          rw [← HE'.out] at hmore
          have HM : Hid (E' + 53 ≤ plog a b) := hmore
          have HPB : Hid (plog a b ≤ 5000) := HPU
          have hE3 : E' ≤ 5000 := by have := HPB.out; omega
          have hbl2 : bl (b * 2 ^ j' * 9007199254740992) ≤ 3300 := Nat.le_trans (bl_mono hc) blA
          have HBL2 : Hid (bl (b * 2 ^ j' * 9007199254740992) ≤ 3300) := hbl2
          clear hc hmore hbl2
          go_wp2_with fail
          refine (times_rep _ u7 _ 2 2 ((rx.drewN nq)) sx (by omega) rfl).mono ?_
          rintro e w6 ⟨v6, rfl, r6, b6⟩
          simp only [World.heap_drewN] at r6 b6
          have bx6 : Below w1.heap.size w1 w6 := (below_drewN bx nq).trans (b6.mono bx.size)
          go_wp2_with fail
          refine (times_rep _ u1 _ 2 2 ((rb.drewN nq).below (by simpa using b6)) sb1 (by omega) rfl).mono ?_
          rintro e w7 ⟨v7, rfl, r7, b7⟩
          have bx7 : Below w1.heap.size w1 w7 := bx6.trans (b7.mono bx6.size)
          have r6' := r6.below b7
          go_wp2
          go_roundw
          case rel =>
            refine ⟨j' + 1, E' + 1, by have := HE'.out; omega, rfl, by omega, by omega, ?_, ?_, ?_, .inr (by have := HM.out; omega), bx7⟩
            · rw [Nat.pow_succ, ← Nat.mul_assoc]; exact r7.base (Nat.zero_le _)
            · rw [Nat.pow_succ, ← Nat.mul_assoc, Nat.mul_right_comm]; exact r6'.base (Nat.zero_le _)
            · rw [Nat.pow_succ, ← Nat.mul_assoc, Nat.mul_right_comm]
              have h1 := bl_shift (b * 2 ^ j' * 9007199254740992) 1
              rw [Nat.pow_one] at h1
              have := HBL2.out
              omega
          case measure => simp only [intOf]; have := HM.out; omega
        · have hcm : cmpI ((a * 2 ^ i : Nat) : Int) ((b * 2 ^ j' * 9007199254740992 : Nat) : Int) = -1 := cmpI_lt (by omega)
          rw [hcm]
          have hstop := round_stop ha0 hb0 (by omega : a * 2 ^ i < b * 2 ^ j' * 9007199254740992)
          have hB0 : b * 2 ^ j' ≠ 0 := Nat.ne_of_gt (Nat.mul_pos (by omega) (Nat.pow_pos (by omega)))
          have hfin := finR_eq ha0 hb0 (by rw [← HE'.out]; exact hE1) hstop (by rw [← HE'.out]; exact HLOW.out)
          rw [← HE'.out] at hfin
          have hdm := Nat.div_add_mod (a * 2 ^ i) (b * 2 ^ j')
          have hml := Nat.mod_lt (a * 2 ^ i) (Nat.pos_of_ne_zero hB0)
          obtain ⟨hq1, hq2, hq3⟩ := rhe_bounds hdm.symm hml (by omega)
          have hre := rhe_of' hdm.symm hml
          have hqb : b * 2 ^ j' * (a * 2 ^ i / (b * 2 ^ j')) = a * 2 ^ i - a * 2 ^ i % (b * 2 ^ j') := by omega
          have hle : b * 2 ^ j' * (a * 2 ^ i / (b * 2 ^ j')) ≤ a * 2 ^ i := by omega
          generalize hAv : a * 2 ^ i = A at *
          generalize hBv : b * 2 ^ j' = Bv at *
          generalize hQ : A / Bv = Qv at *
          generalize hRm : A % Bv = Rm at *
          have HFIN : Hid (finR (rhe A Bv) E' = rnd a b) := hfin
          have HRE : Hid (rhe A Bv = if Bv < 2 * Rm ∨ (2 * Rm = Bv ∧ Qv % 2 = 1) then Qv + 1 else Qv) := hre
          have HQ : Hid (A / Bv = Qv) := hQ
          have HQB : Hid (Bv * Qv = A - Rm) := hqb
          have HLE : Hid (Bv * Qv ≤ A) := hle
          have HRM : Hid (Rm < Bv) := hml
          have HDM : Hid (Bv * Qv + Rm = A) := hdm
          clear hcm hfin hre hQ hqb hle hml hdm hq2 hq3 hRm hAv hBv hstop hc HE' HLOW HBLX
          go_wp2_with fail
          refine (divided_any _ vA u1 A Bv (rA'.drewN nq) (rb.drewN nq) hB0 sA sb').mono ?_
          rintro e w6 ⟨v6, rfl, r6, b6⟩
          simp only [World.heap_drewN] at r6 b6
          rw [HQ.out] at r6
          have bx6 : Below w1.heap.size w1 w6 := (below_drewN bx nq).trans (b6.mono bx.size)
          have sQ : SmallB Qv := SmallB.of_lt (k := 53) (by omega) (by omega)
          go_wp2_with fail
          refine (product_rep _ v6 u1 Qv Bv (r6.base (Nat.zero_le _)) ((rb.drewN nq).below (by simpa using b6)) sQ sb1).mono ?_
          rintro e w7 ⟨v7, rfl, r7, b7⟩
          rw [Nat.mul_comm Qv Bv] at r7
          have bx7 : Below w1.heap.size w1 w7 := bx6.trans (b7.mono bx6.size)
          go_wp2_with fail
          refine (minus_rep _ vA v7 A (Bv * Qv) (rA.below bx7) (r7.base (Nat.zero_le _)) sA).mono ?_
          rintro e w8 ⟨v8, d8, rfl, r8, hd8, s8, b8⟩
          have hd8' : d8 = Rm := by have := hd8 HLE.out; have := HDM.out; omega
          subst hd8'
          have bx8 : Below w1.heap.size w1 w8 := bx7.trans (b8.mono bx7.size)
          have rq8 := (r6.below b7).below b8
          obtain ⟨lq, oq, cq, hvq, hlq⟩ := rq8.own sQ
          clear hd8
          go_wp2_with fail
          refine (value_any _ v6 lq (oq.base (Nat.zero_le _)) (by omega) (by rw [hvq]; omega)).mono ?_
          rintro e w9 ⟨rfl, rfl⟩
          rw [hvq]
          clear oq cq hvq hlq rq8
          go_wp2_with fail
          refine (times_rep _ v8 d8 2 2 (r8.base (Nat.zero_le _)) s8 (by omega) rfl).mono ?_
          rintro e w10 ⟨v10, rfl, r10, b10⟩
          have bx10 : Below w1.heap.size w1 w10 := bx8.trans (b10.mono bx8.size)
          have s10 : SmallB (d8 * 2) := sx.le (by have := HRM.out; omega)
          go_wp2_with fail
          refine (compareB_rep _ v10 u1 (d8 * 2) Bv (r10.base (Nat.zero_le _)) (((((rb.drewN nq).below (by simpa using b6)).below b7).below b8).below b10) s10).mono ?_
          rintro e w11 ⟨rfl, nq2, rfl⟩
          have bf : Below w.heap.size w (w10.drewN nq2) := below_drewN (hbw.trans (bx10.mono hbw.size)) nq2
          clear b6 b7 b8 b10 bx6 bx7 bx8 bx10 r6 r7 r8 r10 rx rb rA' bx
          have key : ∃ (cm : Int) (mm : Nat), cmpI ((d8 * 2 : Nat) : Int) (Bv : Int) = cm ∧ rhe A Bv = mm ∧ ((0 < cm ∧ mm = Qv + 1) ∨ (cm = 0 ∧ Qv % 2 = 1 ∧ mm = Qv + 1) ∨ (cm = 0 ∧ Qv % 2 = 0 ∧ mm = Qv) ∨ (cm < 0 ∧ mm = Qv)) := by
            have hr := HRE.out
            rcases Nat.lt_trichotomy (d8 * 2) Bv with h | h | h
            · exact ⟨-1, Qv, cmpI_lt (by omega), by rw [hr, if_neg (by omega)], .inr (.inr (.inr ⟨by omega, rfl⟩))⟩
            · rcases Nat.mod_two_eq_zero_or_one Qv with ho | ho
              · exact ⟨0, Qv, cmpI_eq (by omega), by rw [hr, if_neg (by omega)], .inr (.inr (.inl ⟨rfl, ho, rfl⟩))⟩
              · exact ⟨0, Qv + 1, cmpI_eq (by omega), by rw [hr, if_pos (by omega)], .inr (.inl ⟨rfl, ho, rfl⟩)⟩
            · exact ⟨1, Qv + 1, cmpI_gt (by omega), by rw [hr, if_pos (by omega)], .inl ⟨by omega, rfl⟩⟩
          obtain ⟨cm, mm, hcm, hmm, hcs⟩ := key
          rw [hcm]
          have HFM : Hid (finR mm E' = rnd a b) := by unfold Hid; rw [← hmm]; exact HFIN.out
          clear hcm hmm HFIN HRE HQ HQB HLE HRM HDM
          rcases hcs with ⟨c5, hm⟩ | ⟨c5, hp, hm⟩ | ⟨c5, hp, hm⟩ | ⟨c5, hm⟩
          · subst hm
            skip
            by_cases k1 : Qv + 1 = 9007199254740992
            · have t1 : (((Qv : Int) + 1) == 9007199254740992) = true := by simp; omega
              have K1 : Hid (Qv + 1 = 9007199254740992) := k1
              clear k1
              by_cases k2 : 2047 ≤ E' + 1 + 1075
              · have t2 : decide (2047 ≤ E' + 1 + 1075) = true := by simp; omega
                go_wp2
                go_ret
                refine ⟨ret_int ?_, bf⟩
                rw [← HFM.out]
                unfold finR
                rw [if_pos K1.out, if_pos (by omega)]
                rfl
              · have t2 : decide (2047 ≤ E' + 1 + 1075) = false := by simp; omega
                go_wp2
                go_ret
                refine ⟨ret_int ?_, bf⟩
                rw [← HFM.out]
                unfold finR
                rw [if_pos K1.out, if_neg (by omega)]
                omega
            · have t1 : (((Qv : Int) + 1) == 9007199254740992) = false := by simp; omega
              have K1 : Hid (¬ Qv + 1 = 9007199254740992) := k1
              clear k1
              by_cases k3 : Qv + 1 < 4503599627370496
              · have t3 : decide (((Qv : Int) + 1) < 4503599627370496) = true := by simp; omega
                go_wp2
                go_ret
                refine ⟨ret_int ?_, bf⟩
                rw [← HFM.out]
                unfold finR
                rw [if_neg K1.out, if_pos (by omega)]
                all_goals rfl
              · have t3 : decide (((Qv : Int) + 1) < 4503599627370496) = false := by simp; omega
                by_cases k2 : 2047 ≤ E' + 1075
                · have t2 : decide (2047 ≤ E' + 1075) = true := by simp; omega
                  go_wp2
                  go_ret
                  refine ⟨ret_int ?_, bf⟩
                  rw [← HFM.out]
                  unfold finR
                  rw [if_neg K1.out, if_neg (by omega), if_pos (by omega)]
                  rfl
                · have t2 : decide (2047 ≤ E' + 1075) = false := by simp; omega
                  go_wp2
                  go_ret
                  refine ⟨ret_int ?_, bf⟩
                  rw [← HFM.out]
                  unfold finR
                  rw [if_neg K1.out, if_neg (by omega), if_neg (by omega)]
                  omega
          · subst hm
            subst c5
            have p1 : ((Qv : Int) % 2 == 1) = true := by simp; omega
            by_cases k1 : Qv + 1 = 9007199254740992
            · have t1 : (((Qv : Int) + 1) == 9007199254740992) = true := by simp; omega
              have K1 : Hid (Qv + 1 = 9007199254740992) := k1
              clear k1
              by_cases k2 : 2047 ≤ E' + 1 + 1075
              · have t2 : decide (2047 ≤ E' + 1 + 1075) = true := by simp; omega
                go_wp2
                go_ret
                refine ⟨ret_int ?_, bf⟩
                rw [← HFM.out]
                unfold finR
                rw [if_pos K1.out, if_pos (by omega)]
                rfl
              · have t2 : decide (2047 ≤ E' + 1 + 1075) = false := by simp; omega
                go_wp2
                go_ret
                refine ⟨ret_int ?_, bf⟩
                rw [← HFM.out]
                unfold finR
                rw [if_pos K1.out, if_neg (by omega)]
                omega
            · have t1 : (((Qv : Int) + 1) == 9007199254740992) = false := by simp; omega
              have K1 : Hid (¬ Qv + 1 = 9007199254740992) := k1
              clear k1
              by_cases k3 : Qv + 1 < 4503599627370496
              · have t3 : decide (((Qv : Int) + 1) < 4503599627370496) = true := by simp; omega
                go_wp2
                go_ret
                refine ⟨ret_int ?_, bf⟩
                rw [← HFM.out]
                unfold finR
                rw [if_neg K1.out, if_pos (by omega)]
                all_goals rfl
              · have t3 : decide (((Qv : Int) + 1) < 4503599627370496) = false := by simp; omega
                by_cases k2 : 2047 ≤ E' + 1075
                · have t2 : decide (2047 ≤ E' + 1075) = true := by simp; omega
                  go_wp2
                  go_ret
                  refine ⟨ret_int ?_, bf⟩
                  rw [← HFM.out]
                  unfold finR
                  rw [if_neg K1.out, if_neg (by omega), if_pos (by omega)]
                  rfl
                · have t2 : decide (2047 ≤ E' + 1075) = false := by simp; omega
                  go_wp2
                  go_ret
                  refine ⟨ret_int ?_, bf⟩
                  rw [← HFM.out]
                  unfold finR
                  rw [if_neg K1.out, if_neg (by omega), if_neg (by omega)]
                  omega
          · subst hm
            subst c5
            have p1 : ((mm : Int) % 2 == 1) = false := by simp; omega
            by_cases k1 : mm = 9007199254740992
            · have t1 : ((mm : Int) == 9007199254740992) = true := by simp; omega
              have K1 : Hid (mm = 9007199254740992) := k1
              clear k1
              by_cases k2 : 2047 ≤ E' + 1 + 1075
              · have t2 : decide (2047 ≤ E' + 1 + 1075) = true := by simp; omega
                go_wp2
                go_ret
                refine ⟨ret_int ?_, bf⟩
                rw [← HFM.out]
                unfold finR
                rw [if_pos K1.out, if_pos (by omega)]
                rfl
              · have t2 : decide (2047 ≤ E' + 1 + 1075) = false := by simp; omega
                go_wp2
                go_ret
                refine ⟨ret_int ?_, bf⟩
                rw [← HFM.out]
                unfold finR
                rw [if_pos K1.out, if_neg (by omega)]
                omega
            · have t1 : ((mm : Int) == 9007199254740992) = false := by simp; omega
              have K1 : Hid (¬ mm = 9007199254740992) := k1
              clear k1
              by_cases k3 : mm < 4503599627370496
              · have t3 : decide ((mm : Int) < 4503599627370496) = true := by simp; omega
                go_wp2
                go_ret
                refine ⟨ret_int ?_, bf⟩
                rw [← HFM.out]
                unfold finR
                rw [if_neg K1.out, if_pos (by omega)]
                all_goals rfl
              · have t3 : decide ((mm : Int) < 4503599627370496) = false := by simp; omega
                by_cases k2 : 2047 ≤ E' + 1075
                · have t2 : decide (2047 ≤ E' + 1075) = true := by simp; omega
                  go_wp2
                  go_ret
                  refine ⟨ret_int ?_, bf⟩
                  rw [← HFM.out]
                  unfold finR
                  rw [if_neg K1.out, if_neg (by omega), if_pos (by omega)]
                  rfl
                · have t2 : decide (2047 ≤ E' + 1075) = false := by simp; omega
                  go_wp2
                  go_ret
                  refine ⟨ret_int ?_, bf⟩
                  rw [← HFM.out]
                  unfold finR
                  rw [if_neg K1.out, if_neg (by omega), if_neg (by omega)]
                  omega
          · subst hm
            have p2 : (cm == 0) = false := by simp; omega
            have p3 : decide (0 < cm) = false := by simp; omega
            by_cases k1 : mm = 9007199254740992
            · have t1 : ((mm : Int) == 9007199254740992) = true := by simp; omega
              have K1 : Hid (mm = 9007199254740992) := k1
              clear k1
              by_cases k2 : 2047 ≤ E' + 1 + 1075
              · have t2 : decide (2047 ≤ E' + 1 + 1075) = true := by simp; omega
                go_wp2
                go_ret
                refine ⟨ret_int ?_, bf⟩
                rw [← HFM.out]
                unfold finR
                rw [if_pos K1.out, if_pos (by omega)]
                rfl
              · have t2 : decide (2047 ≤ E' + 1 + 1075) = false := by simp; omega
                go_wp2
                go_ret
                refine ⟨ret_int ?_, bf⟩
                rw [← HFM.out]
                unfold finR
                rw [if_pos K1.out, if_neg (by omega)]
                omega
            · have t1 : ((mm : Int) == 9007199254740992) = false := by simp; omega
              have K1 : Hid (¬ mm = 9007199254740992) := k1
              clear k1
              by_cases k3 : mm < 4503599627370496
              · have t3 : decide ((mm : Int) < 4503599627370496) = true := by simp; omega
                go_wp2
                go_ret
                refine ⟨ret_int ?_, bf⟩
                rw [← HFM.out]
                unfold finR
                rw [if_neg K1.out, if_pos (by omega)]
                all_goals rfl
              · have t3 : decide ((mm : Int) < 4503599627370496) = false := by simp; omega
                by_cases k2 : 2047 ≤ E' + 1075
                · have t2 : decide (2047 ≤ E' + 1075) = true := by simp; omega
                  go_wp2
                  go_ret
                  refine ⟨ret_int ?_, bf⟩
                  rw [← HFM.out]
                  unfold finR
                  rw [if_neg K1.out, if_neg (by omega), if_pos (by omega)]
                  rfl
                · have t2 : decide (2047 ≤ E' + 1075) = false := by simp; omega
                  go_wp2
                  go_ret
                  refine ⟨ret_int ?_, bf⟩
                  rw [← HFM.out]
                  unfold finR
                  rw [if_neg K1.out, if_neg (by omega), if_neg (by omega)]
                  omega
end Go.Proofs.YthdcceackfdbbaaGreatDoor
