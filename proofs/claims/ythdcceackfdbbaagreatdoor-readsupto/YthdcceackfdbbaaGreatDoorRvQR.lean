import Derived.Test.YthdcceackfdbbaaGreatDoorRsQR
import Derived.Test.YthdcceackfdbbaaGreatDoorRtQR
import Derived.Test.YthdcceackfdbbaaGreatDoorRuQR

namespace Go.Proofs.YthdcceackfdbbaaGreatDoor
open Go.RowKit
theorem ten_bl2 (n : Nat) : bl (10 ^ n) ≤ 10 * (n / 3 + 1) := by
  refine bl_le ?_
  refine Nat.lt_of_le_of_lt (Nat.pow_le_pow_right (by omega) (by omega : n ≤ 3 * (n / 3 + 1))) ?_
  rw [Nat.pow_mul, Nat.pow_mul]
  exact Nat.pow_lt_pow_left (by decide) (by omega)
theorem powT_bd {l : List UInt8} {q : Int} (h : powT l = some q) : -1000000 ≤ q ∧ q ≤ 1000000 := by
  cases l with
  | nil => simp [powT] at h; omega
  | cons c r =>
    simp only [powT] at h
    split at h
    · split at h
      · cases h
      · have := bigW_le (digs_takeWhile (signL r).2)
        simp only [Option.some.injEq] at h
        subst h
        split <;> omega
    · cases h
theorem tokL_facts {l ds : List UInt8} {q : Int} (h : tokL l = some (ds, q)) : Digs ds ∧ ds.length ≤ l.length ∧ -1000000 - (l.length : Int) ≤ q ∧ q ≤ 1000000 := by
  unfold tokL at h
  split at h
  · cases h
  · cases hp : powT (fracL (l.dropWhile isDig)).2 with
    | none => rw [hp] at h; cases h
    | some p =>
      rw [hp] at h
      simp only [Option.map_some, Option.some.injEq, Prod.mk.injEq] at h
      obtain ⟨h1, h2⟩ := h
      have b := powT_bd hp
      have l1 := fracL_len (l.dropWhile isDig)
      have l2 := span_len l
      refine ⟨?_, ?_, by omega, by omega⟩
      · rw [← h1]; exact digs_append (digs_takeWhile l) (fracL_digs _)
      · rw [← h1, List.length_append]; omega
set_option maxRecDepth 20000 in
set_option maxHeartbeats 6400000 in
theorem rscan_any (w : World) (s : ByteArray) (hs : s.size ≤ maxLen) :
    Calls Tryz.prog 57 #[.string s] w fun e w' => e = .returned (.tuple #[.int .u64 ((scanL s.data.toList).1 : Int), .int .i64 ((scanL s.data.toList).2 : Int)]) ∧ Below w.heap.size w w' := by
  unfold maxLen at hs
  have hszl : s.data.toList.length = s.size := by simp
  have HSZ : Hid (s.data.toList.length = s.size) := hszl
  clear hszl
  by_cases c0 : 60 < s.size
  · have HF : Hid (scanL s.data.toList = (0, 1)) := by unfold Hid scanL; rw [if_pos (by rw [HSZ.out]; exact c0)]
    go_enter Tryz.func57, Tryz.ntmps57
    go_wp2
    go_ret2
    exact ⟨by rw [HF.out]; rfl, Below.refl _ _⟩
  · have n60 : ¬ 60 < s.data.toList.length := by rw [HSZ.out]; exact c0
    by_cases c1 : s.data.toList = [110, 97, 110]
    · have HF : Hid (scanL s.data.toList = (9221120237041090560, 0)) := by rw [c1]; rfl
      have b1 := list_eq_beq c1
      clear c1 n60
      go_enter Tryz.func57, Tryz.ntmps57
      go_wp2
      go_ret2
      exact ⟨by rw [HF.out]; rfl, Below.refl _ _⟩
    · have b1 := list_ne_beq c1
      by_cases c2 : s.data.toList = [105, 110, 102]
      · have HF : Hid (scanL s.data.toList = (9218868437227405312, 0)) := by rw [c2]; rfl
        have b2 := list_eq_beq c2
        clear c1 c2 n60
        go_enter Tryz.func57, Tryz.ntmps57
        go_wp2
        go_ret2
        exact ⟨by rw [HF.out]; rfl, Below.refl _ _⟩
      · have b2 := list_ne_beq c2
        by_cases c3 : s.data.toList = [43, 105, 110, 102]
        · have HF : Hid (scanL s.data.toList = (9218868437227405312, 0)) := by rw [c3]; rfl
          have b3 := list_eq_beq c3
          clear c1 c2 c3 n60
          go_enter Tryz.func57, Tryz.ntmps57
          go_wp2
          go_ret2
          exact ⟨by rw [HF.out]; rfl, Below.refl _ _⟩
        · have b3 := list_ne_beq c3
          by_cases c4 : s.data.toList = [45, 105, 110, 102]
          · have HF : Hid (scanL s.data.toList = (18442240474082181120, 0)) := by rw [c4]; rfl
            have b4 := list_eq_beq c4
            clear c1 c2 c3 c4 n60
            go_enter Tryz.func57, Tryz.ntmps57
            go_wp2
            go_ret2
            exact ⟨by rw [HF.out]; rfl, Below.refl _ _⟩
          · have b4 := list_ne_beq c4
            obtain ⟨m, sr, hsg⟩ : ∃ m sr, signL s.data.toList = (m, sr) := ⟨_, _, rfl⟩
            have hsl := signL_len s.data.toList
            rw [HSZ.out, hsg] at hsl
            simp only at hsl
            have HF : Hid (scanL s.data.toList = finT (tokL sr) m) := by
              unfold Hid scanL
              rw [if_neg n60, if_neg (by rintro (h | h); exact c2 h; exact c3 h), if_neg c4, if_neg c1, hsg]
              exact (fin_both (l := sr) (by omega) m).symm
            clear c1 c2 c3 c4 n60
            cases hl : s.data.toList with
            | nil =>
              have hz : s.size = 0 := by rw [bytes_size hl]; rfl
              rw [hl] at hsg
              have hmr : false = m ∧ ([] : List UInt8) = sr := by simpa [signL] using hsg
              obtain ⟨rfl, hsr⟩ := hmr
              have HS : Hid (s.data.toList = sr) := by unfold Hid; rw [hl, hsr]
              rw [← hl]
              clear hsg hl hsr
              go_enter Tryz.func57, Tryz.ntmps57
              go_wp2_with fail
              refine (token_any _ (s) (by rw [bytes_size HS.out]; omega)).mono ?_
              rintro e w1 ⟨htp, rfl⟩
              obtain ⟨d, p, ok, rfl, htk⟩ := htp
              rw [HS.out] at htk
              cases hto : tokL sr with
              | none =>
                rw [hto] at htk
                have hok : ok = false := htk
                subst hok
                have HF2 : Hid (scanL s.data.toList = (0, 1)) := by unfold Hid; rw [HF.out, hto]; rfl
                clear HF hto htk
                go_wp2
                go_ret2
                exact ⟨by rw [HF2.out]; rfl, Below.refl _ _⟩
              | some dq =>
                obtain ⟨ds, q⟩ := dq
                rw [hto] at htk
                obtain ⟨hok, hds, hpq⟩ : ok = true ∧ d.data.toList = ds ∧ p = q := htk
                subst hok
                subst hpq
                obtain ⟨f1, f2, f3, f4⟩ := tokL_facts hto
                have hdg : Digs d.data.toList := by rw [hds]; exact f1
                have hdsz : d.size ≤ 60 := by rw [bytes_size hds]; omega
                have HF2 : Hid (scanL s.data.toList = (0 + refR (dval d.data.toList) p, 0)) := by unfold Hid; rw [HF.out, hto, hds]; rfl
                have hlt := dval_lt hdg
                rw [show d.data.toList.length = d.size from by simp] at hlt
                have blD : bl (dval d.data.toList) ≤ 210 := Nat.le_trans (bl_mono (Nat.le_of_lt hlt)) (Nat.le_trans (ten_bl2 d.size) (by omega))
                clear HF hto f1 f2 hds hlt
                go_wp2_with fail
                refine (digits_any _ d hdg (by omega)).mono ?_
                rintro e w2 ⟨v2, rfl, r2, b2⟩
                generalize dval d.data.toList = D at *
                obtain ⟨l2, o2, c2, hv2⟩ := r2
                have sD : SmallB D := smallB_of_bl blD (by omega)
                have hl2 := RepB.len o2 c2 hv2 sD
                obtain ⟨a2, cap2, hve, _, _, _⟩ := o2.shape1
                have r2 : RepB w2 0 v2 D := ⟨l2, o2.base (Nat.zero_le _), c2, hv2⟩
                have HD0 : Hid (l2.length = 0 ↔ D = 0) := by
                  unfold Hid; constructor
                  · intro h; rw [List.length_eq_zero_iff.1 h] at hv2; simpa [valB] using hv2.symm
                  · intro h; rw [canon_zeroB c2 (by omega)]; rfl
                rw [hve] at r2
                rw [hve]
                generalize hN2 : l2.length = N2 at *
                clear o2 c2 hv2 hve hN2
                by_cases hD : D = 0
                · have hn2 : N2 = 0 := HD0.out.2 hD
                  subst hn2
                  have HR : Hid (refR D p = 0) := by unfold Hid refR; rw [if_pos (.inl hD)]
                  clear hD HD0
                  go_wp2
                  go_ret2
                  exact ⟨by rw [HF2.out, HR.out]; rfl, b2⟩
                · have hn2 : ((N2 : Int) == 0) = false := by simp; intro h; exact hD (HD0.out.1 h)
                  by_cases c5 : p < -500
                  · have t5 : decide (p < -500) = true := by simp; omega
                    have HR : Hid (refR D p = 0) := by unfold Hid refR; rw [if_pos (.inr c5)]
                    go_wp2
                    go_ret2
                    exact ⟨by rw [HF2.out, HR.out]; rfl, b2⟩
                  · have t5 : decide (p < -500) = false := by simp; omega
                    by_cases c6 : 500 < p
                    · have t6 : decide (500 < p) = true := by simp; omega
                      have HR : Hid (refR D p = 9218868437227405312) := by unfold Hid refR; rw [if_neg (by omega), if_pos c6]
                      go_wp2
                      go_ret2
                      exact ⟨by rw [HF2.out, HR.out]; rfl, b2⟩
                    · have t6 : decide (500 < p) = false := by simp; omega
                      have HR : Hid (refR D p = decRnd D p) := by unfold Hid refR; rw [if_neg (by omega), if_neg c6]
                      by_cases c7 : 0 ≤ p
                      · have t7 : decide (0 ≤ p) = true := by simp; omega
                        obtain ⟨n, rfl⟩ := Int.eq_ofNat_of_zero_le c7
                        have HR2 : Hid (refR D (n : Int) = rnd (D * 10 ^ n) 1) := by unfold Hid; rw [HR.out]; unfold decRnd; rw [if_neg hD, if_pos c7]; rfl
                        have hA0 : D * 10 ^ n ≠ 0 := Nat.ne_of_gt (Nat.mul_pos (by omega) (ten_pow_pos _))
                        have blA : bl (D * 10 ^ n) ≤ 2200 := Nat.le_trans (bl_mul D (10 ^ n)) (by have := ten_bl2 n; omega)
                        have hle := rnd_le (D * 10 ^ n) 1 hA0 (by omega)
                        go_wp2_with fail
                        refine (small_any _ 1 (by omega)).mono ?_
                        rintro e w3 ⟨v3, rfl, r3, b3⟩
                        go_wp2_with fail
                        refine (power10_any _ _ D n (n : Int) (r2.below b3) (by omega) rfl (smallB_of_bl blA (by omega))).mono ?_
                        rintro e w4 ⟨v4, rfl, r4, b4⟩
                        go_wp2_with fail
                        refine (rounded_any _ v4 v3 (D * 10 ^ n) 1 r4 ((r3.base (Nat.zero_le _)).below b4) hA0 (by omega) blA (by decide)).mono ?_
                        rintro e w5 ⟨rfl, b5⟩
                        generalize rnd (D * 10 ^ n) 1 = RN at *
                        have bf : Below w.heap.size w w5 := b2.trans ((b3.mono b2.size).trans ((b4.mono (Nat.le_trans b2.size b3.size)).trans (b5.mono (Nat.le_trans b2.size (Nat.le_trans b3.size b4.size)))))
                        go_wp2
                        go_ret2
                        refine ⟨?_, bf⟩
                        rw [HF2.out, HR2.out]
                        exact ret2 (by simp) rfl
                      · have t7 : decide (0 ≤ p) = false := by simp; omega
                        obtain ⟨n, hn⟩ : ∃ n : Nat, -p = (n : Int) := ⟨(-p).toNat, by omega⟩
                        have HN : Hid (-p = (n : Int)) := hn
                        have hn5 : n ≤ 500 := by omega
                        have HR2 : Hid (refR D p = rnd D (10 ^ n)) := by unfold Hid; rw [HR.out]; unfold decRnd; rw [if_neg hD, if_neg c7, hn]; rfl
                        have hle := rnd_le D (10 ^ n) hD (Nat.ne_of_gt (ten_pow_pos _))
                        have blB : bl (10 ^ n) ≤ 2200 := Nat.le_trans (ten_bl2 n) (by omega)
                        clear hn
                        go_wp2_with fail
                        refine (small_any _ 1 (by omega)).mono ?_
                        rintro e w3 ⟨v3, rfl, r3, b3⟩
                        go_wp2_with fail
                        refine (power10_any _ _ 1 n (-p) (r3.base (Nat.zero_le _)) (by omega) HN.out (by rw [Nat.one_mul]; exact smallB_of_bl blB (by omega))).mono ?_
                        rintro e w4 ⟨v4, rfl, r4, b4⟩
                        rw [Nat.one_mul] at r4
                        go_wp2_with fail
                        refine (rounded_any _ _ v4 D (10 ^ n) ((r2.below b3).below b4) r4 hD (Nat.ne_of_gt (ten_pow_pos _)) (by omega) blB).mono ?_
                        rintro e w5 ⟨rfl, b5⟩
                        generalize rnd D (10 ^ n) = RN at *
                        have bf : Below w.heap.size w w5 := b2.trans ((b3.mono b2.size).trans ((b4.mono (Nat.le_trans b2.size b3.size)).trans (b5.mono (Nat.le_trans b2.size (Nat.le_trans b3.size b4.size)))))
                        go_wp2
                        go_ret2
                        refine ⟨?_, bf⟩
                        rw [HF2.out, HR2.out]
                        exact ret2 (by simp) rfl
            | cons c r =>
              have hsz1 := bytes_size hl
              have hp : 0 < s.size := by simp at hsz1; omega
              have HH : Hid (s[0] = c) := bytes_head hl hp
              have HD1 : Hid ((s.extract 1 s.size).data.toList = r) := drop_one hl
              rw [hl] at hsg
              rw [← hl]
              by_cases y1 : c = 45
              · have q1 : ((s[0].toNat : Int) == 45) = true := by rw [HH.out, y1]; rfl
                have hmr : true = m ∧ r = sr := by simpa [signL, y1] using hsg
                obtain ⟨rfl, hsr⟩ := hmr
                have HS : Hid ((s.extract 1 s.size).data.toList = sr) := by unfold Hid; rw [← hsr]; exact HD1
                clear hsg hl hsz1 y1 hsr
                go_enter Tryz.func57, Tryz.ntmps57
                go_wp2_with fail
                refine (token_any _ (s.extract 1 s.size) (by rw [bytes_size HS.out]; omega)).mono ?_
                rintro e w1 ⟨htp, rfl⟩
                obtain ⟨d, p, ok, rfl, htk⟩ := htp
                rw [HS.out] at htk
                cases hto : tokL sr with
                | none =>
                  rw [hto] at htk
                  have hok : ok = false := htk
                  subst hok
                  have HF2 : Hid (scanL s.data.toList = (0, 1)) := by unfold Hid; rw [HF.out, hto]; rfl
                  clear HF hto htk
                  go_wp2
                  go_ret2
                  exact ⟨by rw [HF2.out]; rfl, Below.refl _ _⟩
                | some dq =>
                  obtain ⟨ds, q⟩ := dq
                  rw [hto] at htk
                  obtain ⟨hok, hds, hpq⟩ : ok = true ∧ d.data.toList = ds ∧ p = q := htk
                  subst hok
                  subst hpq
                  obtain ⟨f1, f2, f3, f4⟩ := tokL_facts hto
                  have hdg : Digs d.data.toList := by rw [hds]; exact f1
                  have hdsz : d.size ≤ 60 := by rw [bytes_size hds]; omega
                  have HF2 : Hid (scanL s.data.toList = (9223372036854775808 + refR (dval d.data.toList) p, 0)) := by unfold Hid; rw [HF.out, hto, hds]; rfl
                  have hlt := dval_lt hdg
                  rw [show d.data.toList.length = d.size from by simp] at hlt
                  have blD : bl (dval d.data.toList) ≤ 210 := Nat.le_trans (bl_mono (Nat.le_of_lt hlt)) (Nat.le_trans (ten_bl2 d.size) (by omega))
                  clear HF hto f1 f2 hds hlt
                  go_wp2_with fail
                  refine (digits_any _ d hdg (by omega)).mono ?_
                  rintro e w2 ⟨v2, rfl, r2, b2⟩
                  generalize dval d.data.toList = D at *
                  obtain ⟨l2, o2, c2, hv2⟩ := r2
                  have sD : SmallB D := smallB_of_bl blD (by omega)
                  have hl2 := RepB.len o2 c2 hv2 sD
                  obtain ⟨a2, cap2, hve, _, _, _⟩ := o2.shape1
                  have r2 : RepB w2 0 v2 D := ⟨l2, o2.base (Nat.zero_le _), c2, hv2⟩
                  have HD0 : Hid (l2.length = 0 ↔ D = 0) := by
                    unfold Hid; constructor
                    · intro h; rw [List.length_eq_zero_iff.1 h] at hv2; simpa [valB] using hv2.symm
                    · intro h; rw [canon_zeroB c2 (by omega)]; rfl
                  rw [hve] at r2
                  rw [hve]
                  generalize hN2 : l2.length = N2 at *
                  clear o2 c2 hv2 hve hN2
                  by_cases hD : D = 0
                  · have hn2 : N2 = 0 := HD0.out.2 hD
                    subst hn2
                    have HR : Hid (refR D p = 0) := by unfold Hid refR; rw [if_pos (.inl hD)]
                    clear hD HD0
                    go_wp2
                    go_ret2
                    exact ⟨by rw [HF2.out, HR.out]; rfl, b2⟩
                  · have hn2 : ((N2 : Int) == 0) = false := by simp; intro h; exact hD (HD0.out.1 h)
                    by_cases c5 : p < -500
                    · have t5 : decide (p < -500) = true := by simp; omega
                      have HR : Hid (refR D p = 0) := by unfold Hid refR; rw [if_pos (.inr c5)]
                      go_wp2
                      go_ret2
                      exact ⟨by rw [HF2.out, HR.out]; rfl, b2⟩
                    · have t5 : decide (p < -500) = false := by simp; omega
                      by_cases c6 : 500 < p
                      · have t6 : decide (500 < p) = true := by simp; omega
                        have HR : Hid (refR D p = 9218868437227405312) := by unfold Hid refR; rw [if_neg (by omega), if_pos c6]
                        go_wp2
                        go_ret2
                        exact ⟨by rw [HF2.out, HR.out]; rfl, b2⟩
                      · have t6 : decide (500 < p) = false := by simp; omega
                        have HR : Hid (refR D p = decRnd D p) := by unfold Hid refR; rw [if_neg (by omega), if_neg c6]
                        by_cases c7 : 0 ≤ p
                        · have t7 : decide (0 ≤ p) = true := by simp; omega
                          obtain ⟨n, rfl⟩ := Int.eq_ofNat_of_zero_le c7
                          have HR2 : Hid (refR D (n : Int) = rnd (D * 10 ^ n) 1) := by unfold Hid; rw [HR.out]; unfold decRnd; rw [if_neg hD, if_pos c7]; rfl
                          have hA0 : D * 10 ^ n ≠ 0 := Nat.ne_of_gt (Nat.mul_pos (by omega) (ten_pow_pos _))
                          have blA : bl (D * 10 ^ n) ≤ 2200 := Nat.le_trans (bl_mul D (10 ^ n)) (by have := ten_bl2 n; omega)
                          have hle := rnd_le (D * 10 ^ n) 1 hA0 (by omega)
                          go_wp2_with fail
                          refine (small_any _ 1 (by omega)).mono ?_
                          rintro e w3 ⟨v3, rfl, r3, b3⟩
                          go_wp2_with fail
                          refine (power10_any _ _ D n (n : Int) (r2.below b3) (by omega) rfl (smallB_of_bl blA (by omega))).mono ?_
                          rintro e w4 ⟨v4, rfl, r4, b4⟩
                          go_wp2_with fail
                          refine (rounded_any _ v4 v3 (D * 10 ^ n) 1 r4 ((r3.base (Nat.zero_le _)).below b4) hA0 (by omega) blA (by decide)).mono ?_
                          rintro e w5 ⟨rfl, b5⟩
                          generalize rnd (D * 10 ^ n) 1 = RN at *
                          have bf : Below w.heap.size w w5 := b2.trans ((b3.mono b2.size).trans ((b4.mono (Nat.le_trans b2.size b3.size)).trans (b5.mono (Nat.le_trans b2.size (Nat.le_trans b3.size b4.size)))))
                          go_wp2
                          go_ret2
                          refine ⟨?_, bf⟩
                          rw [HF2.out, HR2.out]
                          exact ret2 (by simp) rfl
                        · have t7 : decide (0 ≤ p) = false := by simp; omega
                          obtain ⟨n, hn⟩ : ∃ n : Nat, -p = (n : Int) := ⟨(-p).toNat, by omega⟩
                          have HN : Hid (-p = (n : Int)) := hn
                          have hn5 : n ≤ 500 := by omega
                          have HR2 : Hid (refR D p = rnd D (10 ^ n)) := by unfold Hid; rw [HR.out]; unfold decRnd; rw [if_neg hD, if_neg c7, hn]; rfl
                          have hle := rnd_le D (10 ^ n) hD (Nat.ne_of_gt (ten_pow_pos _))
                          have blB : bl (10 ^ n) ≤ 2200 := Nat.le_trans (ten_bl2 n) (by omega)
                          clear hn
                          go_wp2_with fail
                          refine (small_any _ 1 (by omega)).mono ?_
                          rintro e w3 ⟨v3, rfl, r3, b3⟩
                          go_wp2_with fail
                          refine (power10_any _ _ 1 n (-p) (r3.base (Nat.zero_le _)) (by omega) HN.out (by rw [Nat.one_mul]; exact smallB_of_bl blB (by omega))).mono ?_
                          rintro e w4 ⟨v4, rfl, r4, b4⟩
                          rw [Nat.one_mul] at r4
                          go_wp2_with fail
                          refine (rounded_any _ _ v4 D (10 ^ n) ((r2.below b3).below b4) r4 hD (Nat.ne_of_gt (ten_pow_pos _)) (by omega) blB).mono ?_
                          rintro e w5 ⟨rfl, b5⟩
                          generalize rnd D (10 ^ n) = RN at *
                          have bf : Below w.heap.size w w5 := b2.trans ((b3.mono b2.size).trans ((b4.mono (Nat.le_trans b2.size b3.size)).trans (b5.mono (Nat.le_trans b2.size (Nat.le_trans b3.size b4.size)))))
                          go_wp2
                          go_ret2
                          refine ⟨?_, bf⟩
                          rw [HF2.out, HR2.out]
                          exact ret2 (by simp) rfl
              · have q1 : ((s[0].toNat : Int) == 45) = false := by rw [HH.out]; simp; intro h; exact y1 (UInt8.toNat_inj.1 (by rw [show (45 : UInt8).toNat = 45 from rfl]; omega))
                by_cases y2 : c = 43
                · have q2 : ((s[0].toNat : Int) == 43) = true := by rw [HH.out, y2]; rfl
                  have hmr : false = m ∧ r = sr := by simpa [signL, y2] using hsg
                  obtain ⟨rfl, hsr⟩ := hmr
                  have HS : Hid ((s.extract 1 s.size).data.toList = sr) := by unfold Hid; rw [← hsr]; exact HD1
                  clear hsg hl hsz1 y1 y2 hsr
                  go_enter Tryz.func57, Tryz.ntmps57
                  go_wp2_with fail
                  refine (token_any _ (s.extract 1 s.size) (by rw [bytes_size HS.out]; omega)).mono ?_
                  rintro e w1 ⟨htp, rfl⟩
                  obtain ⟨d, p, ok, rfl, htk⟩ := htp
                  rw [HS.out] at htk
                  cases hto : tokL sr with
                  | none =>
                    rw [hto] at htk
                    have hok : ok = false := htk
                    subst hok
                    have HF2 : Hid (scanL s.data.toList = (0, 1)) := by unfold Hid; rw [HF.out, hto]; rfl
                    clear HF hto htk
                    go_wp2
                    go_ret2
                    exact ⟨by rw [HF2.out]; rfl, Below.refl _ _⟩
                  | some dq =>
                    obtain ⟨ds, q⟩ := dq
                    rw [hto] at htk
                    obtain ⟨hok, hds, hpq⟩ : ok = true ∧ d.data.toList = ds ∧ p = q := htk
                    subst hok
                    subst hpq
                    obtain ⟨f1, f2, f3, f4⟩ := tokL_facts hto
                    have hdg : Digs d.data.toList := by rw [hds]; exact f1
                    have hdsz : d.size ≤ 60 := by rw [bytes_size hds]; omega
                    have HF2 : Hid (scanL s.data.toList = (0 + refR (dval d.data.toList) p, 0)) := by unfold Hid; rw [HF.out, hto, hds]; rfl
                    have hlt := dval_lt hdg
                    rw [show d.data.toList.length = d.size from by simp] at hlt
                    have blD : bl (dval d.data.toList) ≤ 210 := Nat.le_trans (bl_mono (Nat.le_of_lt hlt)) (Nat.le_trans (ten_bl2 d.size) (by omega))
                    clear HF hto f1 f2 hds hlt
                    go_wp2_with fail
                    refine (digits_any _ d hdg (by omega)).mono ?_
                    rintro e w2 ⟨v2, rfl, r2, b2⟩
                    generalize dval d.data.toList = D at *
                    obtain ⟨l2, o2, c2, hv2⟩ := r2
                    have sD : SmallB D := smallB_of_bl blD (by omega)
                    have hl2 := RepB.len o2 c2 hv2 sD
                    obtain ⟨a2, cap2, hve, _, _, _⟩ := o2.shape1
                    have r2 : RepB w2 0 v2 D := ⟨l2, o2.base (Nat.zero_le _), c2, hv2⟩
                    have HD0 : Hid (l2.length = 0 ↔ D = 0) := by
                      unfold Hid; constructor
                      · intro h; rw [List.length_eq_zero_iff.1 h] at hv2; simpa [valB] using hv2.symm
                      · intro h; rw [canon_zeroB c2 (by omega)]; rfl
                    rw [hve] at r2
                    rw [hve]
                    generalize hN2 : l2.length = N2 at *
                    clear o2 c2 hv2 hve hN2
                    by_cases hD : D = 0
                    · have hn2 : N2 = 0 := HD0.out.2 hD
                      subst hn2
                      have HR : Hid (refR D p = 0) := by unfold Hid refR; rw [if_pos (.inl hD)]
                      clear hD HD0
                      go_wp2
                      go_ret2
                      exact ⟨by rw [HF2.out, HR.out]; rfl, b2⟩
                    · have hn2 : ((N2 : Int) == 0) = false := by simp; intro h; exact hD (HD0.out.1 h)
                      by_cases c5 : p < -500
                      · have t5 : decide (p < -500) = true := by simp; omega
                        have HR : Hid (refR D p = 0) := by unfold Hid refR; rw [if_pos (.inr c5)]
                        go_wp2
                        go_ret2
                        exact ⟨by rw [HF2.out, HR.out]; rfl, b2⟩
                      · have t5 : decide (p < -500) = false := by simp; omega
                        by_cases c6 : 500 < p
                        · have t6 : decide (500 < p) = true := by simp; omega
                          have HR : Hid (refR D p = 9218868437227405312) := by unfold Hid refR; rw [if_neg (by omega), if_pos c6]
                          go_wp2
                          go_ret2
                          exact ⟨by rw [HF2.out, HR.out]; rfl, b2⟩
                        · have t6 : decide (500 < p) = false := by simp; omega
                          have HR : Hid (refR D p = decRnd D p) := by unfold Hid refR; rw [if_neg (by omega), if_neg c6]
                          by_cases c7 : 0 ≤ p
                          · have t7 : decide (0 ≤ p) = true := by simp; omega
                            obtain ⟨n, rfl⟩ := Int.eq_ofNat_of_zero_le c7
                            have HR2 : Hid (refR D (n : Int) = rnd (D * 10 ^ n) 1) := by unfold Hid; rw [HR.out]; unfold decRnd; rw [if_neg hD, if_pos c7]; rfl
                            have hA0 : D * 10 ^ n ≠ 0 := Nat.ne_of_gt (Nat.mul_pos (by omega) (ten_pow_pos _))
                            have blA : bl (D * 10 ^ n) ≤ 2200 := Nat.le_trans (bl_mul D (10 ^ n)) (by have := ten_bl2 n; omega)
                            have hle := rnd_le (D * 10 ^ n) 1 hA0 (by omega)
                            go_wp2_with fail
                            refine (small_any _ 1 (by omega)).mono ?_
                            rintro e w3 ⟨v3, rfl, r3, b3⟩
                            go_wp2_with fail
                            refine (power10_any _ _ D n (n : Int) (r2.below b3) (by omega) rfl (smallB_of_bl blA (by omega))).mono ?_
                            rintro e w4 ⟨v4, rfl, r4, b4⟩
                            go_wp2_with fail
                            refine (rounded_any _ v4 v3 (D * 10 ^ n) 1 r4 ((r3.base (Nat.zero_le _)).below b4) hA0 (by omega) blA (by decide)).mono ?_
                            rintro e w5 ⟨rfl, b5⟩
                            generalize rnd (D * 10 ^ n) 1 = RN at *
                            have bf : Below w.heap.size w w5 := b2.trans ((b3.mono b2.size).trans ((b4.mono (Nat.le_trans b2.size b3.size)).trans (b5.mono (Nat.le_trans b2.size (Nat.le_trans b3.size b4.size)))))
                            go_wp2
                            go_ret2
                            refine ⟨?_, bf⟩
                            rw [HF2.out, HR2.out]
                            exact ret2 (by simp) rfl
                          · have t7 : decide (0 ≤ p) = false := by simp; omega
                            obtain ⟨n, hn⟩ : ∃ n : Nat, -p = (n : Int) := ⟨(-p).toNat, by omega⟩
                            have HN : Hid (-p = (n : Int)) := hn
                            have hn5 : n ≤ 500 := by omega
                            have HR2 : Hid (refR D p = rnd D (10 ^ n)) := by unfold Hid; rw [HR.out]; unfold decRnd; rw [if_neg hD, if_neg c7, hn]; rfl
                            have hle := rnd_le D (10 ^ n) hD (Nat.ne_of_gt (ten_pow_pos _))
                            have blB : bl (10 ^ n) ≤ 2200 := Nat.le_trans (ten_bl2 n) (by omega)
                            clear hn
                            go_wp2_with fail
                            refine (small_any _ 1 (by omega)).mono ?_
                            rintro e w3 ⟨v3, rfl, r3, b3⟩
                            go_wp2_with fail
                            refine (power10_any _ _ 1 n (-p) (r3.base (Nat.zero_le _)) (by omega) HN.out (by rw [Nat.one_mul]; exact smallB_of_bl blB (by omega))).mono ?_
                            rintro e w4 ⟨v4, rfl, r4, b4⟩
                            rw [Nat.one_mul] at r4
                            go_wp2_with fail
                            refine (rounded_any _ _ v4 D (10 ^ n) ((r2.below b3).below b4) r4 hD (Nat.ne_of_gt (ten_pow_pos _)) (by omega) blB).mono ?_
                            rintro e w5 ⟨rfl, b5⟩
                            generalize rnd D (10 ^ n) = RN at *
                            have bf : Below w.heap.size w w5 := b2.trans ((b3.mono b2.size).trans ((b4.mono (Nat.le_trans b2.size b3.size)).trans (b5.mono (Nat.le_trans b2.size (Nat.le_trans b3.size b4.size)))))
                            go_wp2
                            go_ret2
                            refine ⟨?_, bf⟩
                            rw [HF2.out, HR2.out]
                            exact ret2 (by simp) rfl
                · have q2 : ((s[0].toNat : Int) == 43) = false := by rw [HH.out]; simp; intro h; exact y2 (UInt8.toNat_inj.1 (by rw [show (43 : UInt8).toNat = 43 from rfl]; omega))
                  have hmr : false = m ∧ c :: r = sr := by simpa [signL, y1, y2] using hsg
                  obtain ⟨rfl, hsr⟩ := hmr
                  have HS : Hid (s.data.toList = sr) := by unfold Hid; rw [← hsr]; exact hl
                  clear hsg hl hsz1 y1 y2 hsr
                  go_enter Tryz.func57, Tryz.ntmps57
                  go_wp2_with fail
                  refine (token_any _ (s) (by rw [bytes_size HS.out]; omega)).mono ?_
                  rintro e w1 ⟨htp, rfl⟩
                  obtain ⟨d, p, ok, rfl, htk⟩ := htp
                  rw [HS.out] at htk
                  cases hto : tokL sr with
                  | none =>
                    rw [hto] at htk
                    have hok : ok = false := htk
                    subst hok
                    have HF2 : Hid (scanL s.data.toList = (0, 1)) := by unfold Hid; rw [HF.out, hto]; rfl
                    clear HF hto htk
                    go_wp2
                    go_ret2
                    exact ⟨by rw [HF2.out]; rfl, Below.refl _ _⟩
                  | some dq =>
                    obtain ⟨ds, q⟩ := dq
                    rw [hto] at htk
                    obtain ⟨hok, hds, hpq⟩ : ok = true ∧ d.data.toList = ds ∧ p = q := htk
                    subst hok
                    subst hpq
                    obtain ⟨f1, f2, f3, f4⟩ := tokL_facts hto
                    have hdg : Digs d.data.toList := by rw [hds]; exact f1
                    have hdsz : d.size ≤ 60 := by rw [bytes_size hds]; omega
                    have HF2 : Hid (scanL s.data.toList = (0 + refR (dval d.data.toList) p, 0)) := by unfold Hid; rw [HF.out, hto, hds]; rfl
                    have hlt := dval_lt hdg
                    rw [show d.data.toList.length = d.size from by simp] at hlt
                    have blD : bl (dval d.data.toList) ≤ 210 := Nat.le_trans (bl_mono (Nat.le_of_lt hlt)) (Nat.le_trans (ten_bl2 d.size) (by omega))
                    clear HF hto f1 f2 hds hlt
                    go_wp2_with fail
                    refine (digits_any _ d hdg (by omega)).mono ?_
                    rintro e w2 ⟨v2, rfl, r2, b2⟩
                    generalize dval d.data.toList = D at *
                    obtain ⟨l2, o2, c2, hv2⟩ := r2
                    have sD : SmallB D := smallB_of_bl blD (by omega)
                    have hl2 := RepB.len o2 c2 hv2 sD
                    obtain ⟨a2, cap2, hve, _, _, _⟩ := o2.shape1
                    have r2 : RepB w2 0 v2 D := ⟨l2, o2.base (Nat.zero_le _), c2, hv2⟩
                    have HD0 : Hid (l2.length = 0 ↔ D = 0) := by
                      unfold Hid; constructor
                      · intro h; rw [List.length_eq_zero_iff.1 h] at hv2; simpa [valB] using hv2.symm
                      · intro h; rw [canon_zeroB c2 (by omega)]; rfl
                    rw [hve] at r2
                    rw [hve]
                    generalize hN2 : l2.length = N2 at *
                    clear o2 c2 hv2 hve hN2
                    by_cases hD : D = 0
                    · have hn2 : N2 = 0 := HD0.out.2 hD
                      subst hn2
                      have HR : Hid (refR D p = 0) := by unfold Hid refR; rw [if_pos (.inl hD)]
                      clear hD HD0
                      go_wp2
                      go_ret2
                      exact ⟨by rw [HF2.out, HR.out]; rfl, b2⟩
                    · have hn2 : ((N2 : Int) == 0) = false := by simp; intro h; exact hD (HD0.out.1 h)
                      by_cases c5 : p < -500
                      · have t5 : decide (p < -500) = true := by simp; omega
                        have HR : Hid (refR D p = 0) := by unfold Hid refR; rw [if_pos (.inr c5)]
                        go_wp2
                        go_ret2
                        exact ⟨by rw [HF2.out, HR.out]; rfl, b2⟩
                      · have t5 : decide (p < -500) = false := by simp; omega
                        by_cases c6 : 500 < p
                        · have t6 : decide (500 < p) = true := by simp; omega
                          have HR : Hid (refR D p = 9218868437227405312) := by unfold Hid refR; rw [if_neg (by omega), if_pos c6]
                          go_wp2
                          go_ret2
                          exact ⟨by rw [HF2.out, HR.out]; rfl, b2⟩
                        · have t6 : decide (500 < p) = false := by simp; omega
                          have HR : Hid (refR D p = decRnd D p) := by unfold Hid refR; rw [if_neg (by omega), if_neg c6]
                          by_cases c7 : 0 ≤ p
                          · have t7 : decide (0 ≤ p) = true := by simp; omega
                            obtain ⟨n, rfl⟩ := Int.eq_ofNat_of_zero_le c7
                            have HR2 : Hid (refR D (n : Int) = rnd (D * 10 ^ n) 1) := by unfold Hid; rw [HR.out]; unfold decRnd; rw [if_neg hD, if_pos c7]; rfl
                            have hA0 : D * 10 ^ n ≠ 0 := Nat.ne_of_gt (Nat.mul_pos (by omega) (ten_pow_pos _))
                            have blA : bl (D * 10 ^ n) ≤ 2200 := Nat.le_trans (bl_mul D (10 ^ n)) (by have := ten_bl2 n; omega)
                            have hle := rnd_le (D * 10 ^ n) 1 hA0 (by omega)
                            go_wp2_with fail
                            refine (small_any _ 1 (by omega)).mono ?_
                            rintro e w3 ⟨v3, rfl, r3, b3⟩
                            go_wp2_with fail
                            refine (power10_any _ _ D n (n : Int) (r2.below b3) (by omega) rfl (smallB_of_bl blA (by omega))).mono ?_
                            rintro e w4 ⟨v4, rfl, r4, b4⟩
                            go_wp2_with fail
                            refine (rounded_any _ v4 v3 (D * 10 ^ n) 1 r4 ((r3.base (Nat.zero_le _)).below b4) hA0 (by omega) blA (by decide)).mono ?_
                            rintro e w5 ⟨rfl, b5⟩
                            generalize rnd (D * 10 ^ n) 1 = RN at *
                            have bf : Below w.heap.size w w5 := b2.trans ((b3.mono b2.size).trans ((b4.mono (Nat.le_trans b2.size b3.size)).trans (b5.mono (Nat.le_trans b2.size (Nat.le_trans b3.size b4.size)))))
                            go_wp2
                            go_ret2
                            refine ⟨?_, bf⟩
                            rw [HF2.out, HR2.out]
                            exact ret2 (by simp) rfl
                          · have t7 : decide (0 ≤ p) = false := by simp; omega
                            obtain ⟨n, hn⟩ : ∃ n : Nat, -p = (n : Int) := ⟨(-p).toNat, by omega⟩
                            have HN : Hid (-p = (n : Int)) := hn
                            have hn5 : n ≤ 500 := by omega
                            have HR2 : Hid (refR D p = rnd D (10 ^ n)) := by unfold Hid; rw [HR.out]; unfold decRnd; rw [if_neg hD, if_neg c7, hn]; rfl
                            have hle := rnd_le D (10 ^ n) hD (Nat.ne_of_gt (ten_pow_pos _))
                            have blB : bl (10 ^ n) ≤ 2200 := Nat.le_trans (ten_bl2 n) (by omega)
                            clear hn
                            go_wp2_with fail
                            refine (small_any _ 1 (by omega)).mono ?_
                            rintro e w3 ⟨v3, rfl, r3, b3⟩
                            go_wp2_with fail
                            refine (power10_any _ _ 1 n (-p) (r3.base (Nat.zero_le _)) (by omega) HN.out (by rw [Nat.one_mul]; exact smallB_of_bl blB (by omega))).mono ?_
                            rintro e w4 ⟨v4, rfl, r4, b4⟩
                            rw [Nat.one_mul] at r4
                            go_wp2_with fail
                            refine (rounded_any _ _ v4 D (10 ^ n) ((r2.below b3).below b4) r4 hD (Nat.ne_of_gt (ten_pow_pos _)) (by omega) blB).mono ?_
                            rintro e w5 ⟨rfl, b5⟩
                            generalize rnd D (10 ^ n) = RN at *
                            have bf : Below w.heap.size w w5 := b2.trans ((b3.mono b2.size).trans ((b4.mono (Nat.le_trans b2.size b3.size)).trans (b5.mono (Nat.le_trans b2.size (Nat.le_trans b3.size b4.size)))))
                            go_wp2
                            go_ret2
                            refine ⟨?_, bf⟩
                            rw [HF2.out, HR2.out]
                            exact ret2 (by simp) rfl
end Go.Proofs.YthdcceackfdbbaaGreatDoor
