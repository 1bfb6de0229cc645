import Derived.Test.YthdcceackfdbbaaGreatDoorXfQ
import Derived.Test.YthdcceackfdbbaaGreatDoorOdQ
import Derived.Test.YthdcceackfdbbaaGreatDoorM17W

/- Own text: the reference: lines. -/
namespace Go.Proofs.YthdcceackfdbbaaGreatDoor
open Go Go.RowKit

theorem prL_ok {w : World} (htab : Lib.TabIs Tryz.prog w "internal/strconv.uint64pow10" .u64 Lib.pow10Tab) {x : Nat} (hx : x < 18446744073709551616) : PrintOk x (prL x) ∧ (prL x).length ≤ 100 := by
  obtain ⟨e, w', fr, ⟨s, rfl, h1, h2, h3⟩, _⟩ := print_any w x hx htab []
  rw [prL_eq h1]
  exact ⟨h1, by have := bytes_size (s := s) rfl; omega⟩

/-- is a place told? -/
def kpr (kind : Nat) (x : Nat × Nat × Nat) : Bool := decide (¬ ((kind = 1 ∨ kind = 3) ∧ x.1 < x.2.1) ∧ ¬ ((kind = 2 ∨ kind = 3) ∧ x.2.2 = 0))
def upE (kind R C : Nat) (f : Nat → Nat → Nat) (k : Nat) : List (Nat × Nat × Nat) := ((colsL R C f).take k).filter (kpr kind)

theorem upE_yes {kind R C k : Nat} {f : Nat → Nat → Nat} {x : Nat × Nat × Nat} (h : (colsL R C f)[k]? = some x) (hx : kpr kind x = true) : upE kind R C f (k + 1) = upE kind R C f k ++ [x] := by
  unfold upE; rw [List.take_add_one, h, Option.toList_some, List.filter_append, List.filter_cons_of_pos hx, List.filter_nil]
theorem upE_no {kind R C k : Nat} {f : Nat → Nat → Nat} {x : Nat × Nat × Nat} (h : (colsL R C f)[k]? = some x) (hx : kpr kind x = false) : upE kind R C f (k + 1) = upE kind R C f k := by
  unfold upE; rw [List.take_add_one, h, Option.toList_some, List.filter_append, List.filter_cons_of_neg (by simp [hx]), List.filter_nil, List.append_nil]
theorem upE_zero (kind R C : Nat) (f : Nat → Nat → Nat) : upE kind R C f 0 = [] := by unfold upE; simp
theorem upE_all {kind R C : Nat} {f : Nat → Nat → Nat} (hk : kind ≤ 3) : upE kind R C f (C * R) = entL kind R C f := by
  unfold upE entL
  rw [List.take_of_length_le (by rw [colsL_len, Nat.mul_comm]; exact Nat.le_refl _), if_neg (by omega)]
  simp only
  by_cases h1 : kind = 1 ∨ kind = 3 <;> by_cases h2 : kind = 2 ∨ kind = 3
  · rw [if_pos h2, if_pos h1, List.filter_filter]
    congr 1; funext x; unfold kpr; rw [Bool.eq_iff_iff]; simp [h1, h2]; omega
  · rw [if_neg h2, if_pos h1]
    congr 1; funext x; unfold kpr; rw [Bool.eq_iff_iff]; simp [h1, h2]
  · rw [if_pos h2, if_neg h1]
    congr 1; funext x; unfold kpr; rw [Bool.eq_iff_iff]; simp [h1, h2]
  · rw [if_neg h2, if_neg h1]
    exact List.filter_eq_self.2 (fun x _ => by unfold kpr; simp [h1, h2])

theorem half_b (w : World) (k : Int) (b : Bool) (hb : decide (k = 1 ∨ k = 3) = b) : Calls Tryz.prog 44 #[.int .i64 k] w fun e w' => e = .returned (.bool b) ∧ w' = w := by
  rw [← hb]; exact half_any w k
theorem list_b (w : World) (k : Int) (b : Bool) (hb : decide (k = 2 ∨ k = 3) = b) : Calls Tryz.prog 77 #[.int .i64 k] w fun e w' => e = .returned (.bool b) ∧ w' = w := by
  rw [← hb]; exact list_any w k

theorem count_n (w : World) (n : Nat) (h : n ≤ 100000) : Calls Tryz.prog 78 #[.int .i64 (n : Int)] w fun e w' => e = .returned (.string ⟨(Lib.decDigits n).toArray⟩) ∧ Below w.heap.size w w' :=
  (count_any w n (by omega) (by omega)).mono (by
    rintro e w' ⟨t, rfl, ht, hb⟩
    rw [itoa_pos] at ht
    exact ⟨by rw [bytes_of_list ht], hb⟩)

theorem rprint_n (w : World) (x : Nat) (hx : x < 18446744073709551616) (hp : PrintOk x (prL x)) : Calls Tryz.prog 59 #[.int .u64 (x : Int)] w fun e w' => e = .returned (.string ⟨(prL x).toArray⟩) ∧ Below w.heap.size w w' :=
  (refprint_any w x (prL x) hx hp).mono (by
    rintro e w' ⟨t, rfl, ht, hb⟩
    exact ⟨by rw [bytes_of_list ht], hb⟩)

theorem size_of_list (l : List UInt8) : (ByteArray.mk l.toArray).size = l.length := by simp [ByteArray.size]

set_option maxRecDepth 20000 in
set_option maxHeartbeats 4000000 in
theorem lines_any (w : World) (p kind R C : Nat) (f : Nat → Nat → Nat) (hk : kind ≤ 3) (h : RMat w p R C f) (hf : ∀ i j, f i j < 18446744073709551616) (hpr : ∀ x, x < 18446744073709551616 → PrintOk x (prL x) ∧ (prL x).length ≤ 100) :
    Calls Tryz.prog 47 #[.pointer (some ⟨p, 0, none⟩), .int .i64 (kind : Int)] w fun e w' => ∃ s : ByteArray, e = .returned (.string s) ∧ s.data.toList = textL kind R C f ∧ Below w.heap.size w w' := by
  have hmix : Tryz.prog.follows .mixedOrders = true := by kernel_rfl
  obtain ⟨b, hb⟩ : ∃ b, w.heap.size = b := ⟨_, rfl⟩
  have hR := h.hR
  have hC := h.hC
  have HM0 := hid h
  have HF := hid hf
  have HPR := hid hpr
  clear h hf hpr
  obtain ⟨hv, hhv⟩ : ∃ hv, decide ((kind : Int) = 1 ∨ (kind : Int) = 3) = hv := ⟨_, rfl⟩
  obtain ⟨lv, hlv⟩ : ∃ lv, decide ((kind : Int) = 2 ∨ (kind : Int) = 3) = lv := ⟨_, rfl⟩
  have HH := hid hhv
  have HL := hid hlv
  clear hhv hlv
  have hB0 : Below b w w := by rw [← hb]; exact Below.refl _ _
  have HB0 := hid hB0
  clear hB0
  go_enter Tryz.func47, Tryz.ntmps47
  go_wp2
  go_loopw [5, 6, 7] (fun vb vn vj wr => ∃ (j n : Nat) (P : ByteArray), vj = .int .i64 (j : Int) ∧ j ≤ C ∧ vb = .string P ∧ vn = .int .i64 (n : Int) ∧ Hid (P.data.toList = bodyL kind (upE kind R C f (j * R))) ∧ Hid (n = (upE kind R C f (j * R)).length) ∧ Hid (n ≤ j * R) ∧ P.size ≤ 250 * n ∧ n ≤ 1600 ∧ Hid (RMat wr p R C f) ∧ Hid (Below b w wr)) (fun _ _ vj _ => C - (intOf vj).toNat)
  case atStart => exact ⟨0, 0, ⟨#[]⟩, rfl, by omega, rfl, rfl, by rw [Nat.zero_mul, upE_zero]; rfl, by rw [Nat.zero_mul, upE_zero]; rfl, Nat.zero_le _, by decide, by omega, HM0, HB0⟩
  case round =>
    clear HM0 HB0
    obtain ⟨j, n, P, rfl, hj, rfl, rfl, HP, HN, HNle, hPz, hn, HM, HB⟩ := hrel
    have k1 := HM.out.c1
    by_cases hlt : j < C
    · have hlt' : (j : Int) < C := by omega
      have hKR : j * R + R ≤ 1600 := by
        have h1 : (j + 1) * R ≤ 40 * 40 := Nat.mul_le_mul (by omega) hR
        rw [Nat.add_mul, Nat.one_mul] at h1; omega
      obtain ⟨K, hK⟩ : ∃ K, j * R = K := ⟨_, rfl⟩
      have HKD := hid hK
      rw [hK] at HP HN HNle hKR
      clear hK
      go_wp2
      go_loopw [5, 6, 8] (fun vb vn vi wx => ∃ (i n : Nat) (P : ByteArray), vi = .int .i64 (i : Int) ∧ i ≤ R ∧ vb = .string P ∧ vn = .int .i64 (n : Int) ∧ Hid (P.data.toList = bodyL kind (upE kind R C f (K + i))) ∧ Hid (n = (upE kind R C f (K + i)).length) ∧ P.size ≤ 250 * n ∧ n ≤ K + i ∧ Hid (RMat wx p R C f) ∧ Hid (Below b w wx)) (fun _ _ vi _ => R - (intOf vi).toNat)
      case atStart => exact ⟨0, n, P, rfl, by omega, rfl, rfl, HP, HN, hPz, HNle.out, HM, HB⟩
      case round =>
        clear k1 HM HB HP HN HNle hPz hn
        obtain ⟨i, n, P, rfl, hi, rfl, rfl, HP, HN, hPz, hn, HM, HB⟩ := hrel
        have k0 := HM.out.c0
        by_cases hilt : i < R
        · have hilt' : (i : Int) < R := by omega
          obtain ⟨X, hX⟩ : ∃ X, f i j = X := ⟨_, rfl⟩
          have hX64 : X < 18446744073709551616 := by rw [← hX]; exact HF.out _ _
          have HE : Hid ((colsL R C f)[K + i]? = some (i, j, X)) := by
            show _ = _
            rw [← hX, ← HKD.out]; exact colsL_at f hilt hlt
          have HAT : Hid _ := hid (rat_any wr p R C i j f HM.out hilt hlt)
          rw [hX] at HAT
          clear hX
          go_wp2_with fail
          refine HAT.out.mono ?_
          rintro e w1 ⟨rfl, n1, rfl⟩
          have HM1 := hid (HM.out.dn n1)
          have HB1 := hid (below_dn HB.out n1)
          generalize wr.drewN n1 = wd at *
          clear HM HB k0 HAT
          cases hv with
          | true =>
            by_cases hij : i < j
            · have hij' : (i : Int) < j := by omega
              have hhk : kind = 1 ∨ kind = 3 := by have := HH.out; simp at this; omega
              have HKP : Hid (kpr kind (i, j, X) = false) := by show _ = _; unfold kpr; simp [hhk, hij]
              clear hhk
              go_wp2_with fail
              refine (half_b _ _ true HH.out).mono ?_
              rintro e w2 ⟨rfl, hw2⟩
              rw [hw2]
              clear hw2
              go_wp2
              go_round
              case rel => exact ⟨i + 1, n, P, by simp, by omega, rfl, rfl, by rw [← Nat.add_assoc]; rw [upE_no HE.out HKP.out]; exact HP.out, by rw [← Nat.add_assoc]; rw [upE_no HE.out HKP.out]; exact HN.out, hPz, by omega, HM1, HB1⟩
              case measure => simp [intOf]; omega
            · have hij' : ¬ (i : Int) < j := by omega
              cases lv with
              | true =>
                have hlk : kind = 2 ∨ kind = 3 := by have := HL.out; simp at this; omega
                have HLK := hid hlk
                have hhk : ¬ (i < j) := hij
                by_cases hX0 : X = 0
                · have hX0' : (X : Int) = 0 := by omega
                  have HKP : Hid (kpr kind (i, j, X) = false) := by show _ = _; unfold kpr; simp [hlk, hX0]
                  clear hlk hhk
                  go_wp2_with fail
                  refine (half_b _ _ true HH.out).mono ?_
                  rintro e w2 ⟨rfl, hw2⟩
                  rw [hw2]
                  clear hw2
                  go_wp2_with fail
                  refine (list_b _ _ true HL.out).mono ?_
                  rintro e w2 ⟨rfl, hw2⟩
                  rw [hw2]
                  clear hw2
                  go_wp2
                  go_round
                  case rel => exact ⟨i + 1, n, P, by simp, by omega, rfl, rfl, by rw [← Nat.add_assoc]; rw [upE_no HE.out HKP.out]; exact HP.out, by rw [← Nat.add_assoc]; rw [upE_no HE.out HKP.out]; exact HN.out, hPz, by omega, HM1, HB1⟩
                  case measure => simp [intOf]; omega
                · have hX0' : ¬ (X : Int) = 0 := by omega
                  have HKP : Hid (kpr kind (i, j, X) = true) := by show _ = _; unfold kpr; simp [hhk, hX0]
                  clear hlk hhk
                  go_wp2_with fail
                  refine (half_b _ _ true HH.out).mono ?_
                  rintro e w2 ⟨rfl, hw2⟩
                  rw [hw2]
                  clear hw2
                  go_wp2_with fail
                  refine (list_b _ _ true HL.out).mono ?_
                  rintro e w2 ⟨rfl, hw2⟩
                  rw [hw2]
                  clear hw2
                  go_wp2_with fail
                  refine (list_b _ _ true HL.out).mono ?_
                  rintro e w2 ⟨rfl, hw2⟩
                  rw [hw2]
                  clear hw2
                  have e1 : (i : Int) + 1 = ((i + 1 : Nat) : Int) := by simp
                  have e2 : (j : Int) + 1 = ((j + 1 : Nat) : Int) := by simp
                  have d1 := dd_small (n := i + 1) (by omega)
                  have d2 := dd_small (n := j + 1) (by omega)
                  obtain ⟨T1, hT1⟩ : ∃ T1 : ByteArray, T1 = ⟨(Lib.decDigits (i + 1)).toArray⟩ := ⟨_, rfl⟩
                  obtain ⟨T2, hT2⟩ : ∃ T2 : ByteArray, T2 = ⟨(Lib.decDigits (j + 1)).toArray⟩ := ⟨_, rfl⟩
                  have z1 : T1.size ≤ 6 := by rw [hT1, size_of_list]; exact d1
                  have z2 : T2.size ≤ 6 := by rw [hT2, size_of_list]; exact d2
                  have C1 := hid (fun W => count_n W (i + 1) (by omega))
                  have C2 := hid (fun W => count_n W (j + 1) (by omega))
                  rw [← hT1, ← e1] at C1
                  rw [← hT2, ← e2] at C2
                  have HT1 := hid hT1
                  have HT2 := hid hT2
                  clear hT1 hT2 e1 e2 d1 d2
                  go_wp2_with fail
                  refine (C1.out _).mono ?_
                  rintro e w2 ⟨rfl, b2⟩
                  have HM2 := hid (HM1.out.below b2)
                  have HB2 := hid (HB1.out.trans (b2.mono (by have := HB1.out.size; omega)))
                  clear b2 HM1 HB1
                  go_wp2_with fail
                  refine (C2.out _).mono ?_
                  rintro e w3 ⟨rfl, b3⟩
                  have HM3 := hid (HM2.out.below b3)
                  have HB3 := hid (HB2.out.trans (b3.mono (by have := HB2.out.size; omega)))
                  clear b3 HM2 HB2
                  obtain ⟨T3, hT3⟩ : ∃ T3 : ByteArray, T3 = ⟨(prL X).toArray⟩ := ⟨_, rfl⟩
                  have z3 : T3.size ≤ 100 := by rw [hT3, size_of_list]; exact (HPR.out X hX64).2
                  have C3 := hid (fun W => rprint_n W X hX64 (HPR.out X hX64).1)
                  rw [← hT3] at C3
                  have HT3 := hid hT3
                  clear hT3
                  go_wp2_with fail
                  refine (C3.out _).mono ?_
                  rintro e w4 ⟨rfl, b4⟩
                  have HM4 := hid (HM3.out.below b4)
                  have HB4 := hid (HB3.out.trans (b4.mono (by have := HB3.out.size; omega)))
                  clear b4 HM3 HB3
                  go_wp2
                  go_round
                  case rel =>
                    refine ⟨i + 1, n + 1, _, by simp, by omega, rfl, by simp, ?_, ?_, ?_, by omega, HM4, HB4⟩
                    · show _ = _
                      rw [← Nat.add_assoc, upE_yes HE.out HKP.out, bodyL_snoc]
                      simp only [bytes_append_list, HP.out, HT1.out, HT2.out, HT3.out]
                      unfold lineL entW
                      rw [if_pos HLK.out]
                      simp [Lib.join_cons, Lib.joinTail]
                    · show _ = _
                      rw [← Nat.add_assoc, upE_yes HE.out HKP.out, List.length_append, ← HN.out]; rfl
                    · simp only [ByteArray.size_append]
                      have hl1 : ({ data := #[32] } : ByteArray).size = 1 := rfl
                      have hl2 : ({ data := #[10] } : ByteArray).size = 1 := rfl
                      omega
                  case measure => simp [intOf]; omega
              | false =>
                have hlk : ¬ (kind = 2 ∨ kind = 3) := by have := HL.out; simp at this; omega
                have HLK := hid hlk
                have hhk : ¬ (i < j) := hij
                have HKP : Hid (kpr kind (i, j, X) = true) := by show _ = _; unfold kpr; simp [hlk, hhk]
                clear hlk hhk
                go_wp2_with fail
                refine (half_b _ _ true HH.out).mono ?_
                rintro e w2 ⟨rfl, hw2⟩
                rw [hw2]
                clear hw2
                go_wp2_with fail
                refine (list_b _ _ false HL.out).mono ?_
                rintro e w2 ⟨rfl, hw2⟩
                rw [hw2]
                clear hw2
                go_wp2_with fail
                refine (list_b _ _ false HL.out).mono ?_
                rintro e w2 ⟨rfl, hw2⟩
                rw [hw2]
                clear hw2
                have HM3 := HM1
                have HB3 := HB1
                clear HM1 HB1
                obtain ⟨T3, hT3⟩ : ∃ T3 : ByteArray, T3 = ⟨(prL X).toArray⟩ := ⟨_, rfl⟩
                have z3 : T3.size ≤ 100 := by rw [hT3, size_of_list]; exact (HPR.out X hX64).2
                have C3 := hid (fun W => rprint_n W X hX64 (HPR.out X hX64).1)
                rw [← hT3] at C3
                have HT3 := hid hT3
                clear hT3
                go_wp2_with fail
                refine (C3.out _).mono ?_
                rintro e w4 ⟨rfl, b4⟩
                have HM4 := hid (HM3.out.below b4)
                have HB4 := hid (HB3.out.trans (b4.mono (by have := HB3.out.size; omega)))
                clear b4 HM3 HB3
                go_wp2
                go_round
                case rel =>
                  refine ⟨i + 1, n + 1, _, by simp, by omega, rfl, by simp, ?_, ?_, ?_, by omega, HM4, HB4⟩
                  · show _ = _
                    rw [← Nat.add_assoc, upE_yes HE.out HKP.out, bodyL_snoc]
                    simp only [bytes_append_list, HP.out, HT3.out]
                    unfold lineL entW
                    rw [if_neg HLK.out]
                    simp [Lib.join_one]
                  · show _ = _
                    rw [← Nat.add_assoc, upE_yes HE.out HKP.out, List.length_append, ← HN.out]; rfl
                  · simp only [ByteArray.size_append]
                    have hl1 : ({ data := #[32] } : ByteArray).size = 1 := rfl
                    have hl2 : ({ data := #[10] } : ByteArray).size = 1 := rfl
                    omega
                case measure => simp [intOf]; omega
          | false =>
            cases lv with
            | true =>
              have hlk : kind = 2 ∨ kind = 3 := by have := HL.out; simp at this; omega
              have HLK := hid hlk
              have hhk : ¬ (kind = 1 ∨ kind = 3) := by have := HH.out; simp at this; omega
              by_cases hX0 : X = 0
              · have hX0' : (X : Int) = 0 := by omega
                have HKP : Hid (kpr kind (i, j, X) = false) := by show _ = _; unfold kpr; simp [hlk, hX0]
                clear hlk hhk
                go_wp2_with fail
                refine (half_b _ _ false HH.out).mono ?_
                rintro e w2 ⟨rfl, hw2⟩
                rw [hw2]
                clear hw2
                go_wp2_with fail
                refine (list_b _ _ true HL.out).mono ?_
                rintro e w2 ⟨rfl, hw2⟩
                rw [hw2]
                clear hw2
                go_wp2
                go_round
                case rel => exact ⟨i + 1, n, P, by simp, by omega, rfl, rfl, by rw [← Nat.add_assoc]; rw [upE_no HE.out HKP.out]; exact HP.out, by rw [← Nat.add_assoc]; rw [upE_no HE.out HKP.out]; exact HN.out, hPz, by omega, HM1, HB1⟩
                case measure => simp [intOf]; omega
              · have hX0' : ¬ (X : Int) = 0 := by omega
                have HKP : Hid (kpr kind (i, j, X) = true) := by show _ = _; unfold kpr; simp [hhk, hX0]
                clear hlk hhk
                go_wp2_with fail
                refine (half_b _ _ false HH.out).mono ?_
                rintro e w2 ⟨rfl, hw2⟩
                rw [hw2]
                clear hw2
                go_wp2_with fail
                refine (list_b _ _ true HL.out).mono ?_
                rintro e w2 ⟨rfl, hw2⟩
                rw [hw2]
                clear hw2
                go_wp2_with fail
                refine (list_b _ _ true HL.out).mono ?_
                rintro e w2 ⟨rfl, hw2⟩
                rw [hw2]
                clear hw2
                have e1 : (i : Int) + 1 = ((i + 1 : Nat) : Int) := by simp
                have e2 : (j : Int) + 1 = ((j + 1 : Nat) : Int) := by simp
                have d1 := dd_small (n := i + 1) (by omega)
                have d2 := dd_small (n := j + 1) (by omega)
                obtain ⟨T1, hT1⟩ : ∃ T1 : ByteArray, T1 = ⟨(Lib.decDigits (i + 1)).toArray⟩ := ⟨_, rfl⟩
                obtain ⟨T2, hT2⟩ : ∃ T2 : ByteArray, T2 = ⟨(Lib.decDigits (j + 1)).toArray⟩ := ⟨_, rfl⟩
                have z1 : T1.size ≤ 6 := by rw [hT1, size_of_list]; exact d1
                have z2 : T2.size ≤ 6 := by rw [hT2, size_of_list]; exact d2
                have C1 := hid (fun W => count_n W (i + 1) (by omega))
                have C2 := hid (fun W => count_n W (j + 1) (by omega))
                rw [← hT1, ← e1] at C1
                rw [← hT2, ← e2] at C2
                have HT1 := hid hT1
                have HT2 := hid hT2
                clear hT1 hT2 e1 e2 d1 d2
                go_wp2_with fail
                refine (C1.out _).mono ?_
                rintro e w2 ⟨rfl, b2⟩
                have HM2 := hid (HM1.out.below b2)
                have HB2 := hid (HB1.out.trans (b2.mono (by have := HB1.out.size; omega)))
                clear b2 HM1 HB1
                go_wp2_with fail
                refine (C2.out _).mono ?_
                rintro e w3 ⟨rfl, b3⟩
                have HM3 := hid (HM2.out.below b3)
                have HB3 := hid (HB2.out.trans (b3.mono (by have := HB2.out.size; omega)))
                clear b3 HM2 HB2
                obtain ⟨T3, hT3⟩ : ∃ T3 : ByteArray, T3 = ⟨(prL X).toArray⟩ := ⟨_, rfl⟩
                have z3 : T3.size ≤ 100 := by rw [hT3, size_of_list]; exact (HPR.out X hX64).2
                have C3 := hid (fun W => rprint_n W X hX64 (HPR.out X hX64).1)
                rw [← hT3] at C3
                have HT3 := hid hT3
                clear hT3
                go_wp2_with fail
                refine (C3.out _).mono ?_
                rintro e w4 ⟨rfl, b4⟩
                have HM4 := hid (HM3.out.below b4)
                have HB4 := hid (HB3.out.trans (b4.mono (by have := HB3.out.size; omega)))
                clear b4 HM3 HB3
                go_wp2
                go_round
                case rel =>
                  refine ⟨i + 1, n + 1, _, by simp, by omega, rfl, by simp, ?_, ?_, ?_, by omega, HM4, HB4⟩
                  · show _ = _
                    rw [← Nat.add_assoc, upE_yes HE.out HKP.out, bodyL_snoc]
                    simp only [bytes_append_list, HP.out, HT1.out, HT2.out, HT3.out]
                    unfold lineL entW
                    rw [if_pos HLK.out]
                    simp [Lib.join_cons, Lib.joinTail]
                  · show _ = _
                    rw [← Nat.add_assoc, upE_yes HE.out HKP.out, List.length_append, ← HN.out]; rfl
                  · simp only [ByteArray.size_append]
                    have hl1 : ({ data := #[32] } : ByteArray).size = 1 := rfl
                    have hl2 : ({ data := #[10] } : ByteArray).size = 1 := rfl
                    omega
                case measure => simp [intOf]; omega
            | false =>
              have hlk : ¬ (kind = 2 ∨ kind = 3) := by have := HL.out; simp at this; omega
              have HLK := hid hlk
              have hhk : ¬ (kind = 1 ∨ kind = 3) := by have := HH.out; simp at this; omega
              have HKP : Hid (kpr kind (i, j, X) = true) := by show _ = _; unfold kpr; simp [hlk, hhk]
              clear hlk hhk
              go_wp2_with fail
              refine (half_b _ _ false HH.out).mono ?_
              rintro e w2 ⟨rfl, hw2⟩
              rw [hw2]
              clear hw2
              go_wp2_with fail
              refine (list_b _ _ false HL.out).mono ?_
              rintro e w2 ⟨rfl, hw2⟩
              rw [hw2]
              clear hw2
              go_wp2_with fail
              refine (list_b _ _ false HL.out).mono ?_
              rintro e w2 ⟨rfl, hw2⟩
              rw [hw2]
              clear hw2
              have HM3 := HM1
              have HB3 := HB1
              clear HM1 HB1
              obtain ⟨T3, hT3⟩ : ∃ T3 : ByteArray, T3 = ⟨(prL X).toArray⟩ := ⟨_, rfl⟩
              have z3 : T3.size ≤ 100 := by rw [hT3, size_of_list]; exact (HPR.out X hX64).2
              have C3 := hid (fun W => rprint_n W X hX64 (HPR.out X hX64).1)
              rw [← hT3] at C3
              have HT3 := hid hT3
              clear hT3
              go_wp2_with fail
              refine (C3.out _).mono ?_
              rintro e w4 ⟨rfl, b4⟩
              have HM4 := hid (HM3.out.below b4)
              have HB4 := hid (HB3.out.trans (b4.mono (by have := HB3.out.size; omega)))
              clear b4 HM3 HB3
              go_wp2
              go_round
              case rel =>
                refine ⟨i + 1, n + 1, _, by simp, by omega, rfl, by simp, ?_, ?_, ?_, by omega, HM4, HB4⟩
                · show _ = _
                  rw [← Nat.add_assoc, upE_yes HE.out HKP.out, bodyL_snoc]
                  simp only [bytes_append_list, HP.out, HT3.out]
                  unfold lineL entW
                  rw [if_neg HLK.out]
                  simp [Lib.join_one]
                · show _ = _
                  rw [← Nat.add_assoc, upE_yes HE.out HKP.out, List.length_append, ← HN.out]; rfl
                · simp only [ByteArray.size_append]
                  have hl1 : ({ data := #[32] } : ByteArray).size = 1 := rfl
                  have hl2 : ({ data := #[10] } : ByteArray).size = 1 := rfl
                  omega
              case measure => simp [intOf]; omega
        · have hilt' : ¬ (i : Int) < R := by omega
          obtain rfl : i = R := by omega
          go_wp2
          go_round
          case rel =>
            refine ⟨j + 1, n, P, by simp, by omega, rfl, rfl, ?_, ?_, ?_, hPz, by omega, HM, HB⟩
            · rw [Nat.add_mul, Nat.one_mul, HKD.out]; exact HP.out
            · rw [Nat.add_mul, Nat.one_mul, HKD.out]; exact HN.out
            · show _ ≤ _
              rw [Nat.add_mul, Nat.one_mul, HKD.out]; exact hn
          case measure => simp [intOf]; omega
    · have hlt' : ¬ (j : Int) < C := by omega
      obtain rfl : j = C := by omega
      rw [upE_all hk] at HP HN
      have d1 := dd_small (n := R) (by omega)
      have d2 := dd_small (n := j) (by omega)
      have d3 := dd_small (n := n) (by omega)
      obtain ⟨T1, hT1⟩ : ∃ T1 : ByteArray, T1 = ⟨(Lib.decDigits R).toArray⟩ := ⟨_, rfl⟩
      obtain ⟨T2, hT2⟩ : ∃ T2 : ByteArray, T2 = ⟨(Lib.decDigits j).toArray⟩ := ⟨_, rfl⟩
      obtain ⟨T3, hT3⟩ : ∃ T3 : ByteArray, T3 = ⟨(Lib.decDigits n).toArray⟩ := ⟨_, rfl⟩
      have z1 : T1.size ≤ 6 := by rw [hT1, size_of_list]; exact d1
      have z2 : T2.size ≤ 6 := by rw [hT2, size_of_list]; exact d2
      have z3 : T3.size ≤ 6 := by rw [hT3, size_of_list]; exact d3
      have C1 := hid (fun W => count_n W R (by omega))
      have C2 := hid (fun W => count_n W j (by omega))
      have C3 := hid (fun W => count_n W n (by omega))
      rw [← hT1] at C1
      rw [← hT2] at C2
      rw [← hT3] at C3
      have HT1 := hid hT1
      have HT2 := hid hT2
      have HT3 := hid hT3
      clear hT1 hT2 hT3 d1 d2 d3
      rcases (by omega : kind = 0 ∨ kind = 1 ∨ kind = 2 ∨ kind = 3) with rfl | rfl | rfl | rfl
      · go_wp2_with fail
        obtain ⟨H0, hH0⟩ : ∃ H0 : ByteArray, ({ data := #[37, 37, 77, 97, 116, 114, 105, 120, 77, 97, 114, 107, 101, 116, 32, 109, 97, 116, 114, 105, 120, 32, 97, 114, 114, 97, 121, 32, 114, 101, 97, 108, 32, 103, 101, 110, 101, 114, 97, 108, 10] } : ByteArray) = H0 := ⟨_, rfl⟩
        have hH0z : H0.size = 41 := by rw [← hH0]; rfl
        have HH0 : Hid (H0.data.toList = lineL (firstW 0)) := by
          show _ = _
          rw [← hH0]; simp [lineL, firstW, Lib.join_cons, Lib.joinTail]
        rw [hH0]
        clear hH0
        refine wp_region_held (S := fun W' => RMat W' p R j f) hmix ?_
        change wpAnyH _ _ _ _ _ _ _ _ wr.drew
        have hS0 : RMat wr.drew p R j f := HM.out.below (Below.refl _ _).drew
        have hBd : Below b w wr.drew := HB.out.drew
        refine wpAnyH_take (i := 0) (v := .string H0) rfl (by kernel_rfl) (by kernel_rfl) (by kernel_rfl) (fun _ _ _ h => h) (Or.inl ⟨by rfl, fun W' hS => ?_⟩) hS0 ?_
        · clear hS
          go_simp
          all_goals omega
        simp only [Act.put]
        refine wpAnyH_take (i := 1) (v := .pointer (some ⟨p, 0, none⟩)) rfl (by kernel_rfl) (by kernel_rfl) (by kernel_rfl) (fun _ _ _ h => h) (Or.inl ⟨by rfl, fun W' hS => ?_⟩) hS0 ?_
        · clear hS
          go_simp
          all_goals omega
        simp only [Act.put]
        refine wpAnyH_take (i := 2) (v := .pointer (some ⟨p, 0, none⟩)) rfl (by kernel_rfl) (by kernel_rfl) (by kernel_rfl) (fun _ _ _ h => h) (Or.inl ⟨by rfl, fun W' hS => ?_⟩) hS0 ?_
        · have c0 := hS.c0
          have c1 := hS.c1
          clear hS
          go_simp
        simp only [Act.put]
        refine wpAnyH_take (i := 3) (v := .pointer (some ⟨p, 0, none⟩)) rfl (by kernel_rfl) (by kernel_rfl) (by kernel_rfl) (fun _ _ _ h => h) (Or.inl ⟨by rfl, fun W' hS => ?_⟩) hS0 ?_
        · clear hS
          go_simp
          all_goals omega
        simp only [Act.put]
        refine wpAnyH_take (i := 4) (v := .int .i64 (R : Int)) rfl (by kernel_rfl) (by kernel_rfl) (by kernel_rfl) (fun _ _ _ h => h) (Or.inl ⟨by rfl, fun W' hS => ?_⟩) hS0 ?_
        · have c0 := hS.c0
          have c1 := hS.c1
          clear hS
          go_simp
        simp only [Act.put]
        refine wpAnyH_take (i := 8) (v := .pointer (some ⟨p, 0, none⟩)) rfl (by kernel_rfl) (by kernel_rfl) (by kernel_rfl) (fun _ _ _ h => h) (Or.inl ⟨by rfl, fun W' hS => ?_⟩) hS0 ?_
        · clear hS
          go_simp
          all_goals omega
        simp only [Act.put]
        refine wpAnyH_take (i := 9) (v := .pointer (some ⟨p, 0, none⟩)) rfl (by kernel_rfl) (by kernel_rfl) (by kernel_rfl) (fun _ _ _ h => h) (Or.inl ⟨by rfl, fun W' hS => ?_⟩) hS0 ?_
        · have c0 := hS.c0
          have c1 := hS.c1
          clear hS
          go_simp
        simp only [Act.put]
        refine wpAnyH_take (i := 10) (v := .pointer (some ⟨p, 1, none⟩)) rfl (by kernel_rfl) (by kernel_rfl) (by kernel_rfl) (fun _ _ _ h => h) (Or.inl ⟨by rfl, fun W' hS => ?_⟩) hS0 ?_
        · clear hS
          go_simp
          all_goals omega
        simp only [Act.put]
        refine wpAnyH_take (i := 11) (v := .int .i64 (j : Int)) rfl (by kernel_rfl) (by kernel_rfl) (by kernel_rfl) (fun _ _ _ h => h) (Or.inl ⟨by rfl, fun W' hS => ?_⟩) hS0 ?_
        · have c0 := hS.c0
          have c1 := hS.c1
          clear hS
          go_simp
        simp only [Act.put]
        refine wpAnyH_ready (rs := [5]) (by kernel_rfl) (by simp) ?_
        refine AllReadyH.cons rfl (fun K hKK => ?_) AllReadyH.nil
        go_simp
        refine (C1.out _).mono ?_
        rintro e W1 ⟨rfl, b1⟩
        have hS1 : RMat W1 p R j f := hS0.below b1
        refine hKK.out _ _ hS1 (fun hHeld => ?_)
        clear hKK hHeld
        refine wpAnyH_take (i := 6) (v := .string (H0 ++ T1)) rfl (by kernel_rfl) (by kernel_rfl) (by kernel_rfl) (fun _ _ _ h => h) (Or.inl ⟨by rfl, fun W' hS => ?_⟩) hS1 ?_
        · clear hS
          go_simp
          all_goals omega
        simp only [Act.put]
        refine wpAnyH_take (i := 7) (v := .string (H0 ++ T1 ++ ({ data := #[32] } : ByteArray))) rfl (by kernel_rfl) (by kernel_rfl) (by kernel_rfl) (fun _ _ _ h => h) (Or.inl ⟨by rfl, fun W' hS => ?_⟩) hS1 ?_
        · clear hS
          go_simp
          all_goals omega
        simp only [Act.put]
        refine wpAnyH_ready (rs := [12]) (by kernel_rfl) (by simp) ?_
        refine AllReadyH.cons rfl (fun K hKK => ?_) AllReadyH.nil
        go_simp
        refine (C2.out _).mono ?_
        rintro e W2 ⟨rfl, b2⟩
        have hS2 : RMat W2 p R j f := hS1.below b2
        refine hKK.out _ _ hS2 (fun hHeld => ?_)
        clear hKK hHeld
        refine wpAnyH_take (i := 13) (v := .string (H0 ++ T1 ++ ({ data := #[32] } : ByteArray) ++ T2)) rfl (by kernel_rfl) (by kernel_rfl) (by kernel_rfl) (fun _ _ _ h => h) (Or.inl ⟨by rfl, fun W' hS => ?_⟩) hS2 ?_
        · clear hS
          go_simp
          all_goals omega
        simp only [Act.put]
        refine wpAnyH_take (i := 14) (v := .string (H0 ++ T1 ++ ({ data := #[32] } : ByteArray) ++ T2)) rfl (by kernel_rfl) (by kernel_rfl) (by kernel_rfl) (fun _ _ _ h => h) (Or.inl ⟨by rfl, fun W' hS => ?_⟩) hS2 ?_
        · clear hS
          go_simp
          all_goals omega
        simp only [Act.put]
        refine wpAnyH_done (by kernel_rfl) ?_ _
        have HB2 := hid ((hBd.trans (b1.mono (by have := hBd.size; omega))).trans (b2.mono (by have := hBd.size; have := b1.size; omega)))
        clear b1 b2 hS0 hS1 hS2 hBd HM HB k1
        go_wp2_with fail
        refine (list_b _ _ false (by decide)).mono ?_
        rintro e w2 ⟨rfl, hw2⟩
        rw [hw2]
        clear hw2
        have HB3 := HB2
        go_wp2
        go_ret
        refine ⟨_, rfl, ?_, by rw [hb]; exact HB3.out⟩
        simp only [bytes_append_list, HP.out, HH0.out, HT1.out, HT2.out]
        unfold textL
        rw [← HN.out]
        simp [lineL, sizW, Lib.join_cons, Lib.joinTail]
      · go_wp2_with fail
        obtain ⟨H0, hH0⟩ : ∃ H0 : ByteArray, ({ data := #[37, 37, 77, 97, 116, 114, 105, 120, 77, 97, 114, 107, 101, 116, 32, 109, 97, 116, 114, 105, 120, 32, 97, 114, 114, 97, 121, 32, 114, 101, 97, 108, 32, 115, 121, 109, 109, 101, 116, 114, 105, 99, 10] } : ByteArray) = H0 := ⟨_, rfl⟩
        have hH0z : H0.size = 43 := by rw [← hH0]; rfl
        have HH0 : Hid (H0.data.toList = lineL (firstW 1)) := by
          show _ = _
          rw [← hH0]; simp [lineL, firstW, Lib.join_cons, Lib.joinTail]
        rw [hH0]
        clear hH0
        refine wp_region_held (S := fun W' => RMat W' p R j f) hmix ?_
        change wpAnyH _ _ _ _ _ _ _ _ wr.drew
        have hS0 : RMat wr.drew p R j f := HM.out.below (Below.refl _ _).drew
        have hBd : Below b w wr.drew := HB.out.drew
        refine wpAnyH_take (i := 0) (v := .string H0) rfl (by kernel_rfl) (by kernel_rfl) (by kernel_rfl) (fun _ _ _ h => h) (Or.inl ⟨by rfl, fun W' hS => ?_⟩) hS0 ?_
        · clear hS
          go_simp
          all_goals omega
        simp only [Act.put]
        refine wpAnyH_take (i := 1) (v := .pointer (some ⟨p, 0, none⟩)) rfl (by kernel_rfl) (by kernel_rfl) (by kernel_rfl) (fun _ _ _ h => h) (Or.inl ⟨by rfl, fun W' hS => ?_⟩) hS0 ?_
        · clear hS
          go_simp
          all_goals omega
        simp only [Act.put]
        refine wpAnyH_take (i := 2) (v := .pointer (some ⟨p, 0, none⟩)) rfl (by kernel_rfl) (by kernel_rfl) (by kernel_rfl) (fun _ _ _ h => h) (Or.inl ⟨by rfl, fun W' hS => ?_⟩) hS0 ?_
        · have c0 := hS.c0
          have c1 := hS.c1
          clear hS
          go_simp
        simp only [Act.put]
        refine wpAnyH_take (i := 3) (v := .pointer (some ⟨p, 0, none⟩)) rfl (by kernel_rfl) (by kernel_rfl) (by kernel_rfl) (fun _ _ _ h => h) (Or.inl ⟨by rfl, fun W' hS => ?_⟩) hS0 ?_
        · clear hS
          go_simp
          all_goals omega
        simp only [Act.put]
        refine wpAnyH_take (i := 4) (v := .int .i64 (R : Int)) rfl (by kernel_rfl) (by kernel_rfl) (by kernel_rfl) (fun _ _ _ h => h) (Or.inl ⟨by rfl, fun W' hS => ?_⟩) hS0 ?_
        · have c0 := hS.c0
          have c1 := hS.c1
          clear hS
          go_simp
        simp only [Act.put]
        refine wpAnyH_take (i := 8) (v := .pointer (some ⟨p, 0, none⟩)) rfl (by kernel_rfl) (by kernel_rfl) (by kernel_rfl) (fun _ _ _ h => h) (Or.inl ⟨by rfl, fun W' hS => ?_⟩) hS0 ?_
        · clear hS
          go_simp
          all_goals omega
        simp only [Act.put]
        refine wpAnyH_take (i := 9) (v := .pointer (some ⟨p, 0, none⟩)) rfl (by kernel_rfl) (by kernel_rfl) (by kernel_rfl) (fun _ _ _ h => h) (Or.inl ⟨by rfl, fun W' hS => ?_⟩) hS0 ?_
        · have c0 := hS.c0
          have c1 := hS.c1
          clear hS
          go_simp
        simp only [Act.put]
        refine wpAnyH_take (i := 10) (v := .pointer (some ⟨p, 1, none⟩)) rfl (by kernel_rfl) (by kernel_rfl) (by kernel_rfl) (fun _ _ _ h => h) (Or.inl ⟨by rfl, fun W' hS => ?_⟩) hS0 ?_
        · clear hS
          go_simp
          all_goals omega
        simp only [Act.put]
        refine wpAnyH_take (i := 11) (v := .int .i64 (j : Int)) rfl (by kernel_rfl) (by kernel_rfl) (by kernel_rfl) (fun _ _ _ h => h) (Or.inl ⟨by rfl, fun W' hS => ?_⟩) hS0 ?_
        · have c0 := hS.c0
          have c1 := hS.c1
          clear hS
          go_simp
        simp only [Act.put]
        refine wpAnyH_ready (rs := [5]) (by kernel_rfl) (by simp) ?_
        refine AllReadyH.cons rfl (fun K hKK => ?_) AllReadyH.nil
        go_simp
        refine (C1.out _).mono ?_
        rintro e W1 ⟨rfl, b1⟩
        have hS1 : RMat W1 p R j f := hS0.below b1
        refine hKK.out _ _ hS1 (fun hHeld => ?_)
        clear hKK hHeld
        refine wpAnyH_take (i := 6) (v := .string (H0 ++ T1)) rfl (by kernel_rfl) (by kernel_rfl) (by kernel_rfl) (fun _ _ _ h => h) (Or.inl ⟨by rfl, fun W' hS => ?_⟩) hS1 ?_
        · clear hS
          go_simp
          all_goals omega
        simp only [Act.put]
        refine wpAnyH_take (i := 7) (v := .string (H0 ++ T1 ++ ({ data := #[32] } : ByteArray))) rfl (by kernel_rfl) (by kernel_rfl) (by kernel_rfl) (fun _ _ _ h => h) (Or.inl ⟨by rfl, fun W' hS => ?_⟩) hS1 ?_
        · clear hS
          go_simp
          all_goals omega
        simp only [Act.put]
        refine wpAnyH_ready (rs := [12]) (by kernel_rfl) (by simp) ?_
        refine AllReadyH.cons rfl (fun K hKK => ?_) AllReadyH.nil
        go_simp
        refine (C2.out _).mono ?_
        rintro e W2 ⟨rfl, b2⟩
        have hS2 : RMat W2 p R j f := hS1.below b2
        refine hKK.out _ _ hS2 (fun hHeld => ?_)
        clear hKK hHeld
        refine wpAnyH_take (i := 13) (v := .string (H0 ++ T1 ++ ({ data := #[32] } : ByteArray) ++ T2)) rfl (by kernel_rfl) (by kernel_rfl) (by kernel_rfl) (fun _ _ _ h => h) (Or.inl ⟨by rfl, fun W' hS => ?_⟩) hS2 ?_
        · clear hS
          go_simp
          all_goals omega
        simp only [Act.put]
        refine wpAnyH_take (i := 14) (v := .string (H0 ++ T1 ++ ({ data := #[32] } : ByteArray) ++ T2)) rfl (by kernel_rfl) (by kernel_rfl) (by kernel_rfl) (fun _ _ _ h => h) (Or.inl ⟨by rfl, fun W' hS => ?_⟩) hS2 ?_
        · clear hS
          go_simp
          all_goals omega
        simp only [Act.put]
        refine wpAnyH_done (by kernel_rfl) ?_ _
        have HB2 := hid ((hBd.trans (b1.mono (by have := hBd.size; omega))).trans (b2.mono (by have := hBd.size; have := b1.size; omega)))
        clear b1 b2 hS0 hS1 hS2 hBd HM HB k1
        go_wp2_with fail
        refine (list_b _ _ false (by decide)).mono ?_
        rintro e w2 ⟨rfl, hw2⟩
        rw [hw2]
        clear hw2
        have HB3 := HB2
        go_wp2
        go_ret
        refine ⟨_, rfl, ?_, by rw [hb]; exact HB3.out⟩
        simp only [bytes_append_list, HP.out, HH0.out, HT1.out, HT2.out]
        unfold textL
        rw [← HN.out]
        simp [lineL, sizW, Lib.join_cons, Lib.joinTail]
      · go_wp2_with fail
        obtain ⟨H0, hH0⟩ : ∃ H0 : ByteArray, ({ data := #[37, 37, 77, 97, 116, 114, 105, 120, 77, 97, 114, 107, 101, 116, 32, 109, 97, 116, 114, 105, 120, 32, 99, 111, 111, 114, 100, 105, 110, 97, 116, 101, 32, 114, 101, 97, 108, 32, 103, 101, 110, 101, 114, 97, 108, 10] } : ByteArray) = H0 := ⟨_, rfl⟩
        have hH0z : H0.size = 46 := by rw [← hH0]; rfl
        have HH0 : Hid (H0.data.toList = lineL (firstW 2)) := by
          show _ = _
          rw [← hH0]; simp [lineL, firstW, Lib.join_cons, Lib.joinTail]
        rw [hH0]
        clear hH0
        refine wp_region_held (S := fun W' => RMat W' p R j f) hmix ?_
        change wpAnyH _ _ _ _ _ _ _ _ wr.drew
        have hS0 : RMat wr.drew p R j f := HM.out.below (Below.refl _ _).drew
        have hBd : Below b w wr.drew := HB.out.drew
        refine wpAnyH_take (i := 0) (v := .string H0) rfl (by kernel_rfl) (by kernel_rfl) (by kernel_rfl) (fun _ _ _ h => h) (Or.inl ⟨by rfl, fun W' hS => ?_⟩) hS0 ?_
        · clear hS
          go_simp
          all_goals omega
        simp only [Act.put]
        refine wpAnyH_take (i := 1) (v := .pointer (some ⟨p, 0, none⟩)) rfl (by kernel_rfl) (by kernel_rfl) (by kernel_rfl) (fun _ _ _ h => h) (Or.inl ⟨by rfl, fun W' hS => ?_⟩) hS0 ?_
        · clear hS
          go_simp
          all_goals omega
        simp only [Act.put]
        refine wpAnyH_take (i := 2) (v := .pointer (some ⟨p, 0, none⟩)) rfl (by kernel_rfl) (by kernel_rfl) (by kernel_rfl) (fun _ _ _ h => h) (Or.inl ⟨by rfl, fun W' hS => ?_⟩) hS0 ?_
        · have c0 := hS.c0
          have c1 := hS.c1
          clear hS
          go_simp
        simp only [Act.put]
        refine wpAnyH_take (i := 3) (v := .pointer (some ⟨p, 0, none⟩)) rfl (by kernel_rfl) (by kernel_rfl) (by kernel_rfl) (fun _ _ _ h => h) (Or.inl ⟨by rfl, fun W' hS => ?_⟩) hS0 ?_
        · clear hS
          go_simp
          all_goals omega
        simp only [Act.put]
        refine wpAnyH_take (i := 4) (v := .int .i64 (R : Int)) rfl (by kernel_rfl) (by kernel_rfl) (by kernel_rfl) (fun _ _ _ h => h) (Or.inl ⟨by rfl, fun W' hS => ?_⟩) hS0 ?_
        · have c0 := hS.c0
          have c1 := hS.c1
          clear hS
          go_simp
        simp only [Act.put]
        refine wpAnyH_take (i := 8) (v := .pointer (some ⟨p, 0, none⟩)) rfl (by kernel_rfl) (by kernel_rfl) (by kernel_rfl) (fun _ _ _ h => h) (Or.inl ⟨by rfl, fun W' hS => ?_⟩) hS0 ?_
        · clear hS
          go_simp
          all_goals omega
        simp only [Act.put]
        refine wpAnyH_take (i := 9) (v := .pointer (some ⟨p, 0, none⟩)) rfl (by kernel_rfl) (by kernel_rfl) (by kernel_rfl) (fun _ _ _ h => h) (Or.inl ⟨by rfl, fun W' hS => ?_⟩) hS0 ?_
        · have c0 := hS.c0
          have c1 := hS.c1
          clear hS
          go_simp
        simp only [Act.put]
        refine wpAnyH_take (i := 10) (v := .pointer (some ⟨p, 1, none⟩)) rfl (by kernel_rfl) (by kernel_rfl) (by kernel_rfl) (fun _ _ _ h => h) (Or.inl ⟨by rfl, fun W' hS => ?_⟩) hS0 ?_
        · clear hS
          go_simp
          all_goals omega
        simp only [Act.put]
        refine wpAnyH_take (i := 11) (v := .int .i64 (j : Int)) rfl (by kernel_rfl) (by kernel_rfl) (by kernel_rfl) (fun _ _ _ h => h) (Or.inl ⟨by rfl, fun W' hS => ?_⟩) hS0 ?_
        · have c0 := hS.c0
          have c1 := hS.c1
          clear hS
          go_simp
        simp only [Act.put]
        refine wpAnyH_ready (rs := [5]) (by kernel_rfl) (by simp) ?_
        refine AllReadyH.cons rfl (fun K hKK => ?_) AllReadyH.nil
        go_simp
        refine (C1.out _).mono ?_
        rintro e W1 ⟨rfl, b1⟩
        have hS1 : RMat W1 p R j f := hS0.below b1
        refine hKK.out _ _ hS1 (fun hHeld => ?_)
        clear hKK hHeld
        refine wpAnyH_take (i := 6) (v := .string (H0 ++ T1)) rfl (by kernel_rfl) (by kernel_rfl) (by kernel_rfl) (fun _ _ _ h => h) (Or.inl ⟨by rfl, fun W' hS => ?_⟩) hS1 ?_
        · clear hS
          go_simp
          all_goals omega
        simp only [Act.put]
        refine wpAnyH_take (i := 7) (v := .string (H0 ++ T1 ++ ({ data := #[32] } : ByteArray))) rfl (by kernel_rfl) (by kernel_rfl) (by kernel_rfl) (fun _ _ _ h => h) (Or.inl ⟨by rfl, fun W' hS => ?_⟩) hS1 ?_
        · clear hS
          go_simp
          all_goals omega
        simp only [Act.put]
        refine wpAnyH_ready (rs := [12]) (by kernel_rfl) (by simp) ?_
        refine AllReadyH.cons rfl (fun K hKK => ?_) AllReadyH.nil
        go_simp
        refine (C2.out _).mono ?_
        rintro e W2 ⟨rfl, b2⟩
        have hS2 : RMat W2 p R j f := hS1.below b2
        refine hKK.out _ _ hS2 (fun hHeld => ?_)
        clear hKK hHeld
        refine wpAnyH_take (i := 13) (v := .string (H0 ++ T1 ++ ({ data := #[32] } : ByteArray) ++ T2)) rfl (by kernel_rfl) (by kernel_rfl) (by kernel_rfl) (fun _ _ _ h => h) (Or.inl ⟨by rfl, fun W' hS => ?_⟩) hS2 ?_
        · clear hS
          go_simp
          all_goals omega
        simp only [Act.put]
        refine wpAnyH_take (i := 14) (v := .string (H0 ++ T1 ++ ({ data := #[32] } : ByteArray) ++ T2)) rfl (by kernel_rfl) (by kernel_rfl) (by kernel_rfl) (fun _ _ _ h => h) (Or.inl ⟨by rfl, fun W' hS => ?_⟩) hS2 ?_
        · clear hS
          go_simp
          all_goals omega
        simp only [Act.put]
        refine wpAnyH_done (by kernel_rfl) ?_ _
        have HB2 := hid ((hBd.trans (b1.mono (by have := hBd.size; omega))).trans (b2.mono (by have := hBd.size; have := b1.size; omega)))
        clear b1 b2 hS0 hS1 hS2 hBd HM HB k1
        go_wp2_with fail
        refine (list_b _ _ true (by decide)).mono ?_
        rintro e w2 ⟨rfl, hw2⟩
        rw [hw2]
        clear hw2
        go_wp2_with fail
        refine (C3.out _).mono ?_
        rintro e W3 ⟨rfl, b3⟩
        have HB3 := hid (HB2.out.trans (b3.mono (by have := HB2.out.size; omega)))
        go_wp2
        go_ret
        refine ⟨_, rfl, ?_, by rw [hb]; exact HB3.out⟩
        simp only [bytes_append_list, HP.out, HH0.out, HT1.out, HT2.out, HT3.out]
        unfold textL
        rw [← HN.out]
        simp [lineL, sizW, Lib.join_cons, Lib.joinTail]
      · go_wp2_with fail
        obtain ⟨H0, hH0⟩ : ∃ H0 : ByteArray, ({ data := #[37, 37, 77, 97, 116, 114, 105, 120, 77, 97, 114, 107, 101, 116, 32, 109, 97, 116, 114, 105, 120, 32, 99, 111, 111, 114, 100, 105, 110, 97, 116, 101, 32, 114, 101, 97, 108, 32, 115, 121, 109, 109, 101, 116, 114, 105, 99, 10] } : ByteArray) = H0 := ⟨_, rfl⟩
        have hH0z : H0.size = 48 := by rw [← hH0]; rfl
        have HH0 : Hid (H0.data.toList = lineL (firstW 3)) := by
          show _ = _
          rw [← hH0]; simp [lineL, firstW, Lib.join_cons, Lib.joinTail]
        rw [hH0]
        clear hH0
        refine wp_region_held (S := fun W' => RMat W' p R j f) hmix ?_
        change wpAnyH _ _ _ _ _ _ _ _ wr.drew
        have hS0 : RMat wr.drew p R j f := HM.out.below (Below.refl _ _).drew
        have hBd : Below b w wr.drew := HB.out.drew
        refine wpAnyH_take (i := 0) (v := .string H0) rfl (by kernel_rfl) (by kernel_rfl) (by kernel_rfl) (fun _ _ _ h => h) (Or.inl ⟨by rfl, fun W' hS => ?_⟩) hS0 ?_
        · clear hS
          go_simp
          all_goals omega
        simp only [Act.put]
        refine wpAnyH_take (i := 1) (v := .pointer (some ⟨p, 0, none⟩)) rfl (by kernel_rfl) (by kernel_rfl) (by kernel_rfl) (fun _ _ _ h => h) (Or.inl ⟨by rfl, fun W' hS => ?_⟩) hS0 ?_
        · clear hS
          go_simp
          all_goals omega
        simp only [Act.put]
        refine wpAnyH_take (i := 2) (v := .pointer (some ⟨p, 0, none⟩)) rfl (by kernel_rfl) (by kernel_rfl) (by kernel_rfl) (fun _ _ _ h => h) (Or.inl ⟨by rfl, fun W' hS => ?_⟩) hS0 ?_
        · have c0 := hS.c0
          have c1 := hS.c1
          clear hS
          go_simp
        simp only [Act.put]
        refine wpAnyH_take (i := 3) (v := .pointer (some ⟨p, 0, none⟩)) rfl (by kernel_rfl) (by kernel_rfl) (by kernel_rfl) (fun _ _ _ h => h) (Or.inl ⟨by rfl, fun W' hS => ?_⟩) hS0 ?_
        · clear hS
          go_simp
          all_goals omega
        simp only [Act.put]
        refine wpAnyH_take (i := 4) (v := .int .i64 (R : Int)) rfl (by kernel_rfl) (by kernel_rfl) (by kernel_rfl) (fun _ _ _ h => h) (Or.inl ⟨by rfl, fun W' hS => ?_⟩) hS0 ?_
        · have c0 := hS.c0
          have c1 := hS.c1
          clear hS
          go_simp
        simp only [Act.put]
        refine wpAnyH_take (i := 8) (v := .pointer (some ⟨p, 0, none⟩)) rfl (by kernel_rfl) (by kernel_rfl) (by kernel_rfl) (fun _ _ _ h => h) (Or.inl ⟨by rfl, fun W' hS => ?_⟩) hS0 ?_
        · clear hS
          go_simp
          all_goals omega
        simp only [Act.put]
        refine wpAnyH_take (i := 9) (v := .pointer (some ⟨p, 0, none⟩)) rfl (by kernel_rfl) (by kernel_rfl) (by kernel_rfl) (fun _ _ _ h => h) (Or.inl ⟨by rfl, fun W' hS => ?_⟩) hS0 ?_
        · have c0 := hS.c0
          have c1 := hS.c1
          clear hS
          go_simp
        simp only [Act.put]
        refine wpAnyH_take (i := 10) (v := .pointer (some ⟨p, 1, none⟩)) rfl (by kernel_rfl) (by kernel_rfl) (by kernel_rfl) (fun _ _ _ h => h) (Or.inl ⟨by rfl, fun W' hS => ?_⟩) hS0 ?_
        · clear hS
          go_simp
          all_goals omega
        simp only [Act.put]
        refine wpAnyH_take (i := 11) (v := .int .i64 (j : Int)) rfl (by kernel_rfl) (by kernel_rfl) (by kernel_rfl) (fun _ _ _ h => h) (Or.inl ⟨by rfl, fun W' hS => ?_⟩) hS0 ?_
        · have c0 := hS.c0
          have c1 := hS.c1
          clear hS
          go_simp
        simp only [Act.put]
        refine wpAnyH_ready (rs := [5]) (by kernel_rfl) (by simp) ?_
        refine AllReadyH.cons rfl (fun K hKK => ?_) AllReadyH.nil
        go_simp
        refine (C1.out _).mono ?_
        rintro e W1 ⟨rfl, b1⟩
        have hS1 : RMat W1 p R j f := hS0.below b1
        refine hKK.out _ _ hS1 (fun hHeld => ?_)
        clear hKK hHeld
        refine wpAnyH_take (i := 6) (v := .string (H0 ++ T1)) rfl (by kernel_rfl) (by kernel_rfl) (by kernel_rfl) (fun _ _ _ h => h) (Or.inl ⟨by rfl, fun W' hS => ?_⟩) hS1 ?_
        · clear hS
          go_simp
          all_goals omega
        simp only [Act.put]
        refine wpAnyH_take (i := 7) (v := .string (H0 ++ T1 ++ ({ data := #[32] } : ByteArray))) rfl (by kernel_rfl) (by kernel_rfl) (by kernel_rfl) (fun _ _ _ h => h) (Or.inl ⟨by rfl, fun W' hS => ?_⟩) hS1 ?_
        · clear hS
          go_simp
          all_goals omega
        simp only [Act.put]
        refine wpAnyH_ready (rs := [12]) (by kernel_rfl) (by simp) ?_
        refine AllReadyH.cons rfl (fun K hKK => ?_) AllReadyH.nil
        go_simp
        refine (C2.out _).mono ?_
        rintro e W2 ⟨rfl, b2⟩
        have hS2 : RMat W2 p R j f := hS1.below b2
        refine hKK.out _ _ hS2 (fun hHeld => ?_)
        clear hKK hHeld
        refine wpAnyH_take (i := 13) (v := .string (H0 ++ T1 ++ ({ data := #[32] } : ByteArray) ++ T2)) rfl (by kernel_rfl) (by kernel_rfl) (by kernel_rfl) (fun _ _ _ h => h) (Or.inl ⟨by rfl, fun W' hS => ?_⟩) hS2 ?_
        · clear hS
          go_simp
          all_goals omega
        simp only [Act.put]
        refine wpAnyH_take (i := 14) (v := .string (H0 ++ T1 ++ ({ data := #[32] } : ByteArray) ++ T2)) rfl (by kernel_rfl) (by kernel_rfl) (by kernel_rfl) (fun _ _ _ h => h) (Or.inl ⟨by rfl, fun W' hS => ?_⟩) hS2 ?_
        · clear hS
          go_simp
          all_goals omega
        simp only [Act.put]
        refine wpAnyH_done (by kernel_rfl) ?_ _
        have HB2 := hid ((hBd.trans (b1.mono (by have := hBd.size; omega))).trans (b2.mono (by have := hBd.size; have := b1.size; omega)))
        clear b1 b2 hS0 hS1 hS2 hBd HM HB k1
        go_wp2_with fail
        refine (list_b _ _ true (by decide)).mono ?_
        rintro e w2 ⟨rfl, hw2⟩
        rw [hw2]
        clear hw2
        go_wp2_with fail
        refine (C3.out _).mono ?_
        rintro e W3 ⟨rfl, b3⟩
        have HB3 := hid (HB2.out.trans (b3.mono (by have := HB2.out.size; omega)))
        go_wp2
        go_ret
        refine ⟨_, rfl, ?_, by rw [hb]; exact HB3.out⟩
        simp only [bytes_append_list, HP.out, HH0.out, HT1.out, HT2.out, HT3.out]
        unfold textL
        rw [← HN.out]
        simp [lineL, sizW, Lib.join_cons, Lib.joinTail]

end Go.Proofs.YthdcceackfdbbaaGreatDoor
