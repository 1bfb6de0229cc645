import Derived.Test.YthdcceackfdbbaaGreatDoorM01R
import Derived.Test.YthdcceackfdbbaaGreatDoorM07R
import Derived.Test.YthdcceackfdbbaaGreatDoorM16R
import Derived.Test.YthdcceackfdbbaaGreatDoorM10R

namespace Go.Proofs.YthdcceackfdbbaaGreatDoor
open Go Go.RowKit
theorem half_any (w : World) (k : Int) : Calls Tryz.prog 44 #[.int .i64 k] w fun e w' => e = .returned (.bool (decide (k = 1 ∨ k = 3))) ∧ w' = w := by
  go_enter Tryz.func44, Tryz.ntmps44
  go_wp2
  all_goals go_ret
  all_goals refine ⟨?_, rfl⟩
  all_goals simp [*]
  all_goals first | omega | (rw [Bool.eq_iff_iff]; simp [*])
theorem list_any (w : World) (k : Int) : Calls Tryz.prog 77 #[.int .i64 k] w fun e w' => e = .returned (.bool (decide (k = 2 ∨ k = 3))) ∧ w' = w := by
  go_enter Tryz.func77, Tryz.ntmps77
  go_wp2
  all_goals go_ret
  all_goals refine ⟨?_, rfl⟩
  all_goals simp [*]
  all_goals first | omega | (rw [Bool.eq_iff_iff]; simp [*])
theorem rcrc_test {h b i : Nat} (hh : h < 4294967296) (hb : b < 256) : (bits BinOp.xor IntKind.u32 (bits BinOp.and IntKind.u32 ((b : Int) / 2 ^ i) 1) (bits BinOp.and IntKind.u32 (h : Int) 1) == 1) = decide ((b >>> i + h) % 2 = 1) := by
  have e1 : ((b : Int) / 2 ^ i) = ((b / 2 ^ i : Nat) : Int) := by simp
  have hlt : b / 2 ^ i < 4294967296 := Nat.lt_of_le_of_lt (Nat.div_le_self _ _) (by omega)
  rw [e1, show (1 : Int) = ((1 : Nat) : Int) from rfl, u32_and_nat _ _ hlt (by omega), u32_and_nat _ _ hh (by omega), Nat.and_one_is_mod, Nat.and_one_is_mod, u32_xor_nat _ _ (by omega) (by omega), Nat.shiftRight_eq_div_pow]
  rw [Bool.eq_iff_iff, beq_iff_eq, decide_eq_true_eq]
  generalize b / 2 ^ i = q
  have h1 : q % 2 = 0 ∨ q % 2 = 1 := by omega
  have h2 : h % 2 = 0 ∨ h % 2 = 1 := by omega
  rcases h1 with h1 | h1 <;> rcases h2 with h2 | h2 <;> rw [h1, h2] <;> simp <;> omega
theorem rflip_bits {s : Nat} (hs : s < 4294967296) : bits BinOp.xor IntKind.u32 (s : Int) 4294967295 = ((flip32 s : Nat) : Int) := by
  rw [show (4294967295 : Int) = ((4294967295 : Nat) : Int) from rfl, u32_xor_nat _ _ hs (by omega), flip_xor hs]
theorem bytes_at {s : ByteArray} {k : Nat} (h : k < s.size) : s.data.toList[k]? = some s[k] := by
  have h' : k < s.data.toList.length := by simpa using h
  rw [List.getElem?_eq_getElem h']
  simp
  rfl
set_option maxRecDepth 20000 in
set_option maxHeartbeats 2000000 in
theorem rsum_any (w : World) (s : ByteArray) (hs : s.size ≤ 1000000) :
    Calls Tryz.prog 76 #[.string s] w fun e w' => e = .returned (.int .u32 ((sumL s.data.toList : Nat) : Int)) ∧ w' = w := by
  have HSZ : Hid (s.data.toList.length = s.size) := by unfold Hid; simp
  go_enter Tryz.func76, Tryz.ntmps76
  go_wp2
  go_loop [3, 4] (fun vh vi => ∃ k S : Nat, vi = .int .i64 (k : Int) ∧ k ≤ s.size ∧ vh = .int .u32 (S : Int) ∧ S < 4294967296 ∧ Hid (S = crcAll 4294967295 (s.data.toList.take k))) (fun _ vi => s.size - (intOf vi).toNat)
  case atStart => exact ⟨0, 4294967295, rfl, by omega, rfl, by omega, by rw [List.take_zero]; rfl⟩
  case round =>
    obtain ⟨k, S, rfl, hk, rfl, hsl, HS0⟩ := hrel
    by_cases hlt : k < s.size
    · have hlt' : (k : Int) < s.size := by omega
      obtain ⟨c, hc⟩ : ∃ c, s[k] = c := ⟨_, rfl⟩
      have HN : Hid (crcTo S c.toNat 8 = crcAll 4294967295 (s.data.toList.take (k + 1))) := by
        show _ = _
        have hg := bytes_at hlt
        rw [hc] at hg
        rw [List.take_add_one, hg, HS0.out]; exact (crcAll_snoc _ _ _).symm
      have HF := hid (fun q => crcTo_lt (b := c.toNat) hsl q)
      have hbl : c.toNat < 256 := c.toNat_lt
      have HC := hid hc
      clear HS0 hc
      go_wp2
      go_loop [3, 5] (fun vh vi => ∃ q : Nat, vi = .int .i64 (q : Int) ∧ q ≤ 8 ∧ vh = .int .u32 ((crcTo S c.toNat q : Nat) : Int)) (fun _ vi => 8 - (intOf vi).toNat)
      case atStart => exact ⟨0, rfl, by omega, rfl⟩
      case round =>
        obtain ⟨q, rfl, hq, rfl⟩ := hrel
        by_cases hlt8 : q < 8
        · have hlt8' : (q : Int) < 8 := by omega
          have hH := HF.out q
          have HS : Hid (crcTo S c.toNat (q + 1) = crcBit (crcTo S c.toNat q) c.toNat q) := rfl
          generalize crcTo S c.toNat q = H at *
          have ht := rcrc_test (i := q) hH hbl
          have hx := crc_xor hH
          have hc := HC.out
          clear HF HN
          by_cases hcc : (c.toNat >>> q + H) % 2 = 1
          · have HE : Hid (crcBit H c.toNat q = (H >>> 1) ^^^ 3988292384) := if_pos hcc
            rw [decide_eq_true hcc] at ht
            go_wp2
            go_round
            case rel => exact ⟨q + 1, by simp, by omega, by rw [HS.out, HE.out]⟩
            case measure => simp [intOf]; omega
          · have HE : Hid (crcBit H c.toNat q = H >>> 1) := if_neg hcc
            rw [decide_eq_false hcc] at ht
            go_wp2
            go_round
            case rel => exact ⟨q + 1, by simp, by omega, by rw [HS.out, HE.out, Nat.shiftRight_eq_div_pow]; simp⟩
            case measure => simp [intOf]; omega
        · have hlt8' : ¬ (q : Int) < 8 := by omega
          obtain rfl : q = 8 := by omega
          have hz := HF.out 8
          generalize crcTo S c.toNat 8 = H at *
          go_wp2
          go_round
          case rel => exact ⟨k + 1, H, by simp, by omega, rfl, hz, HN⟩
          case measure => simp [intOf]; omega
    · have hlt' : ¬ (k : Int) < s.size := by omega
      obtain rfl : k = s.size := by omega
      have hf := rflip_bits hsl
      have HS1 : Hid (flip32 S = sumL s.data.toList) := by have := HS0.out; rw [← HSZ.out, List.take_length] at this; rw [this]; rfl
      clear HS0
      go_wp2
      go_ret
      exact ⟨by rw [HS1.out]; rfl, rfl⟩
end Go.Proofs.YthdcceackfdbbaaGreatDoor
namespace Go.Proofs.YthdcceackfdbbaaGreatDoor
open Go Go.RowKit
def cntP (P : Nat → Bool) (q : Nat) : Nat := ((List.range q).filter P).length
theorem cntP_yes {P : Nat → Bool} {q : Nat} (h : P q = true) : cntP P (q + 1) = cntP P q + 1 := by
  unfold cntP; rw [List.range_succ, List.filter_append, List.length_append]; simp [h]
theorem cntP_no {P : Nat → Bool} {q : Nat} (h : P q = false) : cntP P (q + 1) = cntP P q := by
  unfold cntP; rw [List.range_succ, List.filter_append, List.length_append]; simp [h]
theorem cntP_mono {P : Nat → Bool} {q r : Nat} (h : q ≤ r) : cntP P q ≤ cntP P r := by
  induction r with
  | zero => rw [show q = 0 by omega]; exact Nat.le_refl _
  | succ r ih =>
    by_cases e : q = r + 1
    · rw [e]; exact Nat.le_refl _
    · have h1 := ih (by omega)
      cases hp : P r with
      | true => rw [cntP_yes hp]; omega
      | false => rw [cntP_no hp]; exact h1
theorem filt_at {P : Nat → Bool} {had q0 : Nat} : ∀ n, ((List.range n).filter P)[had]? = some q0 → q0 < n ∧ P q0 = true ∧ cntP P q0 = had
  | 0, h => by simp at h
  | n + 1, h => by
    rw [List.range_succ, List.filter_append] at h
    by_cases hl : had < ((List.range n).filter P).length
    · rw [List.getElem?_append_left hl] at h
      obtain ⟨h1, h2, h3⟩ := filt_at n h
      exact ⟨by omega, h2, h3⟩
    · rw [List.getElem?_append_right (by omega)] at h
      cases hp : P n with
      | false => simp [hp] at h
      | true =>
        simp [hp] at h
        have h0 : had - ((List.range n).filter P).length = 0 := by
          apply Classical.byContradiction
          intro hne
          rw [List.getElem?_eq_none (by simp; omega)] at h
          cases h
        rw [h0] at h
        simp at h
        subst h
        exact ⟨by omega, hp, by unfold cntP; omega⟩
def toldP (k R q : Nat) : Bool := !(decide (k = 1 ∨ k = 3) && decide (q % R < q / R))
theorem plsL_eq {k R C : Nat} (hk : k ≤ 3) : plsL k R C = ((List.range (R * C)).filter (toldP k R)).map (fun q => (q % R, q / R)) := by
  unfold plsL plcL
  rw [if_neg (by omega)]
  by_cases h : k = 1 ∨ k = 3
  · rw [if_pos h]
    unfold colsL
    rw [List.filter_map, List.map_map]
    congr 1
    refine List.filter_congr (fun q _ => ?_)
    simp only [Function.comp, toldP, decide_eq_true h, Bool.true_and]
    rw [Bool.eq_iff_iff]; simp
  · rw [if_neg h]
    unfold colsL
    rw [List.map_map]
    have e : (List.range (R * C)).filter (toldP k R) = List.range (R * C) := by
      rw [List.filter_eq_self]
      intro q _
      simp [toldP, h]
    rw [e]
    rfl
theorem next_at {k R C had i j : Nat} (hk : k ≤ 3) (h : (plsL k R C)[had]? = some (i, j)) : ∃ q, q < R * C ∧ toldP k R q = true ∧ cntP (toldP k R) q = had ∧ q % R = i ∧ q / R = j := by
  rw [plsL_eq hk, List.getElem?_map] at h
  cases hf : ((List.range (R * C)).filter (toldP k R))[had]? with
  | none => rw [hf] at h; cases h
  | some q =>
    rw [hf] at h
    obtain ⟨h1, h2, h3⟩ := filt_at _ hf
    cases h
    exact ⟨q, h1, h2, h3, rfl, rfl⟩
set_option maxRecDepth 20000 in
set_option maxHeartbeats 2000000 in
theorem rnext_any (w : World) (p k R C want had i0 j0 : Nat) (sized : Bool) (bv sv : Value) (hk : k ≤ 3) (hR : R ≤ 40) (hC : C ≤ 40) (hhad : had ≤ 1600) (h : Arr w p 133 (txtC k sized want had R C bv sv)) (hat : (plsL k R C)[had]? = some (i0, j0)) :
    Calls Tryz.prog 152 #[.pointer (some ⟨p, 0, none⟩)] w fun e w' => e = .returned (.tuple #[.int .i64 (i0 : Int), .int .i64 (j0 : Int)]) ∧ w' = w := by
  obtain ⟨q0, hq0, hP0, hc0, rfl, rfl⟩ := next_at hk hat
  have c0 := h.cell (i := 0) rfl
  have c3 := h.cell (i := 3) rfl
  have c4 := h.cell (i := 4) rfl
  have c5 := h.cell (i := 5) rfl
  have HP0 := hid hP0
  have HC0 := hid hc0
  have HH := hid (fun w : World => half_any w (k : Int))
  obtain ⟨hf, hhf⟩ : ∃ hf : Bool, decide ((k : Int) = 1 ∨ (k : Int) = 3) = hf := ⟨_, rfl⟩
  rw [hhf] at HH
  have HHF : Hid (decide (k = 1 ∨ k = 3) = hf) := by
    show _ = _
    rw [← hhf, decide_eq_decide]; omega
  clear h hat hP0 hc0 hhf
  have hRC : R * C ≤ 1600 := Nat.mul_le_mul hR hC
  go_enter Tryz.func152, Tryz.ntmps152
  go_wp2
  go_loop [4, 5] (fun vk vj => ∃ j kc : Nat, vj = .int .i64 (j : Int) ∧ vk = .int .i64 (kc : Int) ∧ j ≤ C ∧ kc ≤ 1600 ∧ Hid (j * R ≤ q0) ∧ Hid (kc = cntP (toldP k R) (j * R))) (fun _ vj => C - (intOf vj).toNat)
  case atStart => exact ⟨0, 0, rfl, rfl, by omega, by omega, by show _ ≤ _; omega, by show _ = _; rw [Nat.zero_mul]; rfl⟩
  case round =>
    obtain ⟨j, kc, rfl, rfl, hj, hkc, HJ, HK⟩ := hrel
    by_cases hjt : j < C
    · have hjt' : (j : Int) < C := by omega
      go_wp2_with fail
      go_loop [4, 6] (fun vk vi => ∃ i kc : Nat, vi = .int .i64 (i : Int) ∧ vk = .int .i64 (kc : Int) ∧ i ≤ R ∧ kc ≤ 1600 ∧ Hid (j * R + i ≤ q0) ∧ Hid (kc = cntP (toldP k R) (j * R + i))) (fun _ vi => R - (intOf vi).toNat)
      case atStart => exact ⟨0, kc, rfl, rfl, by omega, hkc, HJ, HK⟩
      case round =>
        clear HJ HK hkc
        obtain ⟨i, kc, rfl, rfl, hi, hkc, HJ, HK⟩ := hrel
        by_cases hit : i < R
        · have hit' : (i : Int) < R := by omega
          have m1 : (j * R + i) % R = i := by rw [Nat.mul_comm, Nat.mul_add_mod, Nat.mod_eq_of_lt hit]
          have m2 : (j * R + i) / R = j := by rw [Nat.mul_comm, Nat.mul_add_div (by omega), Nat.div_eq_of_lt hit]; omega
          have HT : Hid (toldP k R (j * R + i) = !(hf && decide (i < j))) := by show _ = _; unfold toldP; rw [m1, m2, HHF.out]
          have hlt := cntP_mono (P := toldP k R) (show j * R + i ≤ q0 from HJ.out)
          by_cases hskip : hf = true ∧ i < j
          · obtain ⟨hh1, hh2⟩ := hskip
            subst hh1
            have hh2' : (i : Int) < j := by omega
            have hno : toldP k R (j * R + i) = false := by rw [HT.out]; simp [hh2]
            have HJ2 : Hid (j * R + (i + 1) ≤ q0) := by
              show _ ≤ _
              have : j * R + i ≠ q0 := fun e => by rw [e, HP0.out] at hno; cases hno
              have := HJ.out; omega
            have HK2 : Hid (kc = cntP (toldP k R) (j * R + (i + 1))) := by show _ = _; rw [← Nat.add_assoc, cntP_no hno]; exact HK.out
            clear hno hlt HT HJ HK m1 m2
            go_wp2_with fail
            refine (HH.out w).mono ?_
            rintro e w1 ⟨rfl, rfl⟩
            go_wp2
            go_round
            case rel => exact ⟨i + 1, kc, by simp, rfl, by omega, hkc, HJ2, HK2⟩
            case measure => simp [intOf]; omega
          · have hyes : toldP k R (j * R + i) = true := by
              rw [HT.out]
              cases hf with
              | false => rfl
              | true => simp at hskip ⊢; exact hskip
            have hcond : (hf && decide ((i : Int) < (j : Int))) = false := by
              cases hf with
              | false => rfl
              | true => simp at hskip ⊢; omega
            by_cases hkh : kc = had
            · have hq : j * R + i = q0 := by
                apply Classical.byContradiction
                intro hne
                have h1 := cntP_mono (P := toldP k R) (show j * R + i + 1 ≤ q0 by have := HJ.out; omega)
                rw [cntP_yes hyes, HC0.out, ← HK.out] at h1
                omega
              have HI : Hid ((q0 % R : Nat) = i ∧ q0 / R = j) := ⟨by rw [← hq, m1], by rw [← hq, m2]⟩
              subst hkh
              clear hq hyes hlt HT HJ HK m1 m2 hcond
              cases hf with
              | false =>
                go_wp2_with fail
                refine (HH.out w).mono ?_
                rintro e w1 ⟨rfl, rfl⟩
                go_wp2
                go_ret2
                exact ⟨by rw [HI.out.1, HI.out.2]; rfl, rfl⟩
              | true =>
                have hnij : ¬ (i : Int) < (j : Int) := by simp at hskip; omega
                go_wp2_with fail
                refine (HH.out w).mono ?_
                rintro e w1 ⟨rfl, rfl⟩
                go_wp2
                go_ret2
                exact ⟨by rw [HI.out.1, HI.out.2]; rfl, rfl⟩
            · have hkh' : ((kc : Int) == (had : Int)) = false := by rw [beq_eq_false_iff_ne]; omega
              have HJ2 : Hid (j * R + (i + 1) ≤ q0) := by
                show _ ≤ _
                have : j * R + i ≠ q0 := fun e => hkh (by rw [HK.out, e]; exact HC0.out)
                have := HJ.out; omega
              have HK2 : Hid (kc + 1 = cntP (toldP k R) (j * R + (i + 1))) := by show _ = _; rw [← Nat.add_assoc, cntP_yes hyes, ← HK.out]
              have hkc2 : kc + 1 ≤ 1600 := by
                have h1 := cntP_mono (P := toldP k R) HJ2.out
                rw [← HK2.out, HC0.out] at h1
                omega
              clear hyes hlt HT HJ HK m1 m2 hcond
              cases hf with
              | false =>
                go_wp2_with fail
                refine (HH.out w).mono ?_
                rintro e w1 ⟨rfl, rfl⟩
                go_wp2
                go_round
                case rel => exact ⟨i + 1, kc + 1, by simp, by simp, by omega, hkc2, HJ2, HK2⟩
                case measure => simp [intOf]; omega
              | true =>
                have hnij : ¬ (i : Int) < (j : Int) := by simp at hskip; omega
                go_wp2_with fail
                refine (HH.out w).mono ?_
                rintro e w1 ⟨rfl, rfl⟩
                go_wp2
                go_round
                case rel => exact ⟨i + 1, kc + 1, by simp, by simp, by omega, hkc2, HJ2, HK2⟩
                case measure => simp [intOf]; omega
        · have hit' : ¬ (i : Int) < R := by omega
          have hiR : i = R := by omega
          rw [hiR, ← Nat.succ_mul] at HJ HK
          clear hiR
          go_wp2
          go_round
          case rel => exact ⟨j + 1, kc, by simp, rfl, by omega, hkc, HJ, HK⟩
          case measure => simp [intOf]; omega
    · exfalso
      have hjC : j = C := by omega
      have h1 := HJ.out
      rw [hjC, Nat.mul_comm] at h1
      omega
end Go.Proofs.YthdcceackfdbbaaGreatDoor
namespace Go.Proofs.YthdcceackfdbbaaGreatDoor
def bigW (l : List UInt8) : Nat := l.foldl (fun v c => if v < 100000 then 10 * v + (c.toNat - 48) else v) 0
theorem bigW_snoc (l : List UInt8) (c : UInt8) : bigW (l ++ [c]) = if bigW l < 100000 then 10 * bigW l + (c.toNat - 48) else bigW l := by unfold bigW; rw [List.foldl_append]; rfl
theorem bigW_le {l : List UInt8} (h : Digs l) : bigW l ≤ 1000000 := by
  induction l using list_snoc_ind with
  | h0 => simp [bigW]
  | h1 l c ih =>
    obtain ⟨h1, h2⟩ := digs_snoc h
    have := ih h1
    have := isDig_bd h2
    rw [bigW_snoc]
    split <;> omega
theorem big_small (l : List UInt8) : (smallW l < 1000 → bigW l = smallW l) ∧ (1000 ≤ smallW l → 1000 ≤ bigW l) := by
  induction l using list_snoc_ind with
  | h0 => simp [smallW, bigW]
  | h1 l c ih =>
    obtain ⟨i1, i2⟩ := ih
    rw [smallW_snoc, bigW_snoc]
    by_cases h : smallW l < 1000
    · rw [if_pos h, i1 h, if_pos (by omega)]
      exact ⟨fun _ => by omega, fun _ => by omega⟩
    · rw [if_neg h]
      have := i2 (by omega)
      refine ⟨fun h' => absurd h' h, fun _ => ?_⟩
      split <;> omega
def powT : List UInt8 → Option Int
  | [] => some 0
  | c :: r =>
    if c = 101 ∨ c = 69 then
      (if (signL r).2.takeWhile isDig = [] ∨ (signL r).2.dropWhile isDig ≠ [] then none
       else some (if (signL r).1 then -(bigW ((signL r).2.takeWhile isDig) : Int) else (bigW ((signL r).2.takeWhile isDig) : Int)))
    else none
def tokL (l : List UInt8) : Option (List UInt8 × Int) :=
  if l.takeWhile isDig ++ (fracL (l.dropWhile isDig)).1 = [] then none
  else (powT (fracL (l.dropWhile isDig)).2).map fun p => (l.takeWhile isDig ++ (fracL (l.dropWhile isDig)).1, -((fracL (l.dropWhile isDig)).1.length : Int) + p)
theorem pow_both (l : List UInt8) : (powL l = none ∧ powT l = none) ∨ ∃ p q, powL l = some p ∧ powT l = some q ∧ (p = q ∨ (1000 ≤ p ∧ 1000 ≤ q) ∨ (p ≤ -1000 ∧ q ≤ -1000)) := by
  cases l with
  | nil => exact .inr ⟨0, 0, rfl, rfl, .inl rfl⟩
  | cons c r =>
    simp only [powL, powT]
    by_cases h1 : c = 101 ∨ c = 69
    · rw [if_pos h1, if_pos h1]
      by_cases h2 : (signL r).2.takeWhile isDig = [] ∨ (signL r).2.dropWhile isDig ≠ []
      · rw [if_pos h2, if_pos h2]; exact .inl ⟨rfl, rfl⟩
      · rw [if_neg h2, if_neg h2]
        obtain ⟨b1, b2⟩ := big_small ((signL r).2.takeWhile isDig)
        refine .inr ⟨_, _, rfl, rfl, ?_⟩
        by_cases hs : smallW ((signL r).2.takeWhile isDig) < 1000
        · rw [b1 hs]; exact .inl rfl
        · have := b2 (by omega)
          right
          split
          · right; omega
          · left; omega
    · rw [if_neg h1, if_neg h1]; exact .inl ⟨rfl, rfl⟩
def refR (D : Nat) (e : Int) : Nat := if D = 0 ∨ e < -500 then 0 else if 500 < e then 9218868437227405312 else decRnd D e
theorem refR_eq {D n : Nat} {k e : Int} (hD : D < 10 ^ n) (hn : n ≤ 60) (h : k = e ∨ (900 ≤ k ∧ 900 ≤ e) ∨ (k ≤ -900 ∧ e ≤ -900)) : refR D e = decRnd D k := by
  unfold refR
  by_cases h0 : D = 0
  · rw [if_pos (.inl h0)]; unfold decRnd; rw [if_pos h0]
  · have tiny : ∀ x : Int, x < -500 → decRnd D x = 0 := fun x hx => decRnd_tiny hD h0 (by omega)
    have big : ∀ x : Int, 500 < x → decRnd D x = 9218868437227405312 := fun x hx => decRnd_big (n := 0) (by simp; omega) (by omega) (by omega)
    by_cases h1 : e < -500
    · rw [if_pos (.inr h1)]
      rw [tiny k (by omega)]
    · rw [if_neg (by omega)]
      by_cases h2 : 500 < e
      · rw [if_pos h2, big k (by omega)]
      · rw [if_neg h2]
        rcases h with h | h | h
        · rw [h]
        · omega
        · omega
def finT : Option (List UInt8 × Int) → Bool → Nat × Nat
  | none, _ => (0, 1)
  | some dp, m => ((if m then 9223372036854775808 else 0) + refR (dval dp.1) dp.2, 0)
theorem frac_digs (l : List UInt8) : Digs (fracL l).1 := by
  cases l with
  | nil => intro x hx; simp [fracL] at hx
  | cons c r =>
    simp only [fracL]
    split
    · intro x hx
      exact List.all_eq_true.1 (List.all_takeWhile (p := isDig) (l := r)) x hx
    · intro x hx; simp at hx
theorem frac_len (l : List UInt8) : (fracL l).1.length + (fracL l).2.length ≤ l.length := by
  cases l with
  | nil => simp [fracL]
  | cons c r =>
    simp only [fracL]
    split
    · have : (r.takeWhile isDig).length + (r.dropWhile isDig).length = r.length := by rw [← List.length_append, List.takeWhile_append_dropWhile]
      simp; omega
    · simp
theorem fin_both {l : List UInt8} (hl : l.length ≤ 60) (m : Bool) : finT (tokL l) m = finL (decL l) m := by
  have hA : Digs (l.takeWhile isDig) := fun x hx => List.all_eq_true.1 (List.all_takeWhile (p := isDig) (l := l)) x hx
  have hF := frac_digs (l.dropWhile isDig)
  have h1 : (l.takeWhile isDig).length + (l.dropWhile isDig).length = l.length := by rw [← List.length_append, List.takeWhile_append_dropWhile]
  have h2 := frac_len (l.dropWhile isDig)
  unfold tokL decL
  generalize l.takeWhile isDig = A at *
  generalize fracL (l.dropWhile isDig) = fr at *
  obtain ⟨F, RR⟩ := fr
  simp only at hF h2 ⊢
  by_cases hne : A ++ F = []
  · rw [if_pos hne, if_pos hne]; rfl
  · rw [if_neg hne, if_neg hne]
    rcases pow_both RR with ⟨e1, e2⟩ | ⟨p, q, e1, e2, hpq⟩
    · rw [e1, e2]; rfl
    · rw [e1, e2]
      simp only [Option.map_some, finT, finL]
      rw [dval_drop]
      have hd := dval_lt (digs_append hA hF)
      rw [refR_eq (k := p - F.length) (n := (A ++ F).length) hd (by rw [List.length_append]; omega) (by omega)]
      rw [Nat.add_comm]
end Go.Proofs.YthdcceackfdbbaaGreatDoor
