/- Walks: scanDecimal. Own text. -/
import Derived.Test.YthdcceackfdbbaaDoorWl
namespace Go.Proofs.YthdcceackfdbbaaDoor
open Go.RowKit

theorem cutPoint_yes {l r : List UInt8} (h : l = 46 :: r) : Lib.hasPrefix l [46] = true ∧ Lib.trimPrefix l [46] = r := by
  subst h; simp [Lib.hasPrefix, Lib.trimPrefix]
theorem cutPoint_no {l : List UInt8} (h : ∀ r, l ≠ 46 :: r) : Lib.hasPrefix l [46] = false ∧ Lib.trimPrefix l [46] = l ∧ fracL l = ([], l) := by
  cases l with
  | nil => simp [Lib.hasPrefix, Lib.trimPrefix, fracL]
  | cons c r =>
    have : c ≠ 46 := fun e => h r (by rw [e])
    have h2 : [46].isPrefixOf (c :: r) = false := by
      simp only [List.isPrefixOf, Bool.and_true, beq_eq_false_iff_ne]
      exact fun e => this e.symm
    refine ⟨h2, ?_, ?_⟩
    · unfold Lib.trimPrefix Lib.hasPrefix; rw [h2]; rfl
    · simp [fracL, this]

/-- What scanDecimal answers. -/
def DecOk (o : Option (List UInt8 × Int)) (d : ByteArray) (p : Int) (ok : Bool) : Prop := match o with
  | some (ds, q) => ok = true ∧ d.data.toList = ds ∧ p = q
  | none => ok = false

theorem bytes_append_list (a b : ByteArray) : (a ++ b).data.toList = a.data.toList ++ b.data.toList := by simp

theorem powL_bd {l : List UInt8} {q : Int} (h : powL l = some q) : -10000 ≤ q ∧ q ≤ 10000 := by
  cases l with
  | nil => simp [powL] at h; omega
  | cons c r =>
    simp only [powL] at h
    split at h
    · split at h
      · cases h
      · have := smallW_le (digs_takeWhile (signL r).2)
        simp only [Option.some.injEq] at h
        subst h
        split <;> omega
    · cases h

set_option maxRecDepth 5000 in
set_option maxHeartbeats 1600000 in
theorem scanDecimal_any (w : World) (s : ByteArray) (hs : s.size ≤ 100) :
    Calls Tryd.prog 41 #[.string s] w fun e w' => ∃ (d : ByteArray) (p : Int) (ok : Bool), e = .returned (.tuple #[.agg #[.string d, .int .i64 p], .bool ok]) ∧
      DecOk (decL s.data.toList) d p ok ∧ Below w.heap.size w w' := by
  have hsz : s.data.toList.length = s.size := by simp
  have hl1 := takeWhile_len s.data.toList
  have hl2 := dropWhile_len s.data.toList
  generalize hA : s.data.toList.takeWhile isDig = A at *
  generalize hR : s.data.toList.dropWhile isDig = R at *
  have HDEC : Hid (decL s.data.toList = if A ++ (fracL R).1 = [] then none else (powL (fracL R).2).map fun p : Int => ((A ++ (fracL R).1).dropWhile (· == 48), p - (fracL R).1.length)) := by
    unfold Hid decL; rw [hA, hR]
  have HA : Hid (s.data.toList.takeWhile isDig = A) := hA
  have HR : Hid (s.data.toList.dropWhile isDig = R) := hR
  generalize hDL : decL s.data.toList = DL at *
  have hAl : A.length ≤ 100 := by omega
  have hRl : R.length ≤ 100 := by omega
  clear hA hR hsz hl1 hl2 hDL
  by_cases hpt : ∃ r, R = 46 :: r
  · obtain ⟨r, hr⟩ := hpt
    obtain ⟨q1, q2⟩ := cutPoint_yes hr
    have hrl : r.length ≤ 100 := by rw [hr] at hRl; simp at hRl; omega
    have hF : fracL R = (r.takeWhile isDig, r.dropWhile isDig) := by rw [hr]; simp [fracL]
    have Q1 : Hid (Lib.hasPrefix R [46] = true) := q1
    have Q2 : Hid (Lib.trimPrefix R [46] = r) := q2
    have hFl := takeWhile_len r
    have hRRl := dropWhile_len r
    have hd2 := HDEC.out
    rw [hF] at hd2
    simp only at hd2
    generalize hFe : r.takeWhile isDig = F at *
    generalize hRRe : r.dropWhile isDig = RR at *
    have HFE : Hid (r.takeWhile isDig = F) := hFe
    have HRRE : Hid (r.dropWhile isDig = RR) := hRRe
    have HDEC2 : Hid (DL = if A ++ F = [] then none else (powL RR).map fun p : Int => ((A ++ F).dropWhile (· == 48), p - F.length)) := hd2
    clear hr q1 q2 hF hd2 hFe hRRe HDEC
    go_enter Tryd.func41, Tryd.ntmps41
    go_wp2_with fail
    refine (cutDigits_any _ s (by omega)).mono ?_
    rintro e w1 ⟨wh, r1, rfl, hwh, hr1, n1, rfl⟩
    rw [HA.out] at hwh
    rw [HR.out] at hr1
    have HWH : Hid (wh.data.toList = A) := hwh
    have HR1 : Hid (r1.data.toList = R) := hr1
    clear hwh hr1
    go_wp2_with fail
    refine (Tryd.strings_CutPrefix r1 ⟨#[46]⟩ _).mono ?_
    rintro e w2 ⟨rfl, rfl⟩
    rw [show (⟨#[46]⟩ : ByteArray).data.toList = [46] from rfl, HR1.out, Q1.out, Q2.out]
    go_wp2_with fail
    refine (cutDigits_any _ ⟨r.toArray⟩ (by rw [bytes_size (l := r) rfl]; omega)).mono ?_
    rintro e w3 ⟨fr, r3, rfl, hfr, hr3, n3, rfl⟩
    have HFR : Hid (fr.data.toList = F) := hfr.trans HFE.out
    have HR3 : Hid (r3.data.toList = RR) := hr3.trans HRRE.out
    clear hfr hr3
    have hwhs : wh.size ≤ 100 := by rw [bytes_size HWH.out]; omega
    have hfrs : (fr).size ≤ 100 := by rw [bytes_size HFR.out]; omega
    have HAP : Hid ((wh ++ fr).data.toList = A ++ F) := by unfold Hid; rw [bytes_append_list, HWH.out, HFR.out]
    have HFS : Hid (((fr).size : Int) = (F.length : Int)) := by unfold Hid; rw [bytes_size HFR.out]
    have hr3s : (r3).size ≤ 1000 := by rw [bytes_size HR3.out]; omega
    by_cases e0 : A ++ F = []
    · have he : (wh ++ fr).toList.isEmpty = true := bytes_nil (HAP.out.trans e0)
      go_wp2_with fail
      refine bodyPost_ret (v := .tuple #[.agg #[.string ⟨#[]⟩, .int .i64 0], .bool false]) (by simp [results, Tryd.results41, go_sem]) rfl ⟨⟨#[]⟩, 0, false, rfl, ?_, ?_⟩
      · rw [HDEC2.out, if_pos e0]; rfl
      · exact ((below_drewN ((Below.refl _ _).alloc (Nat.le_refl _) _) _).setCell (Nat.le_refl _) _).setCell (Nat.le_refl _) _
    · have he : (wh ++ fr).toList.isEmpty = false := by rw [bytes_toList, HAP.out]; cases hh : A ++ F with | nil => exact absurd hh e0 | cons _ _ => rfl
      go_wp2_with fail
      refine (scanPower_any _ (r3) hr3s).mono ?_
      rintro e w4 ⟨rfl, n4, rfl⟩
      rw [HR3.out]
      cases hpw : powL RR with
      | none =>
        have hpv : powV RR = #[.int .i64 0, .bool false] := by unfold powV; rw [hpw]
        rw [hpv]
        clear hpv
        go_wp2_with fail
        refine (Tryd.strings_TrimLeft_one (wh ++ fr) 48 (by decide) _).mono ?_
        rintro e w5 ⟨rfl, rfl⟩
        go_wp2_with fail
        refine bodyPost_ret (v := .tuple #[.agg #[.string ⟨(Lib.trimLeftB (wh ++ fr).data.toList 48).toArray⟩, .int .i64 (-((fr).size : Int))], .bool false]) (by simp [results, Tryd.results41, go_sem]) rfl ⟨_, _, false, rfl, ?_, ?_⟩
        · rw [HDEC2.out, if_neg e0, hpw]; rfl
        · exact ((below_drewN ((Below.refl _ _).alloc (Nat.le_refl _) _) _).setCell (Nat.le_refl _) _).setCell (Nat.le_refl _) _
      | some q =>
        have hpv : powV RR = #[.int .i64 q, .bool true] := by unfold powV; rw [hpw]
        have hqb := powL_bd hpw
        rw [hpv]
        clear hpv
        go_wp2_with fail
        refine (Tryd.strings_TrimLeft_one (wh ++ fr) 48 (by decide) _).mono ?_
        rintro e w5 ⟨rfl, rfl⟩
        go_wp2_with fail
        refine bodyPost_ret (v := .tuple #[.agg #[.string ⟨(Lib.trimLeftB (wh ++ fr).data.toList 48).toArray⟩, .int .i64 (q - ((fr).size : Int))], .bool true]) (by simp [results, Tryd.results41, go_sem]) rfl ⟨_, _, true, rfl, ?_, ?_⟩
        · rw [HDEC2.out, if_neg e0, hpw]
          refine ⟨rfl, ?_, ?_⟩
          · simp only [Lib.trimLeftB]; rw [HAP.out]
          · rw [HFS.out]
        · exact ((below_drewN ((Below.refl _ _).alloc (Nat.le_refl _) _) _).setCell (Nat.le_refl _) _).setCell (Nat.le_refl _) _
  · obtain ⟨q1, q2, q3⟩ := cutPoint_no (fun r hr => hpt ⟨r, hr⟩)
    have Q1 : Hid (Lib.hasPrefix R [46] = false) := q1
    have Q2 : Hid (Lib.trimPrefix R [46] = R) := q2
    have hd2 := HDEC.out
    rw [q3] at hd2
    simp only at hd2
    obtain ⟨F, hF⟩ : ∃ F : List UInt8, F = [] := ⟨_, rfl⟩
    obtain ⟨RR, hRR⟩ : ∃ RR : List UInt8, RR = R := ⟨_, rfl⟩
    have HDEC2 : Hid (DL = if A ++ F = [] then none else (powL RR).map fun p : Int => ((A ++ F).dropWhile (· == 48), p - F.length)) := by
      unfold Hid; rw [hF, hRR]; exact hd2
    have hFl : F.length ≤ 100 := by rw [hF]; simp
    have hRRl : RR.length ≤ 100 := by rw [hRR]; exact hRl
    have HFR : Hid ((⟨#[]⟩ : ByteArray).data.toList = F) := by unfold Hid; rw [hF]
    have HRR : Hid (RR = R) := hRR
    clear q1 q2 q3 hd2 HDEC hF hRR hpt
    go_enter Tryd.func41, Tryd.ntmps41
    go_wp2_with fail
    refine (cutDigits_any _ s (by omega)).mono ?_
    rintro e w1 ⟨wh, r1, rfl, hwh, hr1, n1, rfl⟩
    rw [HA.out] at hwh
    rw [HR.out] at hr1
    have HWH : Hid (wh.data.toList = A) := hwh
    have HR1 : Hid (r1.data.toList = R) := hr1
    have HR3 : Hid (r1.data.toList = RR) := by unfold Hid; rw [hr1, HRR.out]
    clear hwh hr1
    go_wp2_with fail
    refine (Tryd.strings_CutPrefix r1 ⟨#[46]⟩ _).mono ?_
    rintro e w2 ⟨rfl, rfl⟩
    rw [show (⟨#[46]⟩ : ByteArray).data.toList = [46] from rfl, HR1.out, Q1.out, Q2.out]
    have hwhs : wh.size ≤ 100 := by rw [bytes_size HWH.out]; omega
    have hfrs : ((⟨#[]⟩ : ByteArray)).size ≤ 100 := by rw [bytes_size HFR.out]; omega
    have HAP : Hid ((wh ++ (⟨#[]⟩ : ByteArray)).data.toList = A ++ F) := by unfold Hid; rw [bytes_append_list, HWH.out, HFR.out]
    have HFS : Hid ((((⟨#[]⟩ : ByteArray)).size : Int) = (F.length : Int)) := by unfold Hid; rw [bytes_size HFR.out]
    have hr3s : (r1).size ≤ 1000 := by rw [bytes_size HR3.out]; omega
    by_cases e0 : A ++ F = []
    · have he : (wh ++ (⟨#[]⟩ : ByteArray)).toList.isEmpty = true := bytes_nil (HAP.out.trans e0)
      go_wp2_with fail
      refine bodyPost_ret (v := .tuple #[.agg #[.string ⟨#[]⟩, .int .i64 0], .bool false]) (by simp [results, Tryd.results41, go_sem]) rfl ⟨⟨#[]⟩, 0, false, rfl, ?_, ?_⟩
      · rw [HDEC2.out, if_pos e0]; rfl
      · exact ((below_drewN ((Below.refl _ _).alloc (Nat.le_refl _) _) _).setCell (Nat.le_refl _) _).setCell (Nat.le_refl _) _
    · have he : (wh ++ (⟨#[]⟩ : ByteArray)).toList.isEmpty = false := by rw [bytes_toList, HAP.out]; cases hh : A ++ F with | nil => exact absurd hh e0 | cons _ _ => rfl
      go_wp2_with fail
      refine (scanPower_any _ (r1) hr3s).mono ?_
      rintro e w4 ⟨rfl, n4, rfl⟩
      rw [HR3.out]
      cases hpw : powL RR with
      | none =>
        have hpv : powV RR = #[.int .i64 0, .bool false] := by unfold powV; rw [hpw]
        rw [hpv]
        clear hpv
        go_wp2_with fail
        refine (Tryd.strings_TrimLeft_one (wh ++ (⟨#[]⟩ : ByteArray)) 48 (by decide) _).mono ?_
        rintro e w5 ⟨rfl, rfl⟩
        go_wp2_with fail
        refine bodyPost_ret (v := .tuple #[.agg #[.string ⟨(Lib.trimLeftB (wh ++ (⟨#[]⟩ : ByteArray)).data.toList 48).toArray⟩, .int .i64 (-(((⟨#[]⟩ : ByteArray)).size : Int))], .bool false]) (by simp [results, Tryd.results41, go_sem]) rfl ⟨_, _, false, rfl, ?_, ?_⟩
        · rw [HDEC2.out, if_neg e0, hpw]; rfl
        · exact ((below_drewN ((Below.refl _ _).alloc (Nat.le_refl _) _) _).setCell (Nat.le_refl _) _).setCell (Nat.le_refl _) _
      | some q =>
        have hpv : powV RR = #[.int .i64 q, .bool true] := by unfold powV; rw [hpw]
        have hqb := powL_bd hpw
        rw [hpv]
        clear hpv
        go_wp2_with fail
        refine (Tryd.strings_TrimLeft_one (wh ++ (⟨#[]⟩ : ByteArray)) 48 (by decide) _).mono ?_
        rintro e w5 ⟨rfl, rfl⟩
        go_wp2_with fail
        refine bodyPost_ret (v := .tuple #[.agg #[.string ⟨(Lib.trimLeftB (wh ++ (⟨#[]⟩ : ByteArray)).data.toList 48).toArray⟩, .int .i64 (q - (((⟨#[]⟩ : ByteArray)).size : Int))], .bool true]) (by simp [results, Tryd.results41, go_sem]) rfl ⟨_, _, true, rfl, ?_, ?_⟩
        · rw [HDEC2.out, if_neg e0, hpw]
          refine ⟨rfl, ?_, ?_⟩
          · simp only [Lib.trimLeftB]; rw [HAP.out]
          · rw [HFS.out]
        · exact ((below_drewN ((Below.refl _ _).alloc (Nat.le_refl _) _) _).setCell (Nat.le_refl _) _).setCell (Nat.le_refl _) _

end Go.Proofs.YthdcceackfdbbaaDoor
