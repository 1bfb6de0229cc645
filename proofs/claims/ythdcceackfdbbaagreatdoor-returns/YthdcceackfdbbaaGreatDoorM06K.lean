import Derived.Test.YthdcceackfdbbaaGreatDoorM05K

/- Walks: cutSign, scanPower. Own text. -/
namespace Go.Proofs.YthdcceackfdbbaaGreatDoor
open Go.RowKit

theorem bytes_ne {s : ByteArray} {c : UInt8} {r : List UInt8} (h : s.data.toList = c :: r) : s.toList.isEmpty = false := by rw [bytes_toList, h]; rfl
theorem bytes_nil {s : ByteArray} (h : s.data.toList = []) : s.toList.isEmpty = true := by rw [bytes_toList, h]; rfl
theorem bytes_size {s : ByteArray} {l : List UInt8} (h : s.data.toList = l) : s.size = l.length := by subst h; simp
theorem bytes_head {s : ByteArray} {c : UInt8} {r : List UInt8} (h : s.data.toList = c :: r) (hp : 0 < s.size) : s[0] = c := by
  have := take_get hp
  rw [h] at this
  simpa using this.symm
theorem drop_one {s : ByteArray} {c : UInt8} {r : List UInt8} (h : s.data.toList = c :: r) : (s.extract 1 s.size).data.toList = r := by rw [extract_drop, h]; rfl

set_option maxRecDepth 5000 in
set_option maxHeartbeats 400000 in
theorem cutSign_any (w : World) (s : ByteArray) (hs : s.size ≤ 1000) :
    Calls Tryz.prog 119 #[.string s] w fun e w' => ∃ r : ByteArray, e = .returned (.tuple #[.bool (signL s.data.toList).1, .string r]) ∧ r.data.toList = (signL s.data.toList).2 ∧ ∃ n, w' = w.drewN n := by
  cases hl : s.data.toList with
  | nil =>
    have he := bytes_nil hl
    have HL : Hid (s.data.toList = []) := hl
    clear hl
    go_enter Tryz.func119, Tryz.ntmps119
    go_wp2
    go_ret2
    exact ⟨s, rfl, HL.out, 0, rfl⟩
  | cons c r =>
    have he := bytes_ne hl
    have hsz := bytes_size hl
    have hp : 0 < s.size := by simp at hsz; omega
    have hh := bytes_head hl hp
    have HH : Hid (s[0] = c) := hh
    have HD : Hid ((s.extract 1 s.size).data.toList = r) := drop_one hl
    have HL : Hid (s.data.toList = c :: r) := hl
    clear hl hsz hh
    by_cases c1 : c = 43
    · have b1 : ((s[0].toNat : Int) != 43) = false := by rw [HH.out, c1]; rfl
      have b2 : ((s[0].toNat : Int) == 45) = false := by rw [HH.out, c1]; rfl
      go_enter Tryz.func119, Tryz.ntmps119
      go_wp2
      go_quiet (fail)
      go_wp2
      go_ret2
      exact ⟨s.extract 1 s.size, by simp [signL, c1], by rw [HD.out]; simp [signL, c1], _, rfl⟩
    · by_cases c2 : c = 45
      · have b1 : ((s[0].toNat : Int) != 43) = true := by rw [HH.out, c2]; rfl
        have b2 : ((s[0].toNat : Int) != 45) = false := by rw [HH.out, c2]; rfl
        have b3 : ((s[0].toNat : Int) == 45) = true := by rw [HH.out, c2]; rfl
        go_enter Tryz.func119, Tryz.ntmps119
        go_wp2
        go_quiet (fail)
        go_wp2
        go_ret2
        exact ⟨s.extract 1 s.size, by simp [signL, c2], by rw [HD.out]; simp [signL, c2], _, rfl⟩
      · have b1 : ((s[0].toNat : Int) != 43) = true := by
          rw [HH.out]; simp; intro h; exact c1 (UInt8.toNat_inj.1 (by rw [show (43 : UInt8).toNat = 43 from rfl]; omega))
        have b2 : ((s[0].toNat : Int) != 45) = true := by
          rw [HH.out]; simp; intro h; exact c2 (UInt8.toNat_inj.1 (by rw [show (45 : UInt8).toNat = 45 from rfl]; omega))
        go_enter Tryz.func119, Tryz.ntmps119
        go_wp2
        go_ret2
        exact ⟨s, by simp [signL, c1, c2], by rw [HL.out]; simp [signL, c1, c2], 0, rfl⟩

theorem digs_takeWhile (l : List UInt8) : Digs (l.takeWhile isDig) := fun x hx => by
  have := List.all_takeWhile (p := isDig) (l := l)
  exact List.all_eq_true.1 this x hx

theorem signL_len (l : List UInt8) : (signL l).2.length ≤ l.length := by
  cases l with
  | nil => simp [signL]
  | cons c r => simp only [signL]; split <;> (try split) <;> simp

theorem takeWhile_len (l : List UInt8) : (l.takeWhile isDig).length ≤ l.length := (List.takeWhile_sublist isDig).length_le
theorem dropWhile_len (l : List UInt8) : (l.dropWhile isDig).length ≤ l.length := (List.dropWhile_sublist isDig).length_le

/-- What scanPower answers. -/
def powV (l : List UInt8) : Array Value := match powL l with
  | some p => #[.int .i64 p, .bool true]
  | none => #[.int .i64 0, .bool false]

set_option maxRecDepth 5000 in
set_option maxHeartbeats 800000 in
theorem scanPower_any (w : World) (s : ByteArray) (hs : s.size ≤ 1000) :
    Calls Tryz.prog 155 #[.string s] w fun e w' => e = .returned (.tuple (powV s.data.toList)) ∧ ∃ n, w' = w.drewN n := by
  cases hl : s.data.toList with
  | nil =>
    have he := bytes_nil hl
    clear hl
    go_enter Tryz.func155, Tryz.ntmps155
    go_wp2
    go_ret2
    exact ⟨rfl, 0, rfl⟩
  | cons c r =>
    have he := bytes_ne hl
    have hsz := bytes_size hl
    have hp : 0 < s.size := by simp at hsz; omega
    have hh := bytes_head hl hp
    have HH : Hid (s[0] = c) := hh
    have HD : Hid ((s.extract 1 s.size).data.toList = r) := drop_one hl
    have HSZ : Hid (s.size = r.length + 1) := by unfold Hid; simpa using hsz
    clear hl hsz hh
    by_cases cc : c = 101 ∨ c = 69
    · have key : (((s[0].toNat : Int) != 101) = false) ∨ (((s[0].toNat : Int) != 101) = true ∧ ((s[0].toNat : Int) != 69) = false) := by
        rw [HH.out]; rcases cc with h | h
        · left; rw [h]; rfl
        · right; rw [h]; exact ⟨rfl, rfl⟩
      have CC : Hid (c = 101 ∨ c = 69) := cc
      clear cc
      have HPW : Hid (powV (c :: r) = match (if (signL r).2.takeWhile isDig = [] ∨ (signL r).2.dropWhile isDig ≠ [] then none
       else some (if (signL r).1 then -(smallW ((signL r).2.takeWhile isDig) : Int) else (smallW ((signL r).2.takeWhile isDig) : Int))) with
          | some p => #[.int .i64 p, .bool true]
          | none => #[.int .i64 0, .bool false]) := by unfold Hid powV; simp only [powL]; rw [if_pos CC.out]
      have hsl := signL_len r
      rcases key with b1 | ⟨b1, b2⟩
      all_goals
        go_enter Tryz.func155, Tryz.ntmps155
        go_wp2_with fail
        refine (cutSign_any _ (s.extract 1 s.size) (by rw [bytes_size HD.out]; have := HSZ.out; omega)).mono ?_
        rintro e w1 ⟨r1, rfl, hr1, n1, rfl⟩
        rw [HD.out] at hr1 ⊢
        generalize signL r = sg at *
        obtain ⟨m, sr⟩ := sg
        have HR1 : Hid (r1.data.toList = sr) := hr1
        clear hr1
        go_wp2_with fail
        refine (cutDigits_any _ r1 (by rw [bytes_size HR1.out]; have := HSZ.out; omega)).mono ?_
        rintro e w2 ⟨d, r2, rfl, hd, hr2, n2, rfl⟩
        rw [HR1.out] at hd hr2
        have hdl := takeWhile_len sr
        have hdg := digs_takeWhile sr
        generalize hds : sr.takeWhile isDig = ds at *
        generalize hrs : sr.dropWhile isDig = rs at *
        have HDD : Hid (d.data.toList = ds) := hd
        have HR2 : Hid (r2.data.toList = rs) := hr2
        clear hds hrs hd hr2
        by_cases e1 : ds = []
        · have he1 := bytes_nil (HDD.out.trans e1)
          go_wp2
          go_ret2
          refine ⟨?_, _, by first | rfl | rw [World.drewN_drewN]⟩
          rw [HPW.out, if_pos (.inl e1)]
          rfl
        · have he1 : d.toList.isEmpty = false := by rw [bytes_toList, HDD.out]; cases ds with | nil => exact absurd rfl e1 | cons _ _ => rfl
          by_cases e2 : rs = []
          · have he2 := bytes_nil (HR2.out.trans e2)
            have hdg2 : Digs d.data.toList := by rw [HDD.out]; exact hdg
            have hsw := smallW_le hdg
            have HPV := HPW.out
            rw [if_neg (by rintro (h | h); exact e1 h; exact h e2)] at HPV
            have HPV2 : Hid (powV (c :: r) = #[.int .i64 (if m = true then -(smallW ds : Int) else (smallW ds : Int)), .bool true]) := HPV
            clear HPV HPW e1 e2
            go_wp2_with fail
            refine (smallWhole_any _ d hdg2 (by rw [bytes_size HDD.out]; have := HSZ.out; omega)).mono ?_
            rintro e w3 ⟨rfl, rfl⟩
            rw [HDD.out]
            generalize smallW ds = sw at *
            cases m with
            | true =>
              go_wp2
              go_ret2
              exact ⟨by rw [HPV2.out]; rfl, _, by first | rfl | rw [World.drewN_drewN]⟩
            | false =>
              go_wp2
              go_ret2
              exact ⟨by rw [HPV2.out]; rfl, _, by first | rfl | rw [World.drewN_drewN]⟩
          · have he2 : r2.toList.isEmpty = false := by rw [bytes_toList, HR2.out]; cases rs with | nil => exact absurd rfl e2 | cons _ _ => rfl
            go_wp2
            go_ret2
            refine ⟨?_, _, by first | rfl | rw [World.drewN_drewN]⟩
            rw [HPW.out, if_pos (.inr e2)]
            rfl
    · have hne : c.toNat ≠ 101 ∧ c.toNat ≠ 69 := ⟨fun h => cc (.inl (UInt8.toNat_inj.1 h)), fun h => cc (.inr (UInt8.toNat_inj.1 h))⟩
      have b1 : ((s[0].toNat : Int) != 101) = true := by rw [HH.out]; simp; omega
      have b2 : ((s[0].toNat : Int) != 69) = true := by rw [HH.out]; simp; omega
      have HPW : Hid (powV (c :: r) = #[.int .i64 0, .bool false]) := by unfold Hid powV; simp only [powL]; rw [if_neg cc]
      clear cc hne
      go_enter Tryz.func155, Tryz.ntmps155
      go_wp2
      go_ret2
      exact ⟨by rw [HPW.out]; rfl, 0, rfl⟩

end Go.Proofs.YthdcceackfdbbaaGreatDoor
/- Walks: scanDecimal. Own text. -/
namespace Go.Proofs.YthdcceackfdbbaaGreatDoor
open Go.RowKit

theorem cutPoint_yes {l r : List UInt8} (h : l = 46 :: r) : Lib.hasPrefix l [46] = true ∧ Lib.trimPrefix l [46] = r := by
  subst h; simp [Lib.hasPrefix, Lib.trimPrefix]
theorem cutPoint_no {l : List UInt8} (h : ∀ r, l ≠ 46 :: r) : Lib.hasPrefix l [46] = false ∧ Lib.trimPrefix l [46] = l ∧ fracL l = ([], l) := by
  cases l with
  | nil => simp [Lib.hasPrefix, Lib.trimPrefix, fracL]
  | cons c r =>
    have : c ≠ 46 := fun e => h r (by rw [e])
    have h2 : [46].isPrefixOf (c :: r) = false := by
      simp only [List.isPrefixOf, Bool.and_true, beq_eq_false_iff_ne]
      exact fun e => this e.symm
    refine ⟨h2, ?_, ?_⟩
    · unfold Lib.trimPrefix Lib.hasPrefix; rw [h2]; rfl
    · simp [fracL, this]

/-- What scanDecimal answers. -/
def DecOk (o : Option (List UInt8 × Int)) (d : ByteArray) (p : Int) (ok : Bool) : Prop := match o with
  | some (ds, q) => ok = true ∧ d.data.toList = ds ∧ p = q
  | none => ok = false

theorem bytes_append_list (a b : ByteArray) : (a ++ b).data.toList = a.data.toList ++ b.data.toList := by simp

theorem powL_bd {l : List UInt8} {q : Int} (h : powL l = some q) : -10000 ≤ q ∧ q ≤ 10000 := by
  cases l with
  | nil => simp [powL] at h; omega
  | cons c r =>
    simp only [powL] at h
    split at h
    · split at h
      · cases h
      · have := smallW_le (digs_takeWhile (signL r).2)
        simp only [Option.some.injEq] at h
        subst h
        split <;> omega
    · cases h

set_option maxRecDepth 5000 in
set_option maxHeartbeats 1600000 in
theorem scanDecimal_any (w : World) (s : ByteArray) (hs : s.size ≤ 100) :
    Calls Tryz.prog 120 #[.string s] w fun e w' => ∃ (d : ByteArray) (p : Int) (ok : Bool), e = .returned (.tuple #[.agg #[.string d, .int .i64 p], .bool ok]) ∧
      DecOk (decL s.data.toList) d p ok ∧ Below w.heap.size w w' := by
  have hsz : s.data.toList.length = s.size := by simp
  have hl1 := takeWhile_len s.data.toList
  have hl2 := dropWhile_len s.data.toList
  generalize hA : s.data.toList.takeWhile isDig = A at *
  generalize hR : s.data.toList.dropWhile isDig = R at *
  have HDEC : Hid (decL s.data.toList = if A ++ (fracL R).1 = [] then none else (powL (fracL R).2).map fun p : Int => ((A ++ (fracL R).1).dropWhile (· == 48), p - (fracL R).1.length)) := by
    unfold Hid decL; rw [hA, hR]
  have HA : Hid (s.data.toList.takeWhile isDig = A) := hA
  have HR : Hid (s.data.toList.dropWhile isDig = R) := hR
  generalize hDL : decL s.data.toList = DL at *
  have hAl : A.length ≤ 100 := by omega
  have hRl : R.length ≤ 100 := by omega
  clear hA hR hsz hl1 hl2 hDL
  by_cases hpt : ∃ r, R = 46 :: r
  · obtain ⟨r, hr⟩ := hpt
    obtain ⟨q1, q2⟩ := cutPoint_yes hr
    have hrl : r.length ≤ 100 := by rw [hr] at hRl; simp at hRl; omega
    have hF : fracL R = (r.takeWhile isDig, r.dropWhile isDig) := by rw [hr]; simp [fracL]
    have Q1 : Hid (Lib.hasPrefix R [46] = true) := q1
    have Q2 : Hid (Lib.trimPrefix R [46] = r) := q2
    have hFl := takeWhile_len r
    have hRRl := dropWhile_len r
    have hd2 := HDEC.out
    rw [hF] at hd2
    simp only at hd2
    generalize hFe : r.takeWhile isDig = F at *
    generalize hRRe : r.dropWhile isDig = RR at *
    have HFE : Hid (r.takeWhile isDig = F) := hFe
    have HRRE : Hid (r.dropWhile isDig = RR) := hRRe
    have HDEC2 : Hid (DL = if A ++ F = [] then none else (powL RR).map fun p : Int => ((A ++ F).dropWhile (· == 48), p - F.length)) := hd2
    clear hr q1 q2 hF hd2 hFe hRRe HDEC
    go_enter Tryz.func120, Tryz.ntmps120
    go_wp2_with fail
    refine (cutDigits_any _ s (by omega)).mono ?_
    rintro e w1 ⟨wh, r1, rfl, hwh, hr1, n1, rfl⟩
    rw [HA.out] at hwh
    rw [HR.out] at hr1
    have HWH : Hid (wh.data.toList = A) := hwh
    have HR1 : Hid (r1.data.toList = R) := hr1
    clear hwh hr1
    go_wp2_with fail
    refine (Tryz.strings_CutPrefix r1 ⟨#[46]⟩ _).mono ?_
    rintro e w2 ⟨rfl, rfl⟩
    rw [show (⟨#[46]⟩ : ByteArray).data.toList = [46] from rfl, HR1.out, Q1.out, Q2.out]
    go_wp2_with fail
    refine (cutDigits_any _ ⟨r.toArray⟩ (by rw [bytes_size (l := r) rfl]; omega)).mono ?_
    rintro e w3 ⟨fr, r3, rfl, hfr, hr3, n3, rfl⟩
    have HFR : Hid (fr.data.toList = F) := hfr.trans HFE.out
    have HR3 : Hid (r3.data.toList = RR) := hr3.trans HRRE.out
    clear hfr hr3
    have hwhs : wh.size ≤ 100 := by rw [bytes_size HWH.out]; omega
    have hfrs : (fr).size ≤ 100 := by rw [bytes_size HFR.out]; omega
    have HAP : Hid ((wh ++ fr).data.toList = A ++ F) := by unfold Hid; rw [bytes_append_list, HWH.out, HFR.out]
    have HFS : Hid (((fr).size : Int) = (F.length : Int)) := by unfold Hid; rw [bytes_size HFR.out]
    have hr3s : (r3).size ≤ 1000 := by rw [bytes_size HR3.out]; omega
    by_cases e0 : A ++ F = []
    · have he : (wh ++ fr).toList.isEmpty = true := bytes_nil (HAP.out.trans e0)
      go_wp2_with fail
      refine bodyPost_ret (v := .tuple #[.agg #[.string ⟨#[]⟩, .int .i64 0], .bool false]) (by simp [results, Tryz.results120, go_sem]) rfl ⟨⟨#[]⟩, 0, false, rfl, ?_, ?_⟩
      · rw [HDEC2.out, if_pos e0]; rfl
      · exact ((below_drewN ((Below.refl _ _).alloc (Nat.le_refl _) _) _).setCell (Nat.le_refl _) _).setCell (Nat.le_refl _) _
    · have he : (wh ++ fr).toList.isEmpty = false := by rw [bytes_toList, HAP.out]; cases hh : A ++ F with | nil => exact absurd hh e0 | cons _ _ => rfl
      go_wp2_with fail
      refine (scanPower_any _ (r3) hr3s).mono ?_
      rintro e w4 ⟨rfl, n4, rfl⟩
      rw [HR3.out]
      cases hpw : powL RR with
      | none =>
        have hpv : powV RR = #[.int .i64 0, .bool false] := by unfold powV; rw [hpw]
        rw [hpv]
        clear hpv
        go_wp2_with fail
        refine (Tryz.strings_TrimLeft_one (wh ++ fr) 48 (by decide) _).mono ?_
        rintro e w5 ⟨rfl, rfl⟩
        go_wp2_with fail
        refine bodyPost_ret (v := .tuple #[.agg #[.string ⟨(Lib.trimLeftB (wh ++ fr).data.toList 48).toArray⟩, .int .i64 (-((fr).size : Int))], .bool false]) (by simp [results, Tryz.results120, go_sem]) rfl ⟨_, _, false, rfl, ?_, ?_⟩
        · rw [HDEC2.out, if_neg e0, hpw]; rfl
        · exact ((below_drewN ((Below.refl _ _).alloc (Nat.le_refl _) _) _).setCell (Nat.le_refl _) _).setCell (Nat.le_refl _) _
      | some q =>
        have hpv : powV RR = #[.int .i64 q, .bool true] := by unfold powV; rw [hpw]
        have hqb := powL_bd hpw
        rw [hpv]
        clear hpv
        go_wp2_with fail
        refine (Tryz.strings_TrimLeft_one (wh ++ fr) 48 (by decide) _).mono ?_
        rintro e w5 ⟨rfl, rfl⟩
        go_wp2_with fail
        refine bodyPost_ret (v := .tuple #[.agg #[.string ⟨(Lib.trimLeftB (wh ++ fr).data.toList 48).toArray⟩, .int .i64 (q - ((fr).size : Int))], .bool true]) (by simp [results, Tryz.results120, go_sem]) rfl ⟨_, _, true, rfl, ?_, ?_⟩
        · rw [HDEC2.out, if_neg e0, hpw]
          refine ⟨rfl, ?_, ?_⟩
          · simp only [Lib.trimLeftB]; rw [HAP.out]
          · rw [HFS.out]
        · exact ((below_drewN ((Below.refl _ _).alloc (Nat.le_refl _) _) _).setCell (Nat.le_refl _) _).setCell (Nat.le_refl _) _
  · obtain ⟨q1, q2, q3⟩ := cutPoint_no (fun r hr => hpt ⟨r, hr⟩)
    have Q1 : Hid (Lib.hasPrefix R [46] = false) := q1
    have Q2 : Hid (Lib.trimPrefix R [46] = R) := q2
    have hd2 := HDEC.out
    rw [q3] at hd2
    simp only at hd2
    obtain ⟨F, hF⟩ : ∃ F : List UInt8, F = [] := ⟨_, rfl⟩
    obtain ⟨RR, hRR⟩ : ∃ RR : List UInt8, RR = R := ⟨_, rfl⟩
    have HDEC2 : Hid (DL = if A ++ F = [] then none else (powL RR).map fun p : Int => ((A ++ F).dropWhile (· == 48), p - F.length)) := by
      unfold Hid; rw [hF, hRR]; exact hd2
    have hFl : F.length ≤ 100 := by rw [hF]; simp
    have hRRl : RR.length ≤ 100 := by rw [hRR]; exact hRl
    have HFR : Hid ((⟨#[]⟩ : ByteArray).data.toList = F) := by unfold Hid; rw [hF]
    have HRR : Hid (RR = R) := hRR
    clear q1 q2 q3 hd2 HDEC hF hRR hpt
    go_enter Tryz.func120, Tryz.ntmps120
    go_wp2_with fail
    refine (cutDigits_any _ s (by omega)).mono ?_
    rintro e w1 ⟨wh, r1, rfl, hwh, hr1, n1, rfl⟩
    rw [HA.out] at hwh
    rw [HR.out] at hr1
    have HWH : Hid (wh.data.toList = A) := hwh
    have HR1 : Hid (r1.data.toList = R) := hr1
    have HR3 : Hid (r1.data.toList = RR) := by unfold Hid; rw [hr1, HRR.out]
    clear hwh hr1
    go_wp2_with fail
    refine (Tryz.strings_CutPrefix r1 ⟨#[46]⟩ _).mono ?_
    rintro e w2 ⟨rfl, rfl⟩
    rw [show (⟨#[46]⟩ : ByteArray).data.toList = [46] from rfl, HR1.out, Q1.out, Q2.out]
    have hwhs : wh.size ≤ 100 := by rw [bytes_size HWH.out]; omega
    have hfrs : ((⟨#[]⟩ : ByteArray)).size ≤ 100 := by rw [bytes_size HFR.out]; omega
    have HAP : Hid ((wh ++ (⟨#[]⟩ : ByteArray)).data.toList = A ++ F) := by unfold Hid; rw [bytes_append_list, HWH.out, HFR.out]
    have HFS : Hid ((((⟨#[]⟩ : ByteArray)).size : Int) = (F.length : Int)) := by unfold Hid; rw [bytes_size HFR.out]
    have hr3s : (r1).size ≤ 1000 := by rw [bytes_size HR3.out]; omega
    by_cases e0 : A ++ F = []
    · have he : (wh ++ (⟨#[]⟩ : ByteArray)).toList.isEmpty = true := bytes_nil (HAP.out.trans e0)
      go_wp2_with fail
      refine bodyPost_ret (v := .tuple #[.agg #[.string ⟨#[]⟩, .int .i64 0], .bool false]) (by simp [results, Tryz.results120, go_sem]) rfl ⟨⟨#[]⟩, 0, false, rfl, ?_, ?_⟩
      · rw [HDEC2.out, if_pos e0]; rfl
      · exact ((below_drewN ((Below.refl _ _).alloc (Nat.le_refl _) _) _).setCell (Nat.le_refl _) _).setCell (Nat.le_refl _) _
    · have he : (wh ++ (⟨#[]⟩ : ByteArray)).toList.isEmpty = false := by rw [bytes_toList, HAP.out]; cases hh : A ++ F with | nil => exact absurd hh e0 | cons _ _ => rfl
      go_wp2_with fail
      refine (scanPower_any _ (r1) hr3s).mono ?_
      rintro e w4 ⟨rfl, n4, rfl⟩
      rw [HR3.out]
      cases hpw : powL RR with
      | none =>
        have hpv : powV RR = #[.int .i64 0, .bool false] := by unfold powV; rw [hpw]
        rw [hpv]
        clear hpv
        go_wp2_with fail
        refine (Tryz.strings_TrimLeft_one (wh ++ (⟨#[]⟩ : ByteArray)) 48 (by decide) _).mono ?_
        rintro e w5 ⟨rfl, rfl⟩
        go_wp2_with fail
        refine bodyPost_ret (v := .tuple #[.agg #[.string ⟨(Lib.trimLeftB (wh ++ (⟨#[]⟩ : ByteArray)).data.toList 48).toArray⟩, .int .i64 (-(((⟨#[]⟩ : ByteArray)).size : Int))], .bool false]) (by simp [results, Tryz.results120, go_sem]) rfl ⟨_, _, false, rfl, ?_, ?_⟩
        · rw [HDEC2.out, if_neg e0, hpw]; rfl
        · exact ((below_drewN ((Below.refl _ _).alloc (Nat.le_refl _) _) _).setCell (Nat.le_refl _) _).setCell (Nat.le_refl _) _
      | some q =>
        have hpv : powV RR = #[.int .i64 q, .bool true] := by unfold powV; rw [hpw]
        have hqb := powL_bd hpw
        rw [hpv]
        clear hpv
        go_wp2_with fail
        refine (Tryz.strings_TrimLeft_one (wh ++ (⟨#[]⟩ : ByteArray)) 48 (by decide) _).mono ?_
        rintro e w5 ⟨rfl, rfl⟩
        go_wp2_with fail
        refine bodyPost_ret (v := .tuple #[.agg #[.string ⟨(Lib.trimLeftB (wh ++ (⟨#[]⟩ : ByteArray)).data.toList 48).toArray⟩, .int .i64 (q - (((⟨#[]⟩ : ByteArray)).size : Int))], .bool true]) (by simp [results, Tryz.results120, go_sem]) rfl ⟨_, _, true, rfl, ?_, ?_⟩
        · rw [HDEC2.out, if_neg e0, hpw]
          refine ⟨rfl, ?_, ?_⟩
          · simp only [Lib.trimLeftB]; rw [HAP.out]
          · rw [HFS.out]
        · exact ((below_drewN ((Below.refl _ _).alloc (Nat.le_refl _) _) _).setCell (Nat.le_refl _) _).setCell (Nat.le_refl _) _

end Go.Proofs.YthdcceackfdbbaaGreatDoor
/- Plain mathematics: no size is above infinity. Own text. -/
namespace Go.Proofs.YthdcceackfdbbaaGreatDoor

theorem rhe_le {n d m : Nat} (h : n < d * m) : rhe n d ≤ m := by
  have h1 : n / d < m := Nat.div_lt_of_lt_mul h
  unfold rhe
  split <;> omega

theorem rat_le {a b i j s : Nat} {e : Int} (h2 : a * 2 ^ i < 2 * (b * 2 ^ j)) (he : e = (j : Int) + 1 - i - s) : rat a b e ≤ 2 ^ s := by
  rw [← rat_of (a := a) (b := b) (i := i) (j := j) (s := s) he]
  exact rhe_le ((Nat.mul_lt_mul_right (Nat.pow_pos (by omega))).2 h2)

theorem rnd_le (a b : Nat) (ha : a ≠ 0) (hb : b ≠ 0) : rnd a b ≤ 9218868437227405312 := by
  obtain ⟨i, j, e, h1, h2⟩ := plog_key ha hb
  by_cases c1 : 1023 < plog a b
  · unfold rnd; rw [if_pos c1]; omega
  · by_cases c2 : plog a b < -1075
    · rw [rnd_low ha hb h1 h2 (by omega)]; omega
    · unfold rnd; rw [if_neg c1]
      unfold eOf
      by_cases c3 : plog a b < -1022
      · rw [if_pos c3]
        have h3 := rat_le (e := -1074) (s := (plog a b + 1075).toNat) h2 (by omega)
        have h4 : 2 ^ (plog a b + 1075).toNat ≤ 2 ^ 53 := Nat.pow_le_pow_right (by omega) (by omega)
        have h5 : ((-1074 : Int) + 1074).toNat = 0 := rfl
        rw [h5]
        omega
      · rw [if_neg c3]
        have h3 := rat_le (e := plog a b - 52) (s := 53) h2 (by omega)
        have h4 : (plog a b - 52 + 1074).toNat ≤ 2045 := by omega
        omega

theorem decRnd_le (D : Nat) (k : Int) : decRnd D k ≤ 9218868437227405312 := by
  unfold decRnd
  split
  · omega
  · rename_i h
    split
    · exact rnd_le _ _ (Nat.ne_of_gt (Nat.mul_pos (by omega) (ten_pow_pos _))) (by omega)
    · exact rnd_le _ _ h (Nat.ne_of_gt (ten_pow_pos _))

theorem drop_zero (l : List UInt8) : ∀ c r, l.dropWhile (· == 48) = c :: r → c.toNat ≠ 48 := by
  intro c r h
  have := List.head?_dropWhile_not (p := (· == (48 : UInt8))) l
  rw [h] at this
  simp at this
  intro e
  exact this (UInt8.toNat_inj.1 e)

theorem digs_append {a b : List UInt8} (ha : Digs a) (hb : Digs b) : Digs (a ++ b) := by
  intro x hx
  rcases List.mem_append.1 hx with h | h
  · exact ha x h
  · exact hb x h

theorem digs_drop {l : List UInt8} (h : Digs l) (p : UInt8 → Bool) : Digs (l.dropWhile p) := fun x hx => h x ((List.dropWhile_sublist p).subset hx)

end Go.Proofs.YthdcceackfdbbaaGreatDoor
/- Walks: Scan. Own text. -/
namespace Go.Proofs.YthdcceackfdbbaaGreatDoor
open Go.RowKit

theorem fracL_digs (l : List UInt8) : Digs (fracL l).1 := by
  cases l with
  | nil => intro x hx; simp [fracL] at hx
  | cons c r =>
    simp only [fracL]
    split
    · exact digs_takeWhile r
    · intro x hx; simp at hx

theorem fracL_len (l : List UInt8) : (fracL l).1.length ≤ l.length := by
  cases l with
  | nil => simp [fracL]
  | cons c r =>
    simp only [fracL]
    split
    · have := takeWhile_len r; simp; omega
    · simp

theorem span_len (l : List UInt8) : (l.takeWhile isDig).length + (l.dropWhile isDig).length = l.length := by
  rw [← List.length_append, List.takeWhile_append_dropWhile]

theorem decL_facts {l ds : List UInt8} {q : Int} (h : decL l = some (ds, q)) : Digs ds ∧ ds.length ≤ l.length ∧ (∀ c r, ds = c :: r → c.toNat ≠ 48) ∧ -10000 - (l.length : Int) ≤ q ∧ q ≤ 10000 := by
  unfold decL at h
  split at h
  · cases h
  · cases hp : powL (fracL (l.dropWhile isDig)).2 with
    | none => rw [hp] at h; cases h
    | some p =>
      rw [hp] at h
      simp only [Option.map_some, Option.some.injEq, Prod.mk.injEq] at h
      obtain ⟨h1, h2⟩ := h
      have b := powL_bd hp
      have l1 := fracL_len (l.dropWhile isDig)
      have l2 := span_len l
      refine ⟨?_, ?_, ?_, by omega, by omega⟩
      · rw [← h1]; exact digs_drop (digs_append (digs_takeWhile l) (fracL_digs _)) _
      · rw [← h1]
        have := (List.dropWhile_sublist (· == (48 : UInt8)) (l := l.takeWhile isDig ++ (fracL (l.dropWhile isDig)).1)).length_le
        rw [List.length_append] at this
        omega
      · rw [← h1]; exact drop_zero _

theorem list_eq_beq {s : ByteArray} {l : List UInt8} (h : s.data.toList = l) : (s.toList == l) = true := by rw [bytes_toList, h]; simp
theorem list_ne_beq {s : ByteArray} {l : List UInt8} (h : s.data.toList ≠ l) : (s.toList == l) = false := by rw [bytes_toList]; simpa using h

theorem or_sign {n : Nat} (h : n ≤ 9218868437227405312) : bits BinOp.or IntKind.u64 (n : Int) 9223372036854775808 = ((n + 9223372036854775808 : Nat) : Int) := by
  rw [show (9223372036854775808 : Int) = ((9223372036854775808 : Nat) : Int) from rfl, u64_or_nat _ _ (by omega) (by omega), Nat.or_comm, nat_join 63 _ _ (by decide) (by omega), Nat.add_comm]

theorem ret2 {a a' b b' : Int} (h1 : a = a') (h2 : b = b') : Ending.returned (.tuple #[.int .u64 a, .int .i64 b]) = .returned (.tuple #[.int .u64 a', .int .i64 b']) := by rw [h1, h2]

set_option maxRecDepth 5000 in
set_option maxHeartbeats 1600000 in
theorem nscan_any (w : World) (s : ByteArray) (hs : s.size ≤ maxLen) :
    Calls Tryz.prog 87 #[.string s] w fun e w' => e = .returned (.tuple #[.int .u64 ((scanL s.data.toList).1 : Int), .int .i64 ((scanL s.data.toList).2 : Int)]) ∧ Below w.heap.size w w' := by
  unfold maxLen at hs
  have hsz : s.data.toList.length = s.size := by simp
  have HSZ : Hid (s.data.toList.length = s.size) := hsz
  clear hsz
  by_cases c0 : 60 < s.size
  · have HF : Hid (scanL s.data.toList = (0, 1)) := by unfold Hid scanL; rw [if_pos (by rw [HSZ.out]; exact c0)]
    go_enter Tryz.func87, Tryz.ntmps87
    go_wp2
    go_ret2
    exact ⟨by rw [HF.out]; rfl, Below.refl _ _⟩
  · by_cases c1 : s.data.toList = [105, 110, 102]
    · have HF : Hid (scanL s.data.toList = (9218868437227405312, 0)) := by unfold Hid scanL; rw [if_neg (by rw [HSZ.out]; exact c0), if_pos (.inl c1)]
      have b1 := list_eq_beq c1
      clear c1
      go_enter Tryz.func87, Tryz.ntmps87
      go_wp2
      go_ret2
      exact ⟨by rw [HF.out]; rfl, Below.refl _ _⟩
    · have b1 := list_ne_beq c1
      by_cases c2 : s.data.toList = [43, 105, 110, 102]
      · have HF : Hid (scanL s.data.toList = (9218868437227405312, 0)) := by unfold Hid scanL; rw [if_neg (by rw [HSZ.out]; exact c0), if_pos (.inr c2)]
        have b2 := list_eq_beq c2
        clear c1 c2
        go_enter Tryz.func87, Tryz.ntmps87
        go_wp2
        go_ret2
        exact ⟨by rw [HF.out]; rfl, Below.refl _ _⟩
      · have b2 := list_ne_beq c2
        by_cases c3 : s.data.toList = [45, 105, 110, 102]
        · have HF : Hid (scanL s.data.toList = (18442240474082181120, 0)) := by unfold Hid scanL; rw [if_neg (by rw [HSZ.out]; exact c0), if_neg (by rintro (h | h); exact c1 h; exact c2 h), if_pos c3]
          have b3 := list_eq_beq c3
          clear c1 c2 c3
          go_enter Tryz.func87, Tryz.ntmps87
          go_wp2
          go_ret2
          exact ⟨by rw [HF.out]; rfl, Below.refl _ _⟩
        · have b3 := list_ne_beq c3
          by_cases c4 : s.data.toList = [110, 97, 110]
          · have HF : Hid (scanL s.data.toList = (9221120237041090560, 0)) := by unfold Hid scanL; rw [if_neg (by rw [HSZ.out]; exact c0), if_neg (by rintro (h | h); exact c1 h; exact c2 h), if_neg c3, if_pos c4]
            have b4 := list_eq_beq c4
            clear c1 c2 c3 c4
            go_enter Tryz.func87, Tryz.ntmps87
            go_wp2
            go_ret2
            exact ⟨by rw [HF.out]; rfl, Below.refl _ _⟩
          · have b4 := list_ne_beq c4
            obtain ⟨m, sr, hsg⟩ : ∃ m sr, signL s.data.toList = (m, sr) := ⟨_, _, rfl⟩
            have HF : Hid (scanL s.data.toList = finL (decL sr) m) := by
              unfold Hid scanL
              rw [if_neg (by rw [HSZ.out]; exact c0), if_neg (by rintro (h | h); exact c1 h; exact c2 h), if_neg c3, if_neg c4, hsg]
            have hsl := signL_len s.data.toList
            rw [HSZ.out, hsg] at hsl
            have HSG : Hid (signL s.data.toList = (m, sr)) := hsg
            simp only at hsl
            clear c1 c2 c3 c4 hsg
            go_enter Tryz.func87, Tryz.ntmps87
            go_wp2_with fail
            refine (cutSign_any _ s (by omega)).mono ?_
            rintro e w1 ⟨r, rfl, hr, n1, rfl⟩
            rw [HSG.out] at hr ⊢
            have HR : Hid (r.data.toList = sr) := hr
            clear hr
            have hrs : r.size ≤ 60 := by rw [bytes_size HR.out]; omega
            go_wp2_with fail
            refine (scanDecimal_any _ r (by omega)).mono ?_
            rintro e w2 ⟨d, p, ok, rfl, hdk, b2'⟩
            rw [HR.out] at hdk
            simp only [World.heap_drewN] at b2'
            have bb2 : Below w.heap.size w w2 := (below_drewN (Below.refl _ _) n1).trans b2'
            have hsz2 := bb2.size
            cases hdl : decL sr with
            | none =>
              rw [hdl] at hdk
              have hok : ok = false := hdk
              subst hok
              have HF2 : Hid (scanL s.data.toList = (0, 1)) := by unfold Hid; rw [HF.out, hdl]; rfl
              clear HF hdl hdk
              go_wp2
              go_ret2
              exact ⟨by rw [HF2.out]; rfl, bb2.alloc hsz2 _⟩
            | some dq =>
              obtain ⟨ds, q⟩ := dq
              rw [hdl] at hdk
              obtain ⟨hok, hds, hpq⟩ : ok = true ∧ d.data.toList = ds ∧ p = q := hdk
              subst hok
              subst hpq
              obtain ⟨f1, f2, f3, f4, f5⟩ := decL_facts hdl
              have hdg : Digs d.data.toList := by rw [hds]; exact f1
              have hz : ∀ c r, d.data.toList = c :: r → c.toNat ≠ 48 := by rw [hds]; exact f3
              have hdsz : d.size ≤ 60 := by rw [bytes_size hds]; omega
              have HF2 : Hid (scanL s.data.toList = (decRnd (dval d.data.toList) p + (if m then 9223372036854775808 else 0), 0)) := by unfold Hid; rw [HF.out, hdl, hds]; rfl
              have HZ : Hid (∀ c r, d.data.toList = c :: r → c.toNat ≠ 48) := hz
              have hle := decRnd_le (dval d.data.toList) p
              clear HF hdl f1 f2 f3 hds hz
              go_wp2_with fail
              refine (round_any _ d p hdg hdsz HZ.out (by omega) (by omega)).mono ?_
              rintro e w3 ⟨rfl, b3⟩
              have bb3 : Below w.heap.size w w3 := (bb2.alloc hsz2 _).trans (b3.mono (by simp; omega))
              generalize decRnd (dval d.data.toList) p = N at *
              cases m with
              | true =>
                go_wp2
                go_ret2
                refine ⟨?_, bb3⟩
                rw [HF2.out]
                exact ret2 (or_sign hle) rfl
              | false =>
                go_wp2
                go_ret2
                refine ⟨?_, bb3⟩
                rw [HF2.out]
                exact ret2 (by simp) rfl

set_option maxHeartbeats 400000 in
theorem scan_any (w : World) (s : ByteArray) (hs : s.size ≤ maxLen) :
    Calls Tryz.prog 56 #[.string s] w fun e w' => e = .returned (.tuple #[.int .u64 ((scanL s.data.toList).1 : Int), .int .i64 ((scanL s.data.toList).2 : Int)]) ∧ Below w.heap.size w w' := by
  go_enter Tryz.func56, Tryz.ntmps56
  go_wp2_with fail
  refine (nscan_any _ s hs).mono ?_
  rintro e w1 ⟨rfl, b1⟩
  go_wp2
  go_ret2
  exact ⟨rfl, b1⟩

end Go.Proofs.YthdcceackfdbbaaGreatDoor
