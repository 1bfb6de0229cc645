import Derived.Test.YthdcceackfdbbaaGreatDoorM04R
import Derived.Test.YthdcceackfdbbaaGreatDoorM02R
import Derived.Deep.QuietTactic
namespace Go.Proofs.YthdcceackfdbbaaGreatDoor
open Go.RowKit
theorem extract_take (s : ByteArray) (n : Nat) : (s.extract 0 n).data.toList = s.data.toList.take n := by
  rw [Lib.extract_data]; simp
theorem extract_drop (s : ByteArray) (n : Nat) : (s.extract n s.size).data.toList = s.data.toList.drop n := by
  rw [Lib.extract_data, List.take_of_length_le]
  simp
set_option maxHeartbeats 400000 in
theorem cutDigits_any (w : World) (s : ByteArray) (hs : s.size ≤ 1000) :
    Calls Tryz.prog 153 #[.string s] w fun e w' => ∃ d r : ByteArray, e = .returned (.tuple #[.string d, .string r]) ∧ d.data.toList = s.data.toList.takeWhile isDig ∧ r.data.toList = s.data.toList.dropWhile isDig ∧ ∃ n, w' = w.drewN n := by
  have hsz : s.data.toList.length = s.size := by simp
  have HSZ : Hid (s.data.toList.length = s.size) := hsz
  clear hsz
  go_enter Tryz.func153, Tryz.ntmps153
  go_wp2
  go_loop [4] (fun i => ∃ k : Nat, k ≤ s.size ∧ i = .int .i64 k ∧ ∀ x ∈ s.data.toList.take k, isDig x = true) (fun i => s.size - (intOf i).toNat)
  case atStart => exact ⟨0, Nat.zero_le _, rfl, by simp⟩
  case round =>
    obtain ⟨k, hk, rfl, hall⟩ := hrel
    have HALL : Hid (∀ x ∈ s.data.toList.take k, isDig x = true) := hall
    clear hall
    by_cases hlt : k < s.size
    · have hg := take_get hlt
      have HG : Hid (s.data.toList[k]? = some s[k]) := hg
      clear hg
      by_cases hdg : 48 ≤ s[k].toNat ∧ s[k].toNat ≤ 57
      · obtain ⟨h1, h2⟩ := hdg
        go_wp2
        go_round
        case rel =>
          refine ⟨k + 1, by omega, by go_num, ?_⟩
          intro x hx
          rw [take_snoc_get HG.out] at hx
          rcases List.mem_append.1 hx with h | h
          · exact HALL.out x h
          · simp at h; subst h; simp [isDig]; omega
        case measure => simp [intOf]; omega
      · have HD : Hid (¬ (48 ≤ s[k].toNat ∧ s[k].toNat ≤ 57)) := hdg
        have fin := takeWhile_at (p := isDig) (l := s.data.toList) (k := k) HALL.out (fun x hx => by
          rw [HG.out] at hx; cases hx; simp only [isDig]; have := HD.out; simp; omega)
        have HF : Hid (s.data.toList.takeWhile isDig = s.data.toList.take k ∧ s.data.toList.dropWhile isDig = s.data.toList.drop k) := fin
        clear fin hdg
        by_cases h1 : 48 ≤ s[k].toNat
        · have h2 : 57 < s[k].toNat := by have := HD.out; omega
          go_wp2
          go_quiet (fail)
          go_wp2
          go_ret2
          exact ⟨_, _, rfl, by rw [HF.out.1]; exact extract_take _ _, by rw [HF.out.2]; exact extract_drop _ _, _, rfl⟩
        · go_wp2
          go_quiet (fail)
          go_wp2
          go_ret2
          exact ⟨_, _, rfl, by rw [HF.out.1]; exact extract_take _ _, by rw [HF.out.2]; exact extract_drop _ _, _, rfl⟩
    · have fin := takeWhile_at (p := isDig) (l := s.data.toList) (k := k) HALL.out (fun x hx => by
          have := (List.getElem?_eq_some_iff.1 hx).1; have := HSZ.out; omega)
      have HF : Hid (s.data.toList.takeWhile isDig = s.data.toList.take k ∧ s.data.toList.dropWhile isDig = s.data.toList.drop k) := fin
      clear fin
      go_wp2
      go_quiet (fail)
      go_wp2
      go_ret2
      exact ⟨_, _, rfl, by rw [HF.out.1]; exact extract_take _ _, by rw [HF.out.2]; exact extract_drop _ _, _, rfl⟩
set_option maxRecDepth 5000 in
set_option maxHeartbeats 400000 in
theorem smallWhole_any (w : World) (s : ByteArray) (hd : Digs s.data.toList) (hs : s.size ≤ 1000) :
    Calls Tryz.prog 188 #[.string s] w fun e w' => e = .returned (.int .i64 ((smallW s.data.toList : Nat) : Int)) ∧ w' = w := by
  have hsz : s.data.toList.length = s.size := by simp
  have HSZ : Hid (s.data.toList.length = s.size) := hsz
  clear hsz
  go_enter Tryz.func188, Tryz.ntmps188
  go_wp2
  go_loop [3, 4] (fun v i => ∃ k : Nat, k ≤ s.size ∧ i = .int .i64 k ∧ v = .int .i64 ((smallW (s.data.toList.take k) : Nat) : Int)) (fun _ i => s.size - (intOf i).toNat)
  case atStart => exact ⟨0, Nat.zero_le _, rfl, rfl⟩
  case round =>
    obtain ⟨k, hk, rfl, rfl⟩ := hrel
    have hle := smallW_le (l := s.data.toList.take k) (fun x hx => hd x (List.mem_of_mem_take hx))
    generalize hV : smallW (s.data.toList.take k) = V at *
    have HV : Hid (smallW (s.data.toList.take k) = V) := hV
    clear hV
    by_cases hlt : k < s.size
    · have hg := take_get hlt
      have hb := isDig_bd (hd _ (List.mem_of_getElem? hg))
      have HG : Hid (s.data.toList[k]? = some s[k]) := hg
      have HB : Hid (48 ≤ s[k].toNat ∧ s[k].toNat ≤ 57) := hb
      clear hg hb
      by_cases hv : V < 1000
      · go_wp2
        go_round
        case rel =>
          refine ⟨k + 1, by omega, by go_num, ?_⟩
          rw [take_snoc_get HG.out, smallW_snoc, HV.out, if_pos hv]
          have := HB.out
          go_num
        case measure => simp [intOf]; omega
      · go_wp2
        go_ret
        refine ⟨ret_int ?_, rfl⟩
        have := smallW_stay (s.data.toList.take k) (s.data.toList.drop k) (by rw [HV.out]; omega)
        rw [List.take_append_drop, HV.out] at this
        rw [this]
    · go_wp2
      go_ret
      refine ⟨ret_int ?_, rfl⟩
      have e := HV.out
      rw [List.take_of_length_le (by rw [HSZ.out]; omega)] at e
      rw [e]
end Go.Proofs.YthdcceackfdbbaaGreatDoor
namespace Go.Proofs.YthdcceackfdbbaaGreatDoor
open Go.RowKit
theorem bytes_ne {s : ByteArray} {c : UInt8} {r : List UInt8} (h : s.data.toList = c :: r) : s.toList.isEmpty = false := by rw [bytes_toList, h]; rfl
theorem bytes_nil {s : ByteArray} (h : s.data.toList = []) : s.toList.isEmpty = true := by rw [bytes_toList, h]; rfl
theorem bytes_size {s : ByteArray} {l : List UInt8} (h : s.data.toList = l) : s.size = l.length := by subst h; simp
theorem bytes_head {s : ByteArray} {c : UInt8} {r : List UInt8} (h : s.data.toList = c :: r) (hp : 0 < s.size) : s[0] = c := by
  have := take_get hp
  rw [h] at this
  simpa using this.symm
theorem drop_one {s : ByteArray} {c : UInt8} {r : List UInt8} (h : s.data.toList = c :: r) : (s.extract 1 s.size).data.toList = r := by rw [extract_drop, h]; rfl
set_option maxRecDepth 5000 in
set_option maxHeartbeats 400000 in
theorem cutSign_any (w : World) (s : ByteArray) (hs : s.size ≤ 1000) :
    Calls Tryz.prog 119 #[.string s] w fun e w' => ∃ r : ByteArray, e = .returned (.tuple #[.bool (signL s.data.toList).1, .string r]) ∧ r.data.toList = (signL s.data.toList).2 ∧ ∃ n, w' = w.drewN n := by
  cases hl : s.data.toList with
  | nil =>
    have he := bytes_nil hl
    have HL : Hid (s.data.toList = []) := hl
    clear hl
    go_enter Tryz.func119, Tryz.ntmps119
    go_wp2
    go_ret2
    exact ⟨s, rfl, HL.out, 0, rfl⟩
  | cons c r =>
    have he := bytes_ne hl
    have hsz := bytes_size hl
    have hp : 0 < s.size := by simp at hsz; omega
    have hh := bytes_head hl hp
    have HH : Hid (s[0] = c) := hh
    have HD : Hid ((s.extract 1 s.size).data.toList = r) := drop_one hl
    have HL : Hid (s.data.toList = c :: r) := hl
    clear hl hsz hh
    by_cases c1 : c = 43
    · have b1 : ((s[0].toNat : Int) != 43) = false := by rw [HH.out, c1]; rfl
      have b2 : ((s[0].toNat : Int) == 45) = false := by rw [HH.out, c1]; rfl
      go_enter Tryz.func119, Tryz.ntmps119
      go_wp2
      go_quiet (fail)
      go_wp2
      go_ret2
      exact ⟨s.extract 1 s.size, by simp [signL, c1], by rw [HD.out]; simp [signL, c1], _, rfl⟩
    · by_cases c2 : c = 45
      · have b1 : ((s[0].toNat : Int) != 43) = true := by rw [HH.out, c2]; rfl
        have b2 : ((s[0].toNat : Int) != 45) = false := by rw [HH.out, c2]; rfl
        have b3 : ((s[0].toNat : Int) == 45) = true := by rw [HH.out, c2]; rfl
        go_enter Tryz.func119, Tryz.ntmps119
        go_wp2
        go_quiet (fail)
        go_wp2
        go_ret2
        exact ⟨s.extract 1 s.size, by simp [signL, c2], by rw [HD.out]; simp [signL, c2], _, rfl⟩
      · have b1 : ((s[0].toNat : Int) != 43) = true := by
          rw [HH.out]; simp; intro h; exact c1 (UInt8.toNat_inj.1 (by rw [show (43 : UInt8).toNat = 43 from rfl]; omega))
        have b2 : ((s[0].toNat : Int) != 45) = true := by
          rw [HH.out]; simp; intro h; exact c2 (UInt8.toNat_inj.1 (by rw [show (45 : UInt8).toNat = 45 from rfl]; omega))
        go_enter Tryz.func119, Tryz.ntmps119
        go_wp2
        go_ret2
        exact ⟨s, by simp [signL, c1, c2], by rw [HL.out]; simp [signL, c1, c2], 0, rfl⟩
theorem digs_takeWhile (l : List UInt8) : Digs (l.takeWhile isDig) := fun x hx => by
  have := List.all_takeWhile (p := isDig) (l := l)
  exact List.all_eq_true.1 this x hx
theorem signL_len (l : List UInt8) : (signL l).2.length ≤ l.length := by
  cases l with
  | nil => simp [signL]
  | cons c r => simp only [signL]; split <;> (try split) <;> simp
theorem takeWhile_len (l : List UInt8) : (l.takeWhile isDig).length ≤ l.length := (List.takeWhile_sublist isDig).length_le
theorem dropWhile_len (l : List UInt8) : (l.dropWhile isDig).length ≤ l.length := (List.dropWhile_sublist isDig).length_le
def powV (l : List UInt8) : Array Value := match powL l with
  | some p => #[.int .i64 p, .bool true]
  | none => #[.int .i64 0, .bool false]
set_option maxRecDepth 5000 in
set_option maxHeartbeats 800000 in
theorem scanPower_any (w : World) (s : ByteArray) (hs : s.size ≤ 1000) :
    Calls Tryz.prog 155 #[.string s] w fun e w' => e = .returned (.tuple (powV s.data.toList)) ∧ ∃ n, w' = w.drewN n := by
  cases hl : s.data.toList with
  | nil =>
    have he := bytes_nil hl
    clear hl
    go_enter Tryz.func155, Tryz.ntmps155
    go_wp2
    go_ret2
    exact ⟨rfl, 0, rfl⟩
  | cons c r =>
    have he := bytes_ne hl
    have hsz := bytes_size hl
    have hp : 0 < s.size := by simp at hsz; omega
    have hh := bytes_head hl hp
    have HH : Hid (s[0] = c) := hh
    have HD : Hid ((s.extract 1 s.size).data.toList = r) := drop_one hl
    have HSZ : Hid (s.size = r.length + 1) := by unfold Hid; simpa using hsz
    clear hl hsz hh
    by_cases cc : c = 101 ∨ c = 69
    · have key : (((s[0].toNat : Int) != 101) = false) ∨ (((s[0].toNat : Int) != 101) = true ∧ ((s[0].toNat : Int) != 69) = false) := by
        rw [HH.out]; rcases cc with h | h
        · left; rw [h]; rfl
        · right; rw [h]; exact ⟨rfl, rfl⟩
      have CC : Hid (c = 101 ∨ c = 69) := cc
      clear cc
      have HPW : Hid (powV (c :: r) = match (if (signL r).2.takeWhile isDig = [] ∨ (signL r).2.dropWhile isDig ≠ [] then none
       else some (if (signL r).1 then -(smallW ((signL r).2.takeWhile isDig) : Int) else (smallW ((signL r).2.takeWhile isDig) : Int))) with
          | some p => #[.int .i64 p, .bool true]
          | none => #[.int .i64 0, .bool false]) := by unfold Hid powV; simp only [powL]; rw [if_pos CC.out]
      have hsl := signL_len r
      rcases key with b1 | ⟨b1, b2⟩
      all_goals
        go_enter Tryz.func155, Tryz.ntmps155
        go_wp2_with fail
        refine (cutSign_any _ (s.extract 1 s.size) (by rw [bytes_size HD.out]; have := HSZ.out; omega)).mono ?_
        rintro e w1 ⟨r1, rfl, hr1, n1, rfl⟩
        rw [HD.out] at hr1 ⊢
        generalize signL r = sg at *
        obtain ⟨m, sr⟩ := sg
        have HR1 : Hid (r1.data.toList = sr) := hr1
        clear hr1
        go_wp2_with fail
        refine (cutDigits_any _ r1 (by rw [bytes_size HR1.out]; have := HSZ.out; omega)).mono ?_
        rintro e w2 ⟨d, r2, rfl, hd, hr2, n2, rfl⟩
        rw [HR1.out] at hd hr2
        have hdl := takeWhile_len sr
        have hdg := digs_takeWhile sr
        generalize hds : sr.takeWhile isDig = ds at *
        generalize hrs : sr.dropWhile isDig = rs at *
        have HDD : Hid (d.data.toList = ds) := hd
        have HR2 : Hid (r2.data.toList = rs) := hr2
        clear hds hrs hd hr2
        by_cases e1 : ds = []
        · have he1 := bytes_nil (HDD.out.trans e1)
          go_wp2
          go_ret2
          refine ⟨?_, _, by first | rfl | rw [World.drewN_drewN]⟩
          rw [HPW.out, if_pos (.inl e1)]
          rfl
        · have he1 : d.toList.isEmpty = false := by rw [bytes_toList, HDD.out]; cases ds with | nil => exact absurd rfl e1 | cons _ _ => rfl
          by_cases e2 : rs = []
          · have he2 := bytes_nil (HR2.out.trans e2)
            have hdg2 : Digs d.data.toList := by rw [HDD.out]; exact hdg
            have hsw := smallW_le hdg
            have HPV := HPW.out
            rw [if_neg (by rintro (h | h); exact e1 h; exact h e2)] at HPV
            have HPV2 : Hid (powV (c :: r) = #[.int .i64 (if m = true then -(smallW ds : Int) else (smallW ds : Int)), .bool true]) := HPV
            clear HPV HPW e1 e2
            go_wp2_with fail
            refine (smallWhole_any _ d hdg2 (by rw [bytes_size HDD.out]; have := HSZ.out; omega)).mono ?_
            rintro e w3 ⟨rfl, rfl⟩
            rw [HDD.out]
            generalize smallW ds = sw at *
            cases m with
            | true =>
              go_wp2
              go_ret2
              exact ⟨by rw [HPV2.out]; rfl, _, by first | rfl | rw [World.drewN_drewN]⟩
            | false =>
              go_wp2
              go_ret2
              exact ⟨by rw [HPV2.out]; rfl, _, by first | rfl | rw [World.drewN_drewN]⟩
          · have he2 : r2.toList.isEmpty = false := by rw [bytes_toList, HR2.out]; cases rs with | nil => exact absurd rfl e2 | cons _ _ => rfl
            go_wp2
            go_ret2
            refine ⟨?_, _, by first | rfl | rw [World.drewN_drewN]⟩
            rw [HPW.out, if_pos (.inr e2)]
            rfl
    · have hne : c.toNat ≠ 101 ∧ c.toNat ≠ 69 := ⟨fun h => cc (.inl (UInt8.toNat_inj.1 h)), fun h => cc (.inr (UInt8.toNat_inj.1 h))⟩
      have b1 : ((s[0].toNat : Int) != 101) = true := by rw [HH.out]; simp; omega
      have b2 : ((s[0].toNat : Int) != 69) = true := by rw [HH.out]; simp; omega
      have HPW : Hid (powV (c :: r) = #[.int .i64 0, .bool false]) := by unfold Hid powV; simp only [powL]; rw [if_neg cc]
      clear cc hne
      go_enter Tryz.func155, Tryz.ntmps155
      go_wp2
      go_ret2
      exact ⟨by rw [HPW.out]; rfl, 0, rfl⟩
end Go.Proofs.YthdcceackfdbbaaGreatDoor
namespace Go.Proofs.YthdcceackfdbbaaGreatDoor
open Go.RowKit
theorem cutPoint_yes {l r : List UInt8} (h : l = 46 :: r) : Lib.hasPrefix l [46] = true ∧ Lib.trimPrefix l [46] = r := by
  subst h; simp [Lib.hasPrefix, Lib.trimPrefix]
theorem cutPoint_no {l : List UInt8} (h : ∀ r, l ≠ 46 :: r) : Lib.hasPrefix l [46] = false ∧ Lib.trimPrefix l [46] = l ∧ fracL l = ([], l) := by
  cases l with
  | nil => simp [Lib.hasPrefix, Lib.trimPrefix, fracL]
  | cons c r =>
    have : c ≠ 46 := fun e => h r (by rw [e])
    have h2 : [46].isPrefixOf (c :: r) = false := by
      simp only [List.isPrefixOf, Bool.and_true, beq_eq_false_iff_ne]
      exact fun e => this e.symm
    refine ⟨h2, ?_, ?_⟩
    · unfold Lib.trimPrefix Lib.hasPrefix; rw [h2]; rfl
    · simp [fracL, this]
def DecOk (o : Option (List UInt8 × Int)) (d : ByteArray) (p : Int) (ok : Bool) : Prop := match o with
  | some (ds, q) => ok = true ∧ d.data.toList = ds ∧ p = q
  | none => ok = false
theorem bytes_append_list (a b : ByteArray) : (a ++ b).data.toList = a.data.toList ++ b.data.toList := by simp
theorem powL_bd {l : List UInt8} {q : Int} (h : powL l = some q) : -10000 ≤ q ∧ q ≤ 10000 := by
  cases l with
  | nil => simp [powL] at h; omega
  | cons c r =>
    simp only [powL] at h
    split at h
    · split at h
      · cases h
      · have := smallW_le (digs_takeWhile (signL r).2)
        simp only [Option.some.injEq] at h
        subst h
        split <;> omega
    · cases h
set_option maxRecDepth 5000 in
set_option maxHeartbeats 1600000 in
theorem scanDecimal_any (w : World) (s : ByteArray) (hs : s.size ≤ 100) :
    Calls Tryz.prog 120 #[.string s] w fun e w' => ∃ (d : ByteArray) (p : Int) (ok : Bool), e = .returned (.tuple #[.agg #[.string d, .int .i64 p], .bool ok]) ∧
      DecOk (decL s.data.toList) d p ok ∧ Below w.heap.size w w' := by
  have hsz : s.data.toList.length = s.size := by simp
  have hl1 := takeWhile_len s.data.toList
  have hl2 := dropWhile_len s.data.toList
  generalize hA : s.data.toList.takeWhile isDig = A at *
  generalize hR : s.data.toList.dropWhile isDig = R at *
  have HDEC : Hid (decL s.data.toList = if A ++ (fracL R).1 = [] then none else (powL (fracL R).2).map fun p : Int => ((A ++ (fracL R).1).dropWhile (· == 48), p - (fracL R).1.length)) := by
    unfold Hid decL; rw [hA, hR]
  have HA : Hid (s.data.toList.takeWhile isDig = A) := hA
  have HR : Hid (s.data.toList.dropWhile isDig = R) := hR
  generalize hDL : decL s.data.toList = DL at *
  have hAl : A.length ≤ 100 := by omega
  have hRl : R.length ≤ 100 := by omega
  clear hA hR hsz hl1 hl2 hDL
  by_cases hpt : ∃ r, R = 46 :: r
  · obtain ⟨r, hr⟩ := hpt
    obtain ⟨q1, q2⟩ := cutPoint_yes hr
    have hrl : r.length ≤ 100 := by rw [hr] at hRl; simp at hRl; omega
    have hF : fracL R = (r.takeWhile isDig, r.dropWhile isDig) := by rw [hr]; simp [fracL]
    have Q1 : Hid (Lib.hasPrefix R [46] = true) := q1
    have Q2 : Hid (Lib.trimPrefix R [46] = r) := q2
    have hFl := takeWhile_len r
    have hRRl := dropWhile_len r
    have hd2 := HDEC.out
    rw [hF] at hd2
    simp only at hd2
    generalize hFe : r.takeWhile isDig = F at *
    generalize hRRe : r.dropWhile isDig = RR at *
    have HFE : Hid (r.takeWhile isDig = F) := hFe
    have HRRE : Hid (r.dropWhile isDig = RR) := hRRe
    have HDEC2 : Hid (DL = if A ++ F = [] then none else (powL RR).map fun p : Int => ((A ++ F).dropWhile (· == 48), p - F.length)) := hd2
    clear hr q1 q2 hF hd2 hFe hRRe HDEC
    go_enter Tryz.func120, Tryz.ntmps120
    go_wp2_with fail
    refine (cutDigits_any _ s (by omega)).mono ?_
    rintro e w1 ⟨wh, r1, rfl, hwh, hr1, n1, rfl⟩
    rw [HA.out] at hwh
    rw [HR.out] at hr1
    have HWH : Hid (wh.data.toList = A) := hwh
    have HR1 : Hid (r1.data.toList = R) := hr1
    clear hwh hr1
    go_wp2_with fail
    refine (Tryz.strings_CutPrefix r1 ⟨#[46]⟩ _).mono ?_
    rintro e w2 ⟨rfl, rfl⟩
    rw [show (⟨#[46]⟩ : ByteArray).data.toList = [46] from rfl, HR1.out, Q1.out, Q2.out]
    go_wp2_with fail
    refine (cutDigits_any _ ⟨r.toArray⟩ (by rw [bytes_size (l := r) rfl]; omega)).mono ?_
    rintro e w3 ⟨fr, r3, rfl, hfr, hr3, n3, rfl⟩
    have HFR : Hid (fr.data.toList = F) := hfr.trans HFE.out
    have HR3 : Hid (r3.data.toList = RR) := hr3.trans HRRE.out
    clear hfr hr3
    have hwhs : wh.size ≤ 100 := by rw [bytes_size HWH.out]; omega
    have hfrs : (fr).size ≤ 100 := by rw [bytes_size HFR.out]; omega
    have HAP : Hid ((wh ++ fr).data.toList = A ++ F) := by unfold Hid; rw [bytes_append_list, HWH.out, HFR.out]
    have HFS : Hid (((fr).size : Int) = (F.length : Int)) := by unfold Hid; rw [bytes_size HFR.out]
    have hr3s : (r3).size ≤ 1000 := by rw [bytes_size HR3.out]; omega
    by_cases e0 : A ++ F = []
    · have he : (wh ++ fr).toList.isEmpty = true := bytes_nil (HAP.out.trans e0)
      go_wp2_with fail
      refine bodyPost_ret (v := .tuple #[.agg #[.string ⟨#[]⟩, .int .i64 0], .bool false]) (by simp [results, Tryz.results120, go_sem]) rfl ⟨⟨#[]⟩, 0, false, rfl, ?_, ?_⟩
      · rw [HDEC2.out, if_pos e0]; rfl
      · exact ((below_drewN ((Below.refl _ _).alloc (Nat.le_refl _) _) _).setCell (Nat.le_refl _) _).setCell (Nat.le_refl _) _
    · have he : (wh ++ fr).toList.isEmpty = false := by rw [bytes_toList, HAP.out]; cases hh : A ++ F with | nil => exact absurd hh e0 | cons _ _ => rfl
      go_wp2_with fail
      refine (scanPower_any _ (r3) hr3s).mono ?_
      rintro e w4 ⟨rfl, n4, rfl⟩
      rw [HR3.out]
      cases hpw : powL RR with
      | none =>
        have hpv : powV RR = #[.int .i64 0, .bool false] := by unfold powV; rw [hpw]
        rw [hpv]
        clear hpv
        go_wp2_with fail
        refine (Tryz.strings_TrimLeft_one (wh ++ fr) 48 (by decide) _).mono ?_
        rintro e w5 ⟨rfl, rfl⟩
        go_wp2_with fail
        refine bodyPost_ret (v := .tuple #[.agg #[.string ⟨(Lib.trimLeftB (wh ++ fr).data.toList 48).toArray⟩, .int .i64 (-((fr).size : Int))], .bool false]) (by simp [results, Tryz.results120, go_sem]) rfl ⟨_, _, false, rfl, ?_, ?_⟩
        · rw [HDEC2.out, if_neg e0, hpw]; rfl
        · exact ((below_drewN ((Below.refl _ _).alloc (Nat.le_refl _) _) _).setCell (Nat.le_refl _) _).setCell (Nat.le_refl _) _
      | some q =>
        have hpv : powV RR = #[.int .i64 q, .bool true] := by unfold powV; rw [hpw]
        have hqb := powL_bd hpw
        rw [hpv]
        clear hpv
        go_wp2_with fail
        refine (Tryz.strings_TrimLeft_one (wh ++ fr) 48 (by decide) _).mono ?_
        rintro e w5 ⟨rfl, rfl⟩
        go_wp2_with fail
        refine bodyPost_ret (v := .tuple #[.agg #[.string ⟨(Lib.trimLeftB (wh ++ fr).data.toList 48).toArray⟩, .int .i64 (q - ((fr).size : Int))], .bool true]) (by simp [results, Tryz.results120, go_sem]) rfl ⟨_, _, true, rfl, ?_, ?_⟩
        · rw [HDEC2.out, if_neg e0, hpw]
          refine ⟨rfl, ?_, ?_⟩
          · simp only [Lib.trimLeftB]; rw [HAP.out]
          · rw [HFS.out]
        · exact ((below_drewN ((Below.refl _ _).alloc (Nat.le_refl _) _) _).setCell (Nat.le_refl _) _).setCell (Nat.le_refl _) _
  · obtain ⟨q1, q2, q3⟩ := cutPoint_no (fun r hr => hpt ⟨r, hr⟩)
    have Q1 : Hid (Lib.hasPrefix R [46] = false) := q1
    have Q2 : Hid (Lib.trimPrefix R [46] = R) := q2
    have hd2 := HDEC.out
    rw [q3] at hd2
    simp only at hd2
    obtain ⟨F, hF⟩ : ∃ F : List UInt8, F = [] := ⟨_, rfl⟩
    obtain ⟨RR, hRR⟩ : ∃ RR : List UInt8, RR = R := ⟨_, rfl⟩
    have HDEC2 : Hid (DL = if A ++ F = [] then none else (powL RR).map fun p : Int => ((A ++ F).dropWhile (· == 48), p - F.length)) := by
      unfold Hid; rw [hF, hRR]; exact hd2
    have hFl : F.length ≤ 100 := by rw [hF]; simp
    have hRRl : RR.length ≤ 100 := by rw [hRR]; exact hRl
    have HFR : Hid ((⟨#[]⟩ : ByteArray).data.toList = F) := by unfold Hid; rw [hF]
    have HRR : Hid (RR = R) := hRR
    clear q1 q2 q3 hd2 HDEC hF hRR hpt
    go_enter Tryz.func120, Tryz.ntmps120
    go_wp2_with fail
    refine (cutDigits_any _ s (by omega)).mono ?_
    rintro e w1 ⟨wh, r1, rfl, hwh, hr1, n1, rfl⟩
    rw [HA.out] at hwh
    rw [HR.out] at hr1
    have HWH : Hid (wh.data.toList = A) := hwh
    have HR1 : Hid (r1.data.toList = R) := hr1
    have HR3 : Hid (r1.data.toList = RR) := by unfold Hid; rw [hr1, HRR.out]
    clear hwh hr1
    go_wp2_with fail
    refine (Tryz.strings_CutPrefix r1 ⟨#[46]⟩ _).mono ?_
    rintro e w2 ⟨rfl, rfl⟩
    rw [show (⟨#[46]⟩ : ByteArray).data.toList = [46] from rfl, HR1.out, Q1.out, Q2.out]
    have hwhs : wh.size ≤ 100 := by rw [bytes_size HWH.out]; omega
    have hfrs : ((⟨#[]⟩ : ByteArray)).size ≤ 100 := by rw [bytes_size HFR.out]; omega
    have HAP : Hid ((wh ++ (⟨#[]⟩ : ByteArray)).data.toList = A ++ F) := by unfold Hid; rw [bytes_append_list, HWH.out, HFR.out]
    have HFS : Hid ((((⟨#[]⟩ : ByteArray)).size : Int) = (F.length : Int)) := by unfold Hid; rw [bytes_size HFR.out]
    have hr3s : (r1).size ≤ 1000 := by rw [bytes_size HR3.out]; omega
    by_cases e0 : A ++ F = []
    · have he : (wh ++ (⟨#[]⟩ : ByteArray)).toList.isEmpty = true := bytes_nil (HAP.out.trans e0)
      go_wp2_with fail
      refine bodyPost_ret (v := .tuple #[.agg #[.string ⟨#[]⟩, .int .i64 0], .bool false]) (by simp [results, Tryz.results120, go_sem]) rfl ⟨⟨#[]⟩, 0, false, rfl, ?_, ?_⟩
      · rw [HDEC2.out, if_pos e0]; rfl
      · exact ((below_drewN ((Below.refl _ _).alloc (Nat.le_refl _) _) _).setCell (Nat.le_refl _) _).setCell (Nat.le_refl _) _
    · have he : (wh ++ (⟨#[]⟩ : ByteArray)).toList.isEmpty = false := by rw [bytes_toList, HAP.out]; cases hh : A ++ F with | nil => exact absurd hh e0 | cons _ _ => rfl
      go_wp2_with fail
      refine (scanPower_any _ (r1) hr3s).mono ?_
      rintro e w4 ⟨rfl, n4, rfl⟩
      rw [HR3.out]
      cases hpw : powL RR with
      | none =>
        have hpv : powV RR = #[.int .i64 0, .bool false] := by unfold powV; rw [hpw]
        rw [hpv]
        clear hpv
        go_wp2_with fail
        refine (Tryz.strings_TrimLeft_one (wh ++ (⟨#[]⟩ : ByteArray)) 48 (by decide) _).mono ?_
        rintro e w5 ⟨rfl, rfl⟩
        go_wp2_with fail
        refine bodyPost_ret (v := .tuple #[.agg #[.string ⟨(Lib.trimLeftB (wh ++ (⟨#[]⟩ : ByteArray)).data.toList 48).toArray⟩, .int .i64 (-(((⟨#[]⟩ : ByteArray)).size : Int))], .bool false]) (by simp [results, Tryz.results120, go_sem]) rfl ⟨_, _, false, rfl, ?_, ?_⟩
        · rw [HDEC2.out, if_neg e0, hpw]; rfl
        · exact ((below_drewN ((Below.refl _ _).alloc (Nat.le_refl _) _) _).setCell (Nat.le_refl _) _).setCell (Nat.le_refl _) _
      | some q =>
        have hpv : powV RR = #[.int .i64 q, .bool true] := by unfold powV; rw [hpw]
        have hqb := powL_bd hpw
        rw [hpv]
        clear hpv
        go_wp2_with fail
        refine (Tryz.strings_TrimLeft_one (wh ++ (⟨#[]⟩ : ByteArray)) 48 (by decide) _).mono ?_
        rintro e w5 ⟨rfl, rfl⟩
        go_wp2_with fail
        refine bodyPost_ret (v := .tuple #[.agg #[.string ⟨(Lib.trimLeftB (wh ++ (⟨#[]⟩ : ByteArray)).data.toList 48).toArray⟩, .int .i64 (q - (((⟨#[]⟩ : ByteArray)).size : Int))], .bool true]) (by simp [results, Tryz.results120, go_sem]) rfl ⟨_, _, true, rfl, ?_, ?_⟩
        · rw [HDEC2.out, if_neg e0, hpw]
          refine ⟨rfl, ?_, ?_⟩
          · simp only [Lib.trimLeftB]; rw [HAP.out]
          · rw [HFS.out]
        · exact ((below_drewN ((Below.refl _ _).alloc (Nat.le_refl _) _) _).setCell (Nat.le_refl _) _).setCell (Nat.le_refl _) _
end Go.Proofs.YthdcceackfdbbaaGreatDoor
namespace Go.Proofs.YthdcceackfdbbaaGreatDoor
open Go Go.RowKit
def wholeL (l : List UInt8) : Option Nat := if l.length ≤ 9 ∧ l.all isDig = true then some (dval l) else none
def tupN : Option Nat → Ending
  | some n => .returned (.tuple #[.int .i64 (n : Int), .bool true])
  | none => .returned (.tuple #[.int .i64 0, .bool false])
theorem dval_lt9 {l : List UInt8} (h : Digs l) (hl : l.length ≤ 9) : dval l < 1000000000 := by
  have h2 := dval_lt h
  have h3 : 10 ^ l.length ≤ 10 ^ 9 := Nat.pow_le_pow_right (by omega) hl
  have h4 : (10 : Nat) ^ 9 = 1000000000 := by decide
  omega
theorem wholeL_none {l : List UInt8} {k : Nat} {c : UInt8} (h : l[k]? = some c) (hc : isDig c = false) : wholeL l = none := by
  unfold wholeL
  rw [if_neg]
  rintro ⟨_, ha⟩
  have := List.all_eq_true.1 ha c (List.mem_of_getElem? h)
  rw [hc] at this; cases this
set_option maxRecDepth 20000 in
set_option maxHeartbeats 1000000 in
theorem mwhole_any (w : World) (s : ByteArray) (hs : s.size ≤ 1000000) : Calls Tryz.prog 232 #[.string s] w fun e w' => e = tupN (wholeL s.data.toList) ∧ w' = w := by
  have hl : s.data.toList.length = s.size := (bytes_size rfl).symm
  have HL := hid hl
  clear hl
  by_cases h9 : 9 < s.size
  · have hn : wholeL s.data.toList = none := by unfold wholeL; rw [if_neg (by rw [HL.out]; omega)]
    rw [hn]
    have h9' : (9 : Int) < (s.size : Int) := by omega
    go_enter Tryz.func232, Tryz.ntmps232
    go_wp2
    go_ret2
    exact ⟨rfl, rfl⟩
  · have h9' : ¬ (9 : Int) < (s.size : Int) := by omega
    obtain ⟨r, hr⟩ : ∃ r, wholeL s.data.toList = r := ⟨_, rfl⟩
    have HR := hid hr
    rw [hr]
    clear hr
    go_enter Tryz.func232, Tryz.ntmps232
    go_wp2
    go_loop [4, 11] (fun v i => ∃ k n : Nat, k ≤ s.size ∧ i = .int .i64 (k : Int) ∧ v = .int .i64 (n : Int) ∧ n < 1000000000 ∧ Hid (n = dval (s.data.toList.take k)) ∧ Hid (Digs (s.data.toList.take k))) (fun _ i => s.size - (intOf i).toNat)
    case atStart => exact ⟨0, 0, Nat.zero_le _, rfl, rfl, by omega, by rw [List.take_zero]; rfl, by rw [List.take_zero]; exact fun c h => by cases h⟩
    case round =>
      obtain ⟨k, n, hk, rfl, rfl, hn, HN, HD⟩ := hrel
      by_cases hlt : k < s.size
      · have hlt' : (k : Int) < s.size := by omega
        have hg : s.data.toList[k]? = some s[k] := take_get hlt
        have hb8 := s[k].toNat_lt
        by_cases hd : isDig s[k] = true
        · have hbd := isDig_bd hd
          have hd2 : Digs (s.data.toList.take (k + 1)) := by
            rw [take_snoc_get hg]
            intro c hc
            rcases List.mem_append.1 hc with h | h
            · exact HD.out c h
            · simp at h; subst h; exact hd
          have hlt9 : dval (s.data.toList.take (k + 1)) < 1000000000 := dval_lt9 hd2 (by rw [List.length_take]; omega)
          have he : dval (s.data.toList.take (k + 1)) = n * 10 + (s[k].toNat - 48) := by rw [take_snoc_get hg, dval_snoc, HN.out]
          rw [he] at hlt9
          have HE := hid he
          have HD2 := hid hd2
          clear he hd2 hg hd
          have h48 : ¬ ((s[k].toNat : Int) < 48) := by omega
          have h57 : ¬ ((57 : Int) < (s[k].toNat : Int)) := by omega
          go_wp2
          go_round
          case rel => exact ⟨k + 1, n * 10 + (s[k].toNat - 48), by omega, by simp, by go_num, hlt9, HE.out.symm, HD2⟩
          case measure => simp [intOf]; omega
        · have hdf : isDig s[k] = false := by simpa using hd
          have hrn : r = none := by rw [← HR.out]; exact wholeL_none hg hdf
          subst hrn
          have hnd : s[k].toNat < 48 ∨ 57 < s[k].toNat := by
            unfold isDig at hdf
            simp at hdf
            omega
          clear hdf hd hg HR
          rcases hnd with h | h
          · have h' : (s[k].toNat : Int) < 48 := by omega
            go_wp2
            go_ret2
            exact ⟨rfl, rfl⟩
          · have h' : ¬ (s[k].toNat : Int) < 48 := by omega
            have h2 : (57 : Int) < (s[k].toNat : Int) := by omega
            go_wp2
            go_ret2
            exact ⟨rfl, rfl⟩
      · have hlt' : ¬ (k : Int) < s.size := by omega
        have hrs : r = some n := by
          rw [← HR.out]
          have hD := HD.out
          have hN := HN.out
          rw [List.take_of_length_le (by rw [HL.out]; omega)] at hD hN
          unfold wholeL
          rw [if_pos ⟨by rw [HL.out]; omega, List.all_eq_true.2 hD⟩, hN]
        subst hrs
        clear HR
        go_wp2
        go_ret2
        exact ⟨rfl, rfl⟩
def wholesL : List (List UInt8) → Option (List Nat)
  | [] => some []
  | x :: r => match wholeL x, wholesL r with
    | some n, some l => some (n :: l)
    | _, _ => none
end Go.Proofs.YthdcceackfdbbaaGreatDoor
namespace Go.Proofs.YthdcceackfdbbaaGreatDoor
open Go Go.RowKit
def StrsAt (w : World) (ao : Option Addr) (ws : List ByteArray) : Prop := ∀ (k : Nat) (x : ByteArray), ws[k]? = some x → ∃ g off : Nat, ao = some ⟨g, off, none⟩ ∧ g < w.heap.size ∧ w.cell? ⟨g, off + k, none⟩ = some (.string x)
theorem StrsAt.below {w w' : World} {ao : Option Addr} {ws : List ByteArray} (h : StrsAt w ao ws) (b : Below w.heap.size w w') : StrsAt w' ao ws := fun k x hk => by
  obtain ⟨g, off, h2, h3, h4⟩ := h k x hk
  exact ⟨g, off, h2, Nat.lt_of_lt_of_le h3 b.size, (b.cell (p := ⟨g, off + k, none⟩) h3).trans h4⟩
def intL (l : List Nat) : List Value := l.map fun (n : Nat) => .int .i64 (n : Int)
theorem wholesL_snoc {a : List (List UInt8)} {x : List UInt8} : wholesL (a ++ [x]) = match wholesL a, wholeL x with | some l, some n => some (l ++ [n]) | _, _ => none := by
  induction a with
  | nil => simp only [List.nil_append, wholesL]; cases wholeL x <;> rfl
  | cons y r ih =>
    simp only [List.cons_append, wholesL, ih]
    cases wholeL y <;> cases wholesL r <;> cases wholeL x <;> rfl
theorem wholesL_bad {a : List (List UInt8)} {k : Nat} {x : List UInt8} (h : a[k]? = some x) (hx : wholeL x = none) : wholesL a = none := by
  induction a generalizing k with
  | nil => simp at h
  | cons y r ih =>
    cases k with
    | zero => simp at h; subst h; simp only [wholesL, hx]
    | succ k => simp at h; simp only [wholesL, ih h]; cases wholeL y <;> rfl
theorem Tryz.infoInt : (Tryz.prog.info? 3).map (fun i => (i.zero, i.size, i.bytes)) = some (some (.int .i64 0), 1, 8) := by kernel_rfl
def WholesR (B : Nat) (r : Option (List Nat)) (e : Ending) (w' : World) : Prop :=
  (r = none ∧ e = .returned (.tuple #[.slice none 0 0, .bool false])) ∨ ∃ l v, r = some l ∧ e = .returned (.tuple #[v, .bool true]) ∧ w'.ownsRow B 3 1 v l.length (intL l)
set_option maxRecDepth 20000 in
set_option maxHeartbeats 1000000 in
theorem wholes_any (w : World) (ao : Option Addr) (n cap : Nat) (ws : List ByteArray) (hn : ws.length = n) (hn1 : n ≤ 1000000) (hsz : ∀ x ∈ ws, x.size ≤ 1000000) (hws : StrsAt w ao ws) :
    Calls Tryz.prog 211 #[.slice ao n cap] w fun e w' => WholesR w.heap.size (wholesL (ws.map (·.data.toList))) e w' ∧ Below w.heap.size w w' := by
  obtain ⟨b, hb⟩ : ∃ b, w.heap.size = b := ⟨_, rfl⟩
  obtain ⟨i0, hi, hz0, hz1, hz2⟩ := info_parts Tryz.infoInt
  have HI := hid hi
  have HWS := hid hws
  have HSZ := hid hsz
  clear hi hws hsz
  rw [hb]
  go_enter Tryz.func211, Tryz.ntmps211
  go_wp2
  go_loopw [4, 11] (fun v i wr => ∃ (k : Nat) (l : List Nat), k ≤ n ∧ i = .int .i64 (k : Int) ∧ Hid (wholesL ((ws.take k).map (·.data.toList)) = some l) ∧ l.length = k ∧ Hid (wr.ownsRow b 3 1 v k (intL l)) ∧ Hid (Below b w wr)) (fun _ i _ => n - (intOf i).toNat)
  case atStart => exact ⟨0, [], Nat.zero_le _, rfl, by rw [List.take_zero]; rfl, rfl, World.ownsRow_nil _ _ _ _, by rw [← hb]; exact Below.refl _ _⟩
  case round =>
    obtain ⟨k, l, hk, rfl, HL, hlk, HO, HB⟩ := hrel
    by_cases hlt : k < n
    · have hlt' : (k : Int) < n := by omega
      obtain ⟨x, hx⟩ : ∃ x, ws[k]? = some x := ⟨ws[k]'(by omega), by simp⟩
      obtain ⟨g, off, rfl, hg, hc⟩ := HWS.out k x hx
      have hc1 : wr.cell? ⟨g, off + k, none⟩ = some (.string x) := (HB.out.cell (p := ⟨g, off + k, none⟩) (by show g < b; omega)).trans hc
      have hxs := HSZ.out x (List.mem_of_getElem? hx)
      have HW := hid (mwhole_any wr x hxs)
      have HX := hid hx
      have HST : Hid (wholesL ((ws.take (k + 1)).map (·.data.toList)) = match wholeL x.data.toList with | some m => some (l ++ [m]) | none => none) := by
        show _ = _
        rw [take_snoc_get hx, List.map_append, List.map_singleton, wholesL_snoc, HL.out]
        cases wholeL x.data.toList <;> rfl
      clear hc hx
      cases hwl : wholeL x.data.toList with
      | none =>
        rw [hwl] at HW
        have HBAD : Hid (wholesL (ws.map (·.data.toList)) = none) := wholesL_bad (k := k) (by rw [List.getElem?_map, HX.out]; rfl) hwl
        clear hwl HST
        unfold tupN at HW
        go_wp2_with fail
        refine HW.out.mono ?_
        rintro e w1 ⟨rfl, hw1⟩
        rw [hw1]
        clear hw1 HW
        go_wp2
        go_ret2
        exact ⟨.inl ⟨HBAD.out, rfl⟩, HB.out⟩
      | some m =>
        rw [hwl] at HW HST
        clear hwl
        unfold tupN at HW
        have hs := HB.out.size
        go_wp2_with fail
        refine HW.out.mono ?_
        rintro e w1 ⟨rfl, hw1⟩
        rw [hw1]
        clear hw1 HW
        go_wp2_with (at_builtin; refine wpList_append_own _ rfl _ _ 25 rfl b 3 i0 (.int .i64 0) 1 8 Tryz.underlying25 HI.out hz0 hz1 hz2 rfl (by decide) _ _ _ rfl (HO.out.alloc _) ⟨wr.heap.size, 0, none⟩ 1 1 [.int .i64 (m : Int)] rfl rfl ?c1 ?c2 ?c3 ?c4 ?c5 ?_)
        case c1 => exact cell_one_new _ _ _
        case c2 => intro u hu; simp at hu; subst hu; rfl
        case c3 => unfold maxLen; omega
        case c4 => omega
        case c5 => simp; omega
        · intro v' w2 hown' hgrow _
          have b2 : Below b wr w2 := ((Below.refl _ wr).alloc (by omega) _).grown hgrow (by simp; omega) (fun q hq => (HO.out.lt q hq).1)
          have HB2 := hid (HB.out.trans b2)
          have HO2 : Hid (w2.ownsRow b 3 1 v' (k + 1) (intL (l ++ [m]))) := by
            show World.ownsRow _ _ _ _ _ _ _
            rw [show intL (l ++ [m]) = intL l ++ [.int .i64 (m : Int)] by simp [intL]]; exact hown'
          clear b2 hown' hgrow
          go_wp2
          go_round
          case rel => exact ⟨k + 1, l ++ [m], by omega, by simp, HST, by simp [hlk], HO2, HB2⟩
          case measure => simp [intOf]; omega
    · have hlt' : ¬ (k : Int) < n := by omega
      obtain rfl : k = n := by omega
      go_wp2
      go_ret2
      refine ⟨.inr ⟨l, _, ?_, rfl, by rw [hlk]; exact HO.out⟩, HB.out⟩
      have := HL.out
      rw [List.take_of_length_le (by omega)] at this
      exact this
end Go.Proofs.YthdcceackfdbbaaGreatDoor
