import Derived.Test.YthdcceackfdbbaaGreatDoorM12W
import Derived.Test.YthdcceackfdbbaaGreatDoorM09W
import Derived.KernelRfl
import Derived.Lib.LaidTab
import Derived.Lib.ItoaMem
import Derived.Lib.Walk
import Derived.BigCall
/- Walks: scanDecimal. Own text. -/
namespace Go.Proofs.YthdcceackfdbbaaGreatDoor
open Go.RowKit

theorem cutPoint_yes {l r : List UInt8} (h : l = 46 :: r) : Lib.hasPrefix l [46] = true ∧ Lib.trimPrefix l [46] = r := by
  subst h; simp [Lib.hasPrefix, Lib.trimPrefix]
theorem cutPoint_no {l : List UInt8} (h : ∀ r, l ≠ 46 :: r) : Lib.hasPrefix l [46] = false ∧ Lib.trimPrefix l [46] = l ∧ fracL l = ([], l) := by
  cases l with
  | nil => simp [Lib.hasPrefix, Lib.trimPrefix, fracL]
  | cons c r =>
    have : c ≠ 46 := fun e => h r (by rw [e])
    have h2 : [46].isPrefixOf (c :: r) = false := by
      simp only [List.isPrefixOf, Bool.and_true, beq_eq_false_iff_ne]
      exact fun e => this e.symm
    refine ⟨h2, ?_, ?_⟩
    · unfold Lib.trimPrefix Lib.hasPrefix; rw [h2]; rfl
    · simp [fracL, this]

/-- What scanDecimal answers. -/
def DecOk (o : Option (List UInt8 × Int)) (d : ByteArray) (p : Int) (ok : Bool) : Prop := match o with
  | some (ds, q) => ok = true ∧ d.data.toList = ds ∧ p = q
  | none => ok = false

theorem bytes_append_list (a b : ByteArray) : (a ++ b).data.toList = a.data.toList ++ b.data.toList := by simp

theorem powL_bd {l : List UInt8} {q : Int} (h : powL l = some q) : -10000 ≤ q ∧ q ≤ 10000 := by
  cases l with
  | nil => simp [powL] at h; omega
  | cons c r =>
    simp only [powL] at h
    split at h
    · split at h
      · cases h
      · have := smallW_le (digs_takeWhile (signL r).2)
        simp only [Option.some.injEq] at h
        subst h
        split <;> omega
    · cases h

set_option maxRecDepth 5000 in
set_option maxHeartbeats 1600000 in
theorem scanDecimal_any (w : World) (s : ByteArray) (hs : s.size ≤ 100) :
    Calls Tryz.prog 120 #[.string s] w fun e w' => ∃ (d : ByteArray) (p : Int) (ok : Bool), e = .returned (.tuple #[.agg #[.string d, .int .i64 p], .bool ok]) ∧
      DecOk (decL s.data.toList) d p ok ∧ Below w.heap.size w w' := by
  have hsz : s.data.toList.length = s.size := by simp
  have hl1 := takeWhile_len s.data.toList
  have hl2 := dropWhile_len s.data.toList
  generalize hA : s.data.toList.takeWhile isDig = A at *
  generalize hR : s.data.toList.dropWhile isDig = R at *
  have HDEC : Hid (decL s.data.toList = if A ++ (fracL R).1 = [] then none else (powL (fracL R).2).map fun p : Int => ((A ++ (fracL R).1).dropWhile (· == 48), p - (fracL R).1.length)) := by
    unfold Hid decL; rw [hA, hR]
  have HA : Hid (s.data.toList.takeWhile isDig = A) := hA
  have HR : Hid (s.data.toList.dropWhile isDig = R) := hR
  generalize hDL : decL s.data.toList = DL at *
  have hAl : A.length ≤ 100 := by omega
  have hRl : R.length ≤ 100 := by omega
  clear hA hR hsz hl1 hl2 hDL
  by_cases hpt : ∃ r, R = 46 :: r
  · obtain ⟨r, hr⟩ := hpt
    obtain ⟨q1, q2⟩ := cutPoint_yes hr
    have hrl : r.length ≤ 100 := by rw [hr] at hRl; simp at hRl; omega
    have hF : fracL R = (r.takeWhile isDig, r.dropWhile isDig) := by rw [hr]; simp [fracL]
    have Q1 : Hid (Lib.hasPrefix R [46] = true) := q1
    have Q2 : Hid (Lib.trimPrefix R [46] = r) := q2
    have hFl := takeWhile_len r
    have hRRl := dropWhile_len r
    have hd2 := HDEC.out
    rw [hF] at hd2
    simp only at hd2
    generalize hFe : r.takeWhile isDig = F at *
    generalize hRRe : r.dropWhile isDig = RR at *
    have HFE : Hid (r.takeWhile isDig = F) := hFe
    have HRRE : Hid (r.dropWhile isDig = RR) := hRRe
    have HDEC2 : Hid (DL = if A ++ F = [] then none else (powL RR).map fun p : Int => ((A ++ F).dropWhile (· == 48), p - F.length)) := hd2
    clear hr q1 q2 hF hd2 hFe hRRe HDEC
    go_enter Tryz.func120, Tryz.ntmps120
    go_wp2_with fail
    refine (cutDigits_any _ s (by omega)).mono ?_
    rintro e w1 ⟨wh, r1, rfl, hwh, hr1, n1, rfl⟩
    rw [HA.out] at hwh
    rw [HR.out] at hr1
    have HWH : Hid (wh.data.toList = A) := hwh
    have HR1 : Hid (r1.data.toList = R) := hr1
    clear hwh hr1
    go_wp2_with fail
    refine (Tryz.strings_CutPrefix r1 ⟨#[46]⟩ _).mono ?_
    rintro e w2 ⟨rfl, rfl⟩
    rw [show (⟨#[46]⟩ : ByteArray).data.toList = [46] from rfl, HR1.out, Q1.out, Q2.out]
    go_wp2_with fail
    refine (cutDigits_any _ ⟨r.toArray⟩ (by rw [bytes_size (l := r) rfl]; omega)).mono ?_
    rintro e w3 ⟨fr, r3, rfl, hfr, hr3, n3, rfl⟩
    have HFR : Hid (fr.data.toList = F) := hfr.trans HFE.out
    have HR3 : Hid (r3.data.toList = RR) := hr3.trans HRRE.out
    clear hfr hr3
    have hwhs : wh.size ≤ 100 := by rw [bytes_size HWH.out]; omega
    have hfrs : (fr).size ≤ 100 := by rw [bytes_size HFR.out]; omega
    have HAP : Hid ((wh ++ fr).data.toList = A ++ F) := by unfold Hid; rw [bytes_append_list, HWH.out, HFR.out]
    have HFS : Hid (((fr).size : Int) = (F.length : Int)) := by unfold Hid; rw [bytes_size HFR.out]
    have hr3s : (r3).size ≤ 1000 := by rw [bytes_size HR3.out]; omega
    by_cases e0 : A ++ F = []
    · have he : (wh ++ fr).toList.isEmpty = true := bytes_nil (HAP.out.trans e0)
      go_wp2_with fail
      refine bodyPost_ret (v := .tuple #[.agg #[.string ⟨#[]⟩, .int .i64 0], .bool false]) (by simp [results, Tryz.results120, go_sem]) rfl ⟨⟨#[]⟩, 0, false, rfl, ?_, ?_⟩
      · rw [HDEC2.out, if_pos e0]; rfl
      · exact ((below_drewN ((Below.refl _ _).alloc (Nat.le_refl _) _) _).setCell (Nat.le_refl _) _).setCell (Nat.le_refl _) _
    · have he : (wh ++ fr).toList.isEmpty = false := by rw [bytes_toList, HAP.out]; cases hh : A ++ F with | nil => exact absurd hh e0 | cons _ _ => rfl
      go_wp2_with fail
      refine (scanPower_any _ (r3) hr3s).mono ?_
      rintro e w4 ⟨rfl, n4, rfl⟩
      rw [HR3.out]
      cases hpw : powL RR with
      | none =>
        have hpv : powV RR = #[.int .i64 0, .bool false] := by unfold powV; rw [hpw]
        rw [hpv]
        clear hpv
        go_wp2_with fail
        refine (Tryz.strings_TrimLeft_one (wh ++ fr) 48 (by decide) _).mono ?_
        rintro e w5 ⟨rfl, rfl⟩
        go_wp2_with fail
        refine bodyPost_ret (v := .tuple #[.agg #[.string ⟨(Lib.trimLeftB (wh ++ fr).data.toList 48).toArray⟩, .int .i64 (-((fr).size : Int))], .bool false]) (by simp [results, Tryz.results120, go_sem]) rfl ⟨_, _, false, rfl, ?_, ?_⟩
        · rw [HDEC2.out, if_neg e0, hpw]; rfl
        · exact ((below_drewN ((Below.refl _ _).alloc (Nat.le_refl _) _) _).setCell (Nat.le_refl _) _).setCell (Nat.le_refl _) _
      | some q =>
        have hpv : powV RR = #[.int .i64 q, .bool true] := by unfold powV; rw [hpw]
        have hqb := powL_bd hpw
        rw [hpv]
        clear hpv
        go_wp2_with fail
        refine (Tryz.strings_TrimLeft_one (wh ++ fr) 48 (by decide) _).mono ?_
        rintro e w5 ⟨rfl, rfl⟩
        go_wp2_with fail
        refine bodyPost_ret (v := .tuple #[.agg #[.string ⟨(Lib.trimLeftB (wh ++ fr).data.toList 48).toArray⟩, .int .i64 (q - ((fr).size : Int))], .bool true]) (by simp [results, Tryz.results120, go_sem]) rfl ⟨_, _, true, rfl, ?_, ?_⟩
        · rw [HDEC2.out, if_neg e0, hpw]
          refine ⟨rfl, ?_, ?_⟩
          · simp only [Lib.trimLeftB]; rw [HAP.out]
          · rw [HFS.out]
        · exact ((below_drewN ((Below.refl _ _).alloc (Nat.le_refl _) _) _).setCell (Nat.le_refl _) _).setCell (Nat.le_refl _) _
  · obtain ⟨q1, q2, q3⟩ := cutPoint_no (fun r hr => hpt ⟨r, hr⟩)
    have Q1 : Hid (Lib.hasPrefix R [46] = false) := q1
    have Q2 : Hid (Lib.trimPrefix R [46] = R) := q2
    have hd2 := HDEC.out
    rw [q3] at hd2
    simp only at hd2
    obtain ⟨F, hF⟩ : ∃ F : List UInt8, F = [] := ⟨_, rfl⟩
    obtain ⟨RR, hRR⟩ : ∃ RR : List UInt8, RR = R := ⟨_, rfl⟩
    have HDEC2 : Hid (DL = if A ++ F = [] then none else (powL RR).map fun p : Int => ((A ++ F).dropWhile (· == 48), p - F.length)) := by
      unfold Hid; rw [hF, hRR]; exact hd2
    have hFl : F.length ≤ 100 := by rw [hF]; simp
    have hRRl : RR.length ≤ 100 := by rw [hRR]; exact hRl
    have HFR : Hid ((⟨#[]⟩ : ByteArray).data.toList = F) := by unfold Hid; rw [hF]
    have HRR : Hid (RR = R) := hRR
    clear q1 q2 q3 hd2 HDEC hF hRR hpt
    go_enter Tryz.func120, Tryz.ntmps120
    go_wp2_with fail
    refine (cutDigits_any _ s (by omega)).mono ?_
    rintro e w1 ⟨wh, r1, rfl, hwh, hr1, n1, rfl⟩
    rw [HA.out] at hwh
    rw [HR.out] at hr1
    have HWH : Hid (wh.data.toList = A) := hwh
    have HR1 : Hid (r1.data.toList = R) := hr1
    have HR3 : Hid (r1.data.toList = RR) := by unfold Hid; rw [hr1, HRR.out]
    clear hwh hr1
    go_wp2_with fail
    refine (Tryz.strings_CutPrefix r1 ⟨#[46]⟩ _).mono ?_
    rintro e w2 ⟨rfl, rfl⟩
    rw [show (⟨#[46]⟩ : ByteArray).data.toList = [46] from rfl, HR1.out, Q1.out, Q2.out]
    have hwhs : wh.size ≤ 100 := by rw [bytes_size HWH.out]; omega
    have hfrs : ((⟨#[]⟩ : ByteArray)).size ≤ 100 := by rw [bytes_size HFR.out]; omega
    have HAP : Hid ((wh ++ (⟨#[]⟩ : ByteArray)).data.toList = A ++ F) := by unfold Hid; rw [bytes_append_list, HWH.out, HFR.out]
    have HFS : Hid ((((⟨#[]⟩ : ByteArray)).size : Int) = (F.length : Int)) := by unfold Hid; rw [bytes_size HFR.out]
    have hr3s : (r1).size ≤ 1000 := by rw [bytes_size HR3.out]; omega
    by_cases e0 : A ++ F = []
    · have he : (wh ++ (⟨#[]⟩ : ByteArray)).toList.isEmpty = true := bytes_nil (HAP.out.trans e0)
      go_wp2_with fail
      refine bodyPost_ret (v := .tuple #[.agg #[.string ⟨#[]⟩, .int .i64 0], .bool false]) (by simp [results, Tryz.results120, go_sem]) rfl ⟨⟨#[]⟩, 0, false, rfl, ?_, ?_⟩
      · rw [HDEC2.out, if_pos e0]; rfl
      · exact ((below_drewN ((Below.refl _ _).alloc (Nat.le_refl _) _) _).setCell (Nat.le_refl _) _).setCell (Nat.le_refl _) _
    · have he : (wh ++ (⟨#[]⟩ : ByteArray)).toList.isEmpty = false := by rw [bytes_toList, HAP.out]; cases hh : A ++ F with | nil => exact absurd hh e0 | cons _ _ => rfl
      go_wp2_with fail
      refine (scanPower_any _ (r1) hr3s).mono ?_
      rintro e w4 ⟨rfl, n4, rfl⟩
      rw [HR3.out]
      cases hpw : powL RR with
      | none =>
        have hpv : powV RR = #[.int .i64 0, .bool false] := by unfold powV; rw [hpw]
        rw [hpv]
        clear hpv
        go_wp2_with fail
        refine (Tryz.strings_TrimLeft_one (wh ++ (⟨#[]⟩ : ByteArray)) 48 (by decide) _).mono ?_
        rintro e w5 ⟨rfl, rfl⟩
        go_wp2_with fail
        refine bodyPost_ret (v := .tuple #[.agg #[.string ⟨(Lib.trimLeftB (wh ++ (⟨#[]⟩ : ByteArray)).data.toList 48).toArray⟩, .int .i64 (-(((⟨#[]⟩ : ByteArray)).size : Int))], .bool false]) (by simp [results, Tryz.results120, go_sem]) rfl ⟨_, _, false, rfl, ?_, ?_⟩
        · rw [HDEC2.out, if_neg e0, hpw]; rfl
        · exact ((below_drewN ((Below.refl _ _).alloc (Nat.le_refl _) _) _).setCell (Nat.le_refl _) _).setCell (Nat.le_refl _) _
      | some q =>
        have hpv : powV RR = #[.int .i64 q, .bool true] := by unfold powV; rw [hpw]
        have hqb := powL_bd hpw
        rw [hpv]
        clear hpv
        go_wp2_with fail
        refine (Tryz.strings_TrimLeft_one (wh ++ (⟨#[]⟩ : ByteArray)) 48 (by decide) _).mono ?_
        rintro e w5 ⟨rfl, rfl⟩
        go_wp2_with fail
        refine bodyPost_ret (v := .tuple #[.agg #[.string ⟨(Lib.trimLeftB (wh ++ (⟨#[]⟩ : ByteArray)).data.toList 48).toArray⟩, .int .i64 (q - (((⟨#[]⟩ : ByteArray)).size : Int))], .bool true]) (by simp [results, Tryz.results120, go_sem]) rfl ⟨_, _, true, rfl, ?_, ?_⟩
        · rw [HDEC2.out, if_neg e0, hpw]
          refine ⟨rfl, ?_, ?_⟩
          · simp only [Lib.trimLeftB]; rw [HAP.out]
          · rw [HFS.out]
        · exact ((below_drewN ((Below.refl _ _).alloc (Nat.le_refl _) _) _).setCell (Nat.le_refl _) _).setCell (Nat.le_refl _) _

end Go.Proofs.YthdcceackfdbbaaGreatDoor
/- Walks: Scan. Own text. -/
namespace Go.Proofs.YthdcceackfdbbaaGreatDoor
open Go.RowKit

theorem fracL_digs (l : List UInt8) : Digs (fracL l).1 := by
  cases l with
  | nil => intro x hx; simp [fracL] at hx
  | cons c r =>
    simp only [fracL]
    split
    · exact digs_takeWhile r
    · intro x hx; simp at hx

theorem fracL_len (l : List UInt8) : (fracL l).1.length ≤ l.length := by
  cases l with
  | nil => simp [fracL]
  | cons c r =>
    simp only [fracL]
    split
    · have := takeWhile_len r; simp; omega
    · simp

theorem span_len (l : List UInt8) : (l.takeWhile isDig).length + (l.dropWhile isDig).length = l.length := by
  rw [← List.length_append, List.takeWhile_append_dropWhile]

theorem decL_facts {l ds : List UInt8} {q : Int} (h : decL l = some (ds, q)) : Digs ds ∧ ds.length ≤ l.length ∧ (∀ c r, ds = c :: r → c.toNat ≠ 48) ∧ -10000 - (l.length : Int) ≤ q ∧ q ≤ 10000 := by
  unfold decL at h
  split at h
  · cases h
  · cases hp : powL (fracL (l.dropWhile isDig)).2 with
    | none => rw [hp] at h; cases h
    | some p =>
      rw [hp] at h
      simp only [Option.map_some, Option.some.injEq, Prod.mk.injEq] at h
      obtain ⟨h1, h2⟩ := h
      have b := powL_bd hp
      have l1 := fracL_len (l.dropWhile isDig)
      have l2 := span_len l
      refine ⟨?_, ?_, ?_, by omega, by omega⟩
      · rw [← h1]; exact digs_drop (digs_append (digs_takeWhile l) (fracL_digs _)) _
      · rw [← h1]
        have := (List.dropWhile_sublist (· == (48 : UInt8)) (l := l.takeWhile isDig ++ (fracL (l.dropWhile isDig)).1)).length_le
        rw [List.length_append] at this
        omega
      · rw [← h1]; exact drop_zero _

theorem list_eq_beq {s : ByteArray} {l : List UInt8} (h : s.data.toList = l) : (s.toList == l) = true := by rw [bytes_toList, h]; simp
theorem list_ne_beq {s : ByteArray} {l : List UInt8} (h : s.data.toList ≠ l) : (s.toList == l) = false := by rw [bytes_toList]; simpa using h

theorem or_sign {n : Nat} (h : n ≤ 9218868437227405312) : bits BinOp.or IntKind.u64 (n : Int) 9223372036854775808 = ((n + 9223372036854775808 : Nat) : Int) := by
  rw [show (9223372036854775808 : Int) = ((9223372036854775808 : Nat) : Int) from rfl, u64_or_nat _ _ (by omega) (by omega), Nat.or_comm, nat_join 63 _ _ (by decide) (by omega), Nat.add_comm]

theorem ret2 {a a' b b' : Int} (h1 : a = a') (h2 : b = b') : Ending.returned (.tuple #[.int .u64 a, .int .i64 b]) = .returned (.tuple #[.int .u64 a', .int .i64 b']) := by rw [h1, h2]

set_option maxRecDepth 5000 in
set_option maxHeartbeats 1600000 in
theorem nscan_any (w : World) (s : ByteArray) (hs : s.size ≤ maxLen) :
    Calls Tryz.prog 87 #[.string s] w fun e w' => e = .returned (.tuple #[.int .u64 ((scanL s.data.toList).1 : Int), .int .i64 ((scanL s.data.toList).2 : Int)]) ∧ Below w.heap.size w w' := by
  unfold maxLen at hs
  have hsz : s.data.toList.length = s.size := by simp
  have HSZ : Hid (s.data.toList.length = s.size) := hsz
  clear hsz
  by_cases c0 : 60 < s.size
  · have HF : Hid (scanL s.data.toList = (0, 1)) := by unfold Hid scanL; rw [if_pos (by rw [HSZ.out]; exact c0)]
    go_enter Tryz.func87, Tryz.ntmps87
    go_wp2
    go_ret2
    exact ⟨by rw [HF.out]; rfl, Below.refl _ _⟩
  · by_cases c1 : s.data.toList = [105, 110, 102]
    · have HF : Hid (scanL s.data.toList = (9218868437227405312, 0)) := by unfold Hid scanL; rw [if_neg (by rw [HSZ.out]; exact c0), if_pos (.inl c1)]
      have b1 := list_eq_beq c1
      clear c1
      go_enter Tryz.func87, Tryz.ntmps87
      go_wp2
      go_ret2
      exact ⟨by rw [HF.out]; rfl, Below.refl _ _⟩
    · have b1 := list_ne_beq c1
      by_cases c2 : s.data.toList = [43, 105, 110, 102]
      · have HF : Hid (scanL s.data.toList = (9218868437227405312, 0)) := by unfold Hid scanL; rw [if_neg (by rw [HSZ.out]; exact c0), if_pos (.inr c2)]
        have b2 := list_eq_beq c2
        clear c1 c2
        go_enter Tryz.func87, Tryz.ntmps87
        go_wp2
        go_ret2
        exact ⟨by rw [HF.out]; rfl, Below.refl _ _⟩
      · have b2 := list_ne_beq c2
        by_cases c3 : s.data.toList = [45, 105, 110, 102]
        · have HF : Hid (scanL s.data.toList = (18442240474082181120, 0)) := by unfold Hid scanL; rw [if_neg (by rw [HSZ.out]; exact c0), if_neg (by rintro (h | h); exact c1 h; exact c2 h), if_pos c3]
          have b3 := list_eq_beq c3
          clear c1 c2 c3
          go_enter Tryz.func87, Tryz.ntmps87
          go_wp2
          go_ret2
          exact ⟨by rw [HF.out]; rfl, Below.refl _ _⟩
        · have b3 := list_ne_beq c3
          by_cases c4 : s.data.toList = [110, 97, 110]
          · have HF : Hid (scanL s.data.toList = (9221120237041090560, 0)) := by unfold Hid scanL; rw [if_neg (by rw [HSZ.out]; exact c0), if_neg (by rintro (h | h); exact c1 h; exact c2 h), if_neg c3, if_pos c4]
            have b4 := list_eq_beq c4
            clear c1 c2 c3 c4
            go_enter Tryz.func87, Tryz.ntmps87
            go_wp2
            go_ret2
            exact ⟨by rw [HF.out]; rfl, Below.refl _ _⟩
          · have b4 := list_ne_beq c4
            obtain ⟨m, sr, hsg⟩ : ∃ m sr, signL s.data.toList = (m, sr) := ⟨_, _, rfl⟩
            have HF : Hid (scanL s.data.toList = finL (decL sr) m) := by
              unfold Hid scanL
              rw [if_neg (by rw [HSZ.out]; exact c0), if_neg (by rintro (h | h); exact c1 h; exact c2 h), if_neg c3, if_neg c4, hsg]
            have hsl := signL_len s.data.toList
            rw [HSZ.out, hsg] at hsl
            have HSG : Hid (signL s.data.toList = (m, sr)) := hsg
            simp only at hsl
            clear c1 c2 c3 c4 hsg
            go_enter Tryz.func87, Tryz.ntmps87
            go_wp2_with fail
            refine (cutSign_any _ s (by omega)).mono ?_
            rintro e w1 ⟨r, rfl, hr, n1, rfl⟩
            rw [HSG.out] at hr ⊢
            have HR : Hid (r.data.toList = sr) := hr
            clear hr
            have hrs : r.size ≤ 60 := by rw [bytes_size HR.out]; omega
            go_wp2_with fail
            refine (scanDecimal_any _ r (by omega)).mono ?_
            rintro e w2 ⟨d, p, ok, rfl, hdk, b2'⟩
            rw [HR.out] at hdk
            simp only [World.heap_drewN] at b2'
            have bb2 : Below w.heap.size w w2 := (below_drewN (Below.refl _ _) n1).trans b2'
            have hsz2 := bb2.size
            cases hdl : decL sr with
            | none =>
              rw [hdl] at hdk
              have hok : ok = false := hdk
              subst hok
              have HF2 : Hid (scanL s.data.toList = (0, 1)) := by unfold Hid; rw [HF.out, hdl]; rfl
              clear HF hdl hdk
              go_wp2
              go_ret2
              exact ⟨by rw [HF2.out]; rfl, bb2.alloc hsz2 _⟩
            | some dq =>
              obtain ⟨ds, q⟩ := dq
              rw [hdl] at hdk
              obtain ⟨hok, hds, hpq⟩ : ok = true ∧ d.data.toList = ds ∧ p = q := hdk
              subst hok
              subst hpq
              obtain ⟨f1, f2, f3, f4, f5⟩ := decL_facts hdl
              have hdg : Digs d.data.toList := by rw [hds]; exact f1
              have hz : ∀ c r, d.data.toList = c :: r → c.toNat ≠ 48 := by rw [hds]; exact f3
              have hdsz : d.size ≤ 60 := by rw [bytes_size hds]; omega
              have HF2 : Hid (scanL s.data.toList = (decRnd (dval d.data.toList) p + (if m then 9223372036854775808 else 0), 0)) := by unfold Hid; rw [HF.out, hdl, hds]; rfl
              have HZ : Hid (∀ c r, d.data.toList = c :: r → c.toNat ≠ 48) := hz
              have hle := decRnd_le (dval d.data.toList) p
              clear HF hdl f1 f2 f3 hds hz
              go_wp2_with fail
              refine (round_any _ d p hdg hdsz HZ.out (by omega) (by omega)).mono ?_
              rintro e w3 ⟨rfl, b3⟩
              have bb3 : Below w.heap.size w w3 := (bb2.alloc hsz2 _).trans (b3.mono (by simp; omega))
              generalize decRnd (dval d.data.toList) p = N at *
              cases m with
              | true =>
                go_wp2
                go_ret2
                refine ⟨?_, bb3⟩
                rw [HF2.out]
                exact ret2 (or_sign hle) rfl
              | false =>
                go_wp2
                go_ret2
                refine ⟨?_, bb3⟩
                rw [HF2.out]
                exact ret2 (by simp) rfl

set_option maxHeartbeats 400000 in
theorem scan_any (w : World) (s : ByteArray) (hs : s.size ≤ maxLen) :
    Calls Tryz.prog 56 #[.string s] w fun e w' => e = .returned (.tuple #[.int .u64 ((scanL s.data.toList).1 : Int), .int .i64 ((scanL s.data.toList).2 : Int)]) ∧ Below w.heap.size w w' := by
  go_enter Tryz.func56, Tryz.ntmps56
  go_wp2_with fail
  refine (nscan_any _ s hs).mono ?_
  rintro e w1 ⟨rfl, b1⟩
  go_wp2
  go_ret2
  exact ⟨rfl, b1⟩

end Go.Proofs.YthdcceackfdbbaaGreatDoor
/- What the three texts of Ties are read as. Own text. -/
namespace Go.Proofs.YthdcceackfdbbaaGreatDoor

def zerosOne : List UInt8 := [48, 48, 48, 48, 48, 48, 48, 48, 48, 48, 48, 48, 48, 48, 48, 48, 48, 48, 48, 48, 48, 48, 48, 48, 48, 48, 48, 48, 48, 49]
def nines : List UInt8 := [57, 57, 57, 57, 57, 57, 57, 57, 57, 57, 57, 57, 57, 57, 57, 57, 57, 57, 57, 57, 57, 57, 57, 57, 57]
def pointOne : ByteArray := ⟨#[46, 48, 48, 48, 48, 48, 48, 48, 48, 48, 48, 48, 48, 48, 48, 48, 48, 48, 48, 48, 48, 48, 48, 48, 48, 48, 48, 48, 48, 48, 49]⟩
def pointNines : ByteArray := ⟨#[46, 57, 57, 57, 57, 57, 57, 57, 57, 57, 57, 57, 57, 57, 57, 57, 57, 57, 57, 57, 57, 57, 57, 57, 57, 57]⟩
theorem pointOne_list : pointOne.data.toList = 46 :: zerosOne := rfl
theorem pointNines_list : pointNines.data.toList = 46 :: nines := rfl
theorem pointOne_size : pointOne.size = 31 := rfl
theorem pointNines_size : pointNines.size = 26 := rfl
theorem zerosOne_digs : Digs zerosOne := by unfold Digs; decide
theorem nines_digs : Digs nines := by unfold Digs; decide
theorem zerosOne_val : dval zerosOne = 1 := by kernel_rfl
theorem nines_val : dval nines = 10 ^ 25 - 1 := by kernel_rfl

theorem ties_y {k : Nat} (hk : k < 4503599627370496) : scanL (Lib.decDigits (9007199254740992 + 2 * k + 1) ++ 46 :: zerosOne) = (4845873199050653696 + (k + 1), 0) := by
  have hlen1 : (Lib.decDigits (9007199254740992 + 2 * k + 1)).length ≤ 17 := dd_len (by omega) (by omega)
  have e : (46 :: zerosOne).length = 31 := rfl
  have e2 : zerosOne.length = 30 := rfl
  rw [scan_point zerosOne_digs (by rw [List.length_append]; omega), dval_append, (dd_all _).2.1, zerosOne_val, e2, tie_above (n := 30) hk rfl (by omega)]

theorem ties_z {k : Nat} (hk : k < 4503599627370496) : scanL (Lib.decDigits (9007199254740992 + 2 * k) ++ 46 :: nines) = (4845873199050653696 + k, 0) := by
  have hlen1 : (Lib.decDigits (9007199254740992 + 2 * k)).length ≤ 17 := dd_len (by omega) (by omega)
  have e : (46 :: nines).length = 26 := rfl
  have e2 : nines.length = 25 := rfl
  rw [scan_point nines_digs (by rw [List.length_append]; omega), dval_append, (dd_all _).2.1, nines_val, e2, tie_below (n := 25) hk rfl (by omega)]

theorem ties_x {k : Nat} (hk : k < 4503599627370496) : scanL (Lib.decDigits (9007199254740992 + 2 * k + 1)) = (4845873199050653696 + (if k % 2 = 1 then k + 1 else k), 0) := by
  have hlen1 : (Lib.decDigits (9007199254740992 + 2 * k + 1)).length ≤ 17 := dd_len (by omega) (by omega)
  rw [scan_whole (by omega), tie_mid hk]

end Go.Proofs.YthdcceackfdbbaaGreatDoor
/- Walk of Ties. Own text. -/
namespace Go.Proofs.YthdcceackfdbbaaGreatDoor
open Go.RowKit

theorem below_grow (w : World) (k : Nat) (os : Array Obj) : Below w.heap.size w (Sort.grow (w.drewN k) os) :=
  ⟨rfl, rfl, rfl, by simp [Sort.grow], fun i hi => by simp [Sort.grow, Array.getElem?_append_left hi]⟩

theorem gPow : Tryz.prog.globalNamed "internal/strconv.uint64pow10" = some 0 := by kernel_rfl

theorem tab_below {w w' : World} (h : Lib.TabIs Tryz.prog w "internal/strconv.uint64pow10" .u64 Lib.pow10Tab) (hb : Below w.heap.size w w') : Lib.TabIs Tryz.prog w' "internal/strconv.uint64pow10" .u64 Lib.pow10Tab := by
  have hc := h.cell gPow 0 (by rw [Lib.pow10Tab_length]; omega)
  exact var?_below hb gPow (World.block_lt_of_cell? w _ hc) h

theorem itoa_any (w : World) (n : Int) (u : Nat) (hn : n = (u : Int)) (hu : u < 9223372036854775808) (htab : Lib.TabIs Tryz.prog w "internal/strconv.uint64pow10" .u64 Lib.pow10Tab) :
    Calls Tryz.prog 146 #[.int .i64 n] w fun e w' => ∃ s : ByteArray, e = .returned (.string s) ∧ s.data.toList = Lib.decDigits u ∧ Below w.heap.size w w' := by
  subst hn
  refine (Tryz.strconv_Itoa (u : Int) (by omega) (by omega) w htab).mono ?_
  rintro e w' ⟨rfl, k, os, rfl⟩
  refine ⟨_, rfl, ?_, below_grow w k os⟩
  simp only [Lib.itoa]
  rw [if_neg (by omega)]
  simp

set_option maxHeartbeats 400000 in
theorem pick_any (w : World) (c n : Int) (h1 : -9223372036854775808 ≤ c) (h2 : c ≤ 9223372036854775807) (hn : 0 < n) (hn2 : n ≤ 9223372036854775807) :
    Calls Tryz.prog 16 #[.int .i64 c, .int .i64 n] w fun e w' => (∃ k : Nat, e = .returned (.int .i64 (k : Int)) ∧ (k : Int) < n) ∧ w' = w := by
  by_cases hc : c < 0
  · go_enter Tryz.func16, Tryz.ntmps16
    go_wp2
    go_ret
    have e1 : (c + 1).tmod n = -(-(c + 1) % n) := by
      rw [← Int.tmod_eq_emod_of_nonneg (by omega : 0 ≤ -(c + 1)), Int.neg_tmod, Int.neg_neg]
    have e2 := Int.emod_nonneg (-(c + 1)) (by omega : n ≠ 0)
    have e3 := Int.emod_lt_of_pos (-(c + 1)) hn
    exact ⟨⟨(-(c + 1) % n).toNat, ret_int (by rw [e1]; omega), by omega⟩, rfl⟩
  · go_enter Tryz.func16, Tryz.ntmps16
    go_wp2
    go_ret
    refine ⟨⟨(c % n).toNat, ret_int ?_, ?_⟩, rfl⟩
    · have := Int.emod_nonneg c (by omega : n ≠ 0); omega
    · have := Int.emod_nonneg c (by omega : n ≠ 0); have := Int.emod_lt_of_pos c hn; omega

end Go.Proofs.YthdcceackfdbbaaGreatDoor
/- Walk: strconv.FormatUint at base 10. Own text. -/
namespace Go.Proofs.YthdcceackfdbbaaGreatDoor
open Go.RowKit Go.Sort

def encU8 : UInt8 → Value := fun (b : UInt8) => Value.int .u8 (b.toNat : Int)

theorem holds_zero0 (w : World) (T : TypeId) (nd : Nat) (hs : nd ≤ 24) : Holds (fun (b : UInt8) => Value.int .u8 (b.toNat : Int)) (w.alloc (.cells Lib.zeros24 T)) w.heap.size 0 (Array.replicate nd (0 : UInt8)) := by
  intro j hj
  have hj' : j < nd := by simpa using hj
  refine ⟨?_, World.frozen?_alloc_new _ _ _ _⟩
  rw [World.cell?_alloc_new, Lib.zeros24_at _ (by omega), getElem!_pos _ j hj]
  simp

theorem below_fin (w : World) (o : Obj) (dk : Array UInt8) (k : Nat) : Below w.heap.size w ((putRow (fun (b : UInt8) => Value.int .u8 (b.toNat : Int)) (w.alloc o) w.heap.size 0 dk).drewN k) := by
  rw [alloc_eq_grow]
  obtain ⟨os', _, e⟩ := putRow_grow_new (fun (b : UInt8) => Value.int .u8 (b.toNat : Int)) w #[o] w.heap.size 0 dk (Nat.le_refl _)
  rw [e]
  refine below_drewN ?_ k
  have := below_grow w 0 os'
  rwa [World.drewN_zero] at this

set_option maxHeartbeats 3200000 in
set_option maxRecDepth 100000 in
theorem fmtu_in (w : World) (u : Nat) (hu1 : 1 ≤ u) (hu64 : u < 18446744073709551616) (htab : Lib.TabIs Tryz.prog w "internal/strconv.uint64pow10" .u64 Lib.pow10Tab) :
    Calls Tryz.prog 199 #[.int .u64 (u : Int), .int .i64 10] w fun e w' => ∃ s : ByteArray, e = .returned (.string s) ∧ s.data.toList = Lib.decDigits u ∧ Below w.heap.size w w' := by
  by_cases hs : u < 100
  · go_enter Tryz.func199, Tryz.ntmps199
    go_wp2_with fail
    refine (Tryz.internal_strconv_small u hs _).mono ?_
    rintro e w' ⟨rfl, rfl⟩
    go_wp2
    go_ret
    exact ⟨_, rfl, rfl, Below.refl _ _⟩
  · have hnd20 : Lib.nDigits u ≤ 20 := by have := Lib.numDigits_eq u hu1 hu64; split at this <;> omega
    have hal : Tryz.prog.arrayLen 280 = 24 := by simp [Program.arrayLen, Tryz.underlying280]
    have hsl : ∀ W, (Instr.sliceAt 280 (.pointer (some ⟨w.heap.size, 0, none⟩)) none (some (.int .i64 ((Lib.nDigits u : Nat) : Int))) none).run Tryz.prog W = .ok (.slice (some ⟨w.heap.size, 0, none⟩) (Lib.nDigits u) 24) W := fun W => by
      rw [run_sliceAt_array_h W 280 ⟨w.heap.size, 0, none⟩ (by simp [Program.arrayLen, Program.elem, Tryz.underlying280]) .i64 ((Lib.nDigits u : Nat) : Int) (by omega) (by rw [hal]; omega)]
      go_simp
      try omega
    have hH0 := holds_zero0 w 280 (Lib.nDigits u) (by omega)
    have hfmt := Tryz.internal_strconv_formatBase10 w.heap.size 0 24 u (Array.replicate (Lib.nDigits u) 0) (w.alloc (.cells Lib.zeros24 280)) hH0 (by rw [Array.size_replicate]; exact Lib.lt_pow_nDigits u) hu64 (by rw [Array.size_replicate]; omega)
    rw [Array.size_replicate] at hfmt
    have HH0 := Lib.hid hH0
    clear hH0 hal
    have HFMT := Lib.hid hfmt
    clear hfmt
    go_enter Tryz.func199, Tryz.ntmps199
    go_wp2_with fail
    refine (Tryz.internal_strconv_numDigits u hu1 hu64 _ (Lib.tabIs_alloc htab _)).mono ?_
    rintro e w' ⟨rfl, rfl⟩
    go_wp2_with fail
    refine HFMT.out.mono ?_
    rintro e w' ⟨rfl, k, v', dk, rfl, hF⟩
    have hcv : (convert 72 9 (.slice (some ⟨w.heap.size, 0, none⟩) (Lib.nDigits u) 24)).run Tryz.prog ((putRow (fun (b : UInt8) => Value.int .u8 (b.toNat : Int)) (w.alloc (.cells Lib.zeros24 280)) w.heap.size 0 dk).drewN k) = .ok (.string ⟨(Lib.decDigits u).toArray⟩) ((putRow (fun (b : UInt8) => Value.int .u8 (b.toNat : Int)) (w.alloc (.cells Lib.zeros24 280)) w.heap.size 0 dk).drewN k) := by
      have h := run_convert_bytes_back (P := Tryz.prog) ((putRow (fun (b : UInt8) => Value.int .u8 (b.toNat : Int)) (w.alloc (.cells Lib.zeros24 280)) w.heap.size 0 dk).drewN k) 72 9 5 ⟨w.heap.size, 0, none⟩ 24 (Lib.decDigits u) Tryz.underlying72 Tryz.underlying5 Tryz.underlying9 (fun j hj => by
        rw [Lib.row_is_numeral hF j hj, Lib.add_plain, World.cell?_drewN]
        exact cell?_putRow (fun (b : UInt8) => Value.int .u8 (b.toNat : Int)) _ w.heap.size 0 _ dk HH0.out (by rw [hF.size, Array.size_replicate]) j (by rw [hF.size]; rw [Lib.decDigits_length] at hj; exact hj))
      rw [Lib.decDigits_length] at h
      exact h
    go_wp2
    go_ret
    exact ⟨_, rfl, rfl, below_fin w _ dk k⟩

set_option maxHeartbeats 400000 in
theorem fmtu_any (w : World) (u : Nat) (hu1 : 1 ≤ u) (hu64 : u < 18446744073709551616) (htab : Lib.TabIs Tryz.prog w "internal/strconv.uint64pow10" .u64 Lib.pow10Tab) :
    Calls Tryz.prog 162 #[.int .u64 (u : Int), .int .i64 10] w fun e w' => ∃ s : ByteArray, e = .returned (.string s) ∧ s.data.toList = Lib.decDigits u ∧ Below w.heap.size w w' := by
  go_enter Tryz.func162, Tryz.ntmps162
  go_wp2_with fail
  refine (fmtu_in _ u hu1 hu64 htab).mono ?_
  rintro e w' ⟨s, rfl, h1, h2⟩
  go_wp2
  go_ret
  exact ⟨s, rfl, h1, h2⟩

theorem itoaI_any (w : World) (n : Int) (h0 : -9223372036854775808 ≤ n) (h1 : n ≤ 9223372036854775807) (htab : Lib.TabIs Tryz.prog w "internal/strconv.uint64pow10" .u64 Lib.pow10Tab) :
    Calls Tryz.prog 146 #[.int .i64 n] w fun e w' => ∃ s : ByteArray, e = .returned (.string s) ∧ s.data.toList = Lib.itoa n ∧ Below w.heap.size w w' := by
  refine (Tryz.strconv_Itoa n h0 h1 w htab).mono ?_
  rintro e w' ⟨rfl, k, os, rfl⟩
  exact ⟨_, rfl, rfl, below_grow w k os⟩

end Go.Proofs.YthdcceackfdbbaaGreatDoor
/- Walks: layOut, Print. Own text. -/
namespace Go.Proofs.YthdcceackfdbbaaGreatDoor
open Go.RowKit

def ptL (r : List UInt8) : List UInt8 := if 1 < r.length then r.take 1 ++ 46 :: r.drop 1 else r
def outL (d : Nat) (p : Int) : List UInt8 := ptL (Lib.trimRightB (Lib.decDigits d) 48) ++ 101 :: Lib.itoa (p + ((Lib.decDigits d).length : Int) - 1)

theorem trim_len (l : List UInt8) (c : UInt8) : (Lib.trimRightB l c).length ≤ l.length := by
  unfold Lib.trimRightB
  rw [List.length_reverse]
  have := (List.dropWhile_sublist (· == c) (l := l.reverse)).length_le
  simpa using this

theorem itoa_len {n : Int} (h0 : -100000 ≤ n) (h1 : n ≤ 100000) : (Lib.itoa n).length ≤ 7 := by
  unfold Lib.itoa
  have h : (Lib.decDigits n.natAbs).length ≤ 6 := dd_len (by omega) (by omega)
  have h' : (Lib.decDigits n.toNat).length ≤ 6 := dd_len (by omega) (by omega)
  split
  · simp; first | omega | (rw [show (-n).toNat = n.natAbs by omega]; omega)
  · omega

def dotB : ByteArray := ⟨#[46]⟩
def expB : ByteArray := ⟨#[101]⟩
theorem dotB_list : dotB.data.toList = [46] := rfl
theorem expB_list : expB.data.toList = [101] := rfl
theorem dotB_eq : (⟨#[46]⟩ : ByteArray) = dotB := rfl
theorem expB_eq : (⟨#[101]⟩ : ByteArray) = expB := rfl

theorem lay_dot {r : ByteArray} (h : 1 < r.size) : (r.extract 0 1 ++ dotB ++ r.extract 1 r.size).data.toList = ptL r.data.toList := by
  rw [bytes_append_list, bytes_append_list, extract_take, extract_drop, dotB_list]
  have : r.data.toList.length = r.size := by simp
  rw [ptL, if_pos (by omega)]
  simp

set_option maxRecDepth 20000 in
set_option maxHeartbeats 1600000 in
theorem layOut_any (w : World) (d : Nat) (p : Int) (hd1 : 1 ≤ d) (hd : d ≤ 100000000000000000) (hp1 : -20000 ≤ p) (hp2 : p ≤ 20000) (htab : Lib.TabIs Tryz.prog w "internal/strconv.uint64pow10" .u64 Lib.pow10Tab) :
    Calls Tryz.prog 130 #[.int .u64 (d : Int), .int .i64 p] w fun e w' => ∃ s : ByteArray, e = .returned (.string s) ∧ s.data.toList = outL d p ∧ Below w.heap.size w w' := by
  have HT : Hid (Lib.TabIs Tryz.prog w "internal/strconv.uint64pow10" .u64 Lib.pow10Tab) := htab
  clear htab
  have hlen : (Lib.decDigits d).length ≤ 18 := dd_len (by omega) (by omega)
  have HOUT : Hid (outL d p = ptL (Lib.trimRightB (Lib.decDigits d) 48) ++ 101 :: Lib.itoa (p + ((Lib.decDigits d).length : Int) - 1)) := rfl
  go_enter Tryz.func130, Tryz.ntmps130
  go_wp2_with fail
  refine (fmtu_any _ d hd1 (by omega) HT.out).mono ?_
  rintro e w1 ⟨t, rfl, ht, b1⟩
  have hts := bytes_size ht
  have hts2 : t.size ≤ 18 := by omega
  have HTT : Hid (t.data.toList = Lib.decDigits d) := ht
  have HTS : Hid (t.size = (Lib.decDigits d).length) := hts
  clear ht hts hlen
  go_wp2_with fail
  refine (Tryz.strings_TrimRight_one t 48 (by decide) _ (by omega)).mono ?_
  rintro e w2 ⟨rfl, rfl⟩
  obtain ⟨r, hr⟩ : ∃ r : ByteArray, (⟨(Lib.trimRightB t.data.toList 48).toArray⟩ : ByteArray) = r := ⟨_, rfl⟩
  have hrl : r.data.toList = Lib.trimRightB (Lib.decDigits d) 48 := by rw [← hr, ← HTT.out]
  have hrs : r.size ≤ 18 := by
    rw [bytes_size hrl]; exact Nat.le_trans (trim_len _ _) (by rw [← HTS.out]; exact hts2)
  rw [hr]
  have HRL : Hid (r.data.toList = Lib.trimRightB (Lib.decDigits d) 48) := hrl
  clear hr hrl
  have ht2 := tab_below HT.out b1
  have HT2 : Hid (Lib.TabIs Tryz.prog w2 "internal/strconv.uint64pow10" .u64 Lib.pow10Tab) := ht2
  clear ht2
  by_cases h1 : 1 < r.size
  · have hi1 : (1 : Int) ≤ (r.size : Int) := by omega
    go_wp2
    go_quiet (fail)
    go_wp2_with fail
    refine (itoaI_any _ (p + ((t.size : Int) - 1)) (by omega) (by omega) (tab_below HT2.out (below_drewN (Below.refl _ _) _))).mono ?_
    rintro e w3 ⟨q, rfl, hq, b3⟩
    have hqs : q.size ≤ 7 := by rw [bytes_size hq]; exact itoa_len (by omega) (by omega)
    have HQ := Hid.mk' hq
    clear hq
    go_wp2
    go_ret
    refine ⟨_, rfl, ?_, b1.trans ((below_drewN (Below.refl _ _) _).trans (b3.mono b1.size))⟩
    rw [bytes_append_list, bytes_append_list, dotB_eq, expB_eq, lay_dot h1, expB_list, HRL.out, HQ.out, HOUT.out, HTS.out, Int.add_sub_assoc]
    simp
  · go_wp2_with fail
    refine (itoaI_any _ (p + ((t.size : Int) - 1)) (by omega) (by omega) HT2.out).mono ?_
    rintro e w3 ⟨q, rfl, hq, b3⟩
    have hqs : q.size ≤ 7 := by rw [bytes_size hq]; exact itoa_len (by omega) (by omega)
    have HQ := Hid.mk' hq
    clear hq
    go_wp2
    go_ret
    refine ⟨_, rfl, ?_, b1.trans (b3.mono b1.size)⟩
    have hrl : r.data.toList.length = r.size := by simp
    rw [bytes_append_list, bytes_append_list, expB_eq, expB_list, HQ.out, HOUT.out, HTS.out, ← HRL.out, ptL, if_neg (by omega), Int.add_sub_assoc]
    simp

theorem pick_val {N B A D d : Nat} {ev : Bool} (h : pickO N B A D ev = some d) : d = N / D ∨ d = N / D + 1 := by
  have hn := nearS_le (N / D) (N % D) (D - N % D)
  unfold pickO at h
  split at h
  · simp at h; omega
  · split at h
    · simp at h; omega
    · split at h
      · simp at h; omega
      · simp at h

/-- What shortest answers, of a size. -/
def ShortAt (s d : Nat) (p : Int) : Prop := ∃ a b j : Nat, a ≤ 400 ∧ b ≤ 9400 ∧ j ≤ 16 ∧ p = (b : Int) - a - j ∧
  oneS s * 10 ^ b ≤ sizeS s * 10 ^ a ∧ sizeS s * 10 ^ a < 10 * (oneS s * 10 ^ b) ∧ Short (sizeS s * 10 ^ a) (belowS s * 10 ^ a) (aboveS s * 10 ^ a) (oneS s * 10 ^ b) (decide (s % 2 = 0)) j d

theorem ShortAt.bd {s d : Nat} {p : Int} (h : ShortAt s d p) : 1 ≤ d ∧ d ≤ 100000000000000000 ∧ -20000 ≤ p ∧ p ≤ 20000 := by
  obtain ⟨a, b, j, h1, h2, h3, rfl, h4, h5, h6, _⟩ := h
  have hv := pick_val h6
  have hD : 0 < oneS s * 10 ^ b := Nat.mul_pos (Nat.pos_of_ne_zero (one_ne s)) (ten_pow_pos b)
  generalize oneS s * 10 ^ b = D at *
  generalize sizeS s * 10 ^ a = S at *
  have ht := ten_le_16 h3
  have hp := ten_pow_pos j
  generalize 10 ^ j = T at *
  have q1 : 1 ≤ S * T / D := by
    rw [Nat.le_div_iff_mul_le hD]
    have := Nat.le_mul_of_pos_right S hp
    omega
  have q2 : S * T / D < 10 * T := by
    rw [Nat.div_lt_iff_lt_mul hD]
    have := Nat.mul_lt_mul_of_pos_right h5 hp
    rw [show 10 * T * D = 10 * D * T by rw [Nat.mul_right_comm]]
    exact this
  exact ⟨by omega, by omega, by omega, by omega⟩

def sgL (x : Nat) : List UInt8 := if 9223372036854775808 ≤ x then [45] else []

/-- What Print answers. -/
def PrintOk (x : Nat) (l : List UInt8) : Prop :=
  (9218868437227405312 < x % 9223372036854775808 ∧ l = [110, 97, 110]) ∨ (x % 9223372036854775808 = 9218868437227405312 ∧ l = sgL x ++ [105, 110, 102]) ∨
  (x % 9223372036854775808 = 0 ∧ l = sgL x ++ [48]) ∨
  (x % 9223372036854775808 ≠ 0 ∧ x % 9223372036854775808 < 9218868437227405312 ∧ ∃ d p, ShortAt (x % 9223372036854775808) d p ∧ l = sgL x ++ outL d p)

theorem andNot_sign {x : Nat} (h : x < 18446744073709551616) : bits BinOp.andNot IntKind.u64 (x : Int) 9223372036854775808 = ((x % 9223372036854775808 : Nat) : Int) := by
  rw [show (9223372036854775808 : Int) = ((9223372036854775808 : Nat) : Int) from rfl, u64_andNot_nat _ _ h (by omega)]
  congr 1
  exact Nat.and_two_pow_sub_one_eq_mod x 63

theorem and_sign {x : Nat} (h : x < 18446744073709551616) : bits BinOp.and IntKind.u64 (x : Int) 9223372036854775808 = ((if 9223372036854775808 ≤ x then 9223372036854775808 else 0 : Nat) : Int) := by
  rw [show (9223372036854775808 : Int) = ((9223372036854775808 : Nat) : Int) from rfl, u64_and_nat _ _ h (by omega)]
  congr 1
  have hb : x.testBit 63 = decide (9223372036854775808 ≤ x) := by
    rw [Nat.testBit_eq_decide_div_mod_eq]
    by_cases h1 : 9223372036854775808 ≤ x
    · rw [decide_eq_true h1, show x / 2 ^ 63 = 1 by omega]; rfl
    · rw [decide_eq_false h1, show x / 2 ^ 63 = 0 by omega]; rfl
  apply Nat.eq_of_testBit_eq
  intro i
  rw [Nat.testBit_and, show (9223372036854775808 : Nat) = 2 ^ 63 from rfl, Nat.testBit_two_pow]
  by_cases hi : 63 = i
  · subst hi
    rw [hb]
    split
    · rename_i h1; rw [Nat.testBit_two_pow, decide_eq_true h1]; rfl
    · rename_i h1; rw [Nat.zero_testBit, decide_eq_false h1]; rfl
  · rw [decide_eq_false hi, Bool.and_false]
    split
    · rw [Nat.testBit_two_pow, decide_eq_false hi]
    · rw [Nat.zero_testBit]

def sgB (x : Nat) : ByteArray := ⟨(sgL x).toArray⟩
theorem sgB_list (x : Nat) : (sgB x).data.toList = sgL x := rfl
theorem sgB_size (x : Nat) : (sgB x).size ≤ 1 := by rw [bytes_size (sgB_list x)]; unfold sgL; split <;> simp

end Go.Proofs.YthdcceackfdbbaaGreatDoor
