import Derived.Test.YthdcceackfdbbabGreatDoorM05P
import Derived.Test.YthdcceackfdbbabGreatDoorM02P
import Derived.Test.YthdcceackfdbbabGreatDoorM00P
import Derived.Deep.QuietTactic
/- Walks: scanDecimal. Own text. -/
namespace Go.Proofs.YthdcceackfdbbabGreatDoor
open Go.RowKit

theorem cutPoint_yes {l r : List UInt8} (h : l = 46 :: r) : Lib.hasPrefix l [46] = true ∧ Lib.trimPrefix l [46] = r := by
  subst h; simp [Lib.hasPrefix, Lib.trimPrefix]
theorem cutPoint_no {l : List UInt8} (h : ∀ r, l ≠ 46 :: r) : Lib.hasPrefix l [46] = false ∧ Lib.trimPrefix l [46] = l ∧ fracL l = ([], l) := by
  cases l with
  | nil => simp [Lib.hasPrefix, Lib.trimPrefix, fracL]
  | cons c r =>
    have : c ≠ 46 := fun e => h r (by rw [e])
    have h2 : [46].isPrefixOf (c :: r) = false := by
      simp only [List.isPrefixOf, Bool.and_true, beq_eq_false_iff_ne]
      exact fun e => this e.symm
    refine ⟨h2, ?_, ?_⟩
    · unfold Lib.trimPrefix Lib.hasPrefix; rw [h2]; rfl
    · simp [fracL, this]

/-- What scanDecimal answers. -/
def DecOk (o : Option (List UInt8 × Int)) (d : ByteArray) (p : Int) (ok : Bool) : Prop := match o with
  | some (ds, q) => ok = true ∧ d.data.toList = ds ∧ p = q
  | none => ok = false

theorem bytes_append_list (a b : ByteArray) : (a ++ b).data.toList = a.data.toList ++ b.data.toList := by simp

theorem powL_bd {l : List UInt8} {q : Int} (h : powL l = some q) : -10000 ≤ q ∧ q ≤ 10000 := by
  cases l with
  | nil => simp [powL] at h; omega
  | cons c r =>
    simp only [powL] at h
    split at h
    · split at h
      · cases h
      · have := smallW_le (digs_takeWhile (signL r).2)
        simp only [Option.some.injEq] at h
        subst h
        split <;> omega
    · cases h

set_option maxRecDepth 5000 in
set_option maxHeartbeats 1600000 in
theorem scanDecimal_any (w : World) (s : ByteArray) (hs : s.size ≤ 100) :
    Calls Tryz.prog 74 #[.string s] w fun e w' => ∃ (d : ByteArray) (p : Int) (ok : Bool), e = .returned (.tuple #[.agg #[.string d, .int .i64 p], .bool ok]) ∧
      DecOk (decL s.data.toList) d p ok ∧ Below w.heap.size w w' := by
  have hsz : s.data.toList.length = s.size := by simp
  have hl1 := takeWhile_len s.data.toList
  have hl2 := dropWhile_len s.data.toList
  generalize hA : s.data.toList.takeWhile isDig = A at *
  generalize hR : s.data.toList.dropWhile isDig = R at *
  have HDEC : Hid (decL s.data.toList = if A ++ (fracL R).1 = [] then none else (powL (fracL R).2).map fun p : Int => ((A ++ (fracL R).1).dropWhile (· == 48), p - (fracL R).1.length)) := by
    unfold Hid decL; rw [hA, hR]
  have HA : Hid (s.data.toList.takeWhile isDig = A) := hA
  have HR : Hid (s.data.toList.dropWhile isDig = R) := hR
  generalize hDL : decL s.data.toList = DL at *
  have hAl : A.length ≤ 100 := by omega
  have hRl : R.length ≤ 100 := by omega
  clear hA hR hsz hl1 hl2 hDL
  by_cases hpt : ∃ r, R = 46 :: r
  · obtain ⟨r, hr⟩ := hpt
    obtain ⟨q1, q2⟩ := cutPoint_yes hr
    have hrl : r.length ≤ 100 := by rw [hr] at hRl; simp at hRl; omega
    have hF : fracL R = (r.takeWhile isDig, r.dropWhile isDig) := by rw [hr]; simp [fracL]
    have Q1 : Hid (Lib.hasPrefix R [46] = true) := q1
    have Q2 : Hid (Lib.trimPrefix R [46] = r) := q2
    have hFl := takeWhile_len r
    have hRRl := dropWhile_len r
    have hd2 := HDEC.out
    rw [hF] at hd2
    simp only at hd2
    generalize hFe : r.takeWhile isDig = F at *
    generalize hRRe : r.dropWhile isDig = RR at *
    have HFE : Hid (r.takeWhile isDig = F) := hFe
    have HRRE : Hid (r.dropWhile isDig = RR) := hRRe
    have HDEC2 : Hid (DL = if A ++ F = [] then none else (powL RR).map fun p : Int => ((A ++ F).dropWhile (· == 48), p - F.length)) := hd2
    clear hr q1 q2 hF hd2 hFe hRRe HDEC
    go_enter Tryz.func74, Tryz.ntmps74
    go_wp2_with fail
    refine (cutDigits_any _ s (by omega)).mono ?_
    rintro e w1 ⟨wh, r1, rfl, hwh, hr1, n1, rfl⟩
    rw [HA.out] at hwh
    rw [HR.out] at hr1
    have HWH : Hid (wh.data.toList = A) := hwh
    have HR1 : Hid (r1.data.toList = R) := hr1
    clear hwh hr1
    go_wp2_with fail
    refine (Tryz.strings_CutPrefix r1 ⟨#[46]⟩ _).mono ?_
    rintro e w2 ⟨rfl, rfl⟩
    rw [show (⟨#[46]⟩ : ByteArray).data.toList = [46] from rfl, HR1.out, Q1.out, Q2.out]
    go_wp2_with fail
    refine (cutDigits_any _ ⟨r.toArray⟩ (by rw [bytes_size (l := r) rfl]; omega)).mono ?_
    rintro e w3 ⟨fr, r3, rfl, hfr, hr3, n3, rfl⟩
    have HFR : Hid (fr.data.toList = F) := hfr.trans HFE.out
    have HR3 : Hid (r3.data.toList = RR) := hr3.trans HRRE.out
    clear hfr hr3
    have hwhs : wh.size ≤ 100 := by rw [bytes_size HWH.out]; omega
    have hfrs : (fr).size ≤ 100 := by rw [bytes_size HFR.out]; omega
    have HAP : Hid ((wh ++ fr).data.toList = A ++ F) := by unfold Hid; rw [bytes_append_list, HWH.out, HFR.out]
    have HFS : Hid (((fr).size : Int) = (F.length : Int)) := by unfold Hid; rw [bytes_size HFR.out]
    have hr3s : (r3).size ≤ 1000 := by rw [bytes_size HR3.out]; omega
    by_cases e0 : A ++ F = []
    · have he : (wh ++ fr).toList.isEmpty = true := bytes_nil (HAP.out.trans e0)
      go_wp2_with fail
      refine bodyPost_ret (v := .tuple #[.agg #[.string ⟨#[]⟩, .int .i64 0], .bool false]) (by simp [results, Tryz.results74, go_sem]) rfl ⟨⟨#[]⟩, 0, false, rfl, ?_, ?_⟩
      · rw [HDEC2.out, if_pos e0]; rfl
      · exact ((below_drewN ((Below.refl _ _).alloc (Nat.le_refl _) _) _).setCell (Nat.le_refl _) _).setCell (Nat.le_refl _) _
    · have he : (wh ++ fr).toList.isEmpty = false := by rw [bytes_toList, HAP.out]; cases hh : A ++ F with | nil => exact absurd hh e0 | cons _ _ => rfl
      go_wp2_with fail
      refine (scanPower_any _ (r3) hr3s).mono ?_
      rintro e w4 ⟨rfl, n4, rfl⟩
      rw [HR3.out]
      cases hpw : powL RR with
      | none =>
        have hpv : powV RR = #[.int .i64 0, .bool false] := by unfold powV; rw [hpw]
        rw [hpv]
        clear hpv
        go_wp2_with fail
        refine (Tryz.strings_TrimLeft_one (wh ++ fr) 48 (by decide) _).mono ?_
        rintro e w5 ⟨rfl, rfl⟩
        go_wp2_with fail
        refine bodyPost_ret (v := .tuple #[.agg #[.string ⟨(Lib.trimLeftB (wh ++ fr).data.toList 48).toArray⟩, .int .i64 (-((fr).size : Int))], .bool false]) (by simp [results, Tryz.results74, go_sem]) rfl ⟨_, _, false, rfl, ?_, ?_⟩
        · rw [HDEC2.out, if_neg e0, hpw]; rfl
        · exact ((below_drewN ((Below.refl _ _).alloc (Nat.le_refl _) _) _).setCell (Nat.le_refl _) _).setCell (Nat.le_refl _) _
      | some q =>
        have hpv : powV RR = #[.int .i64 q, .bool true] := by unfold powV; rw [hpw]
        have hqb := powL_bd hpw
        rw [hpv]
        clear hpv
        go_wp2_with fail
        refine (Tryz.strings_TrimLeft_one (wh ++ fr) 48 (by decide) _).mono ?_
        rintro e w5 ⟨rfl, rfl⟩
        go_wp2_with fail
        refine bodyPost_ret (v := .tuple #[.agg #[.string ⟨(Lib.trimLeftB (wh ++ fr).data.toList 48).toArray⟩, .int .i64 (q - ((fr).size : Int))], .bool true]) (by simp [results, Tryz.results74, go_sem]) rfl ⟨_, _, true, rfl, ?_, ?_⟩
        · rw [HDEC2.out, if_neg e0, hpw]
          refine ⟨rfl, ?_, ?_⟩
          · simp only [Lib.trimLeftB]; rw [HAP.out]
          · rw [HFS.out]
        · exact ((below_drewN ((Below.refl _ _).alloc (Nat.le_refl _) _) _).setCell (Nat.le_refl _) _).setCell (Nat.le_refl _) _
  · obtain ⟨q1, q2, q3⟩ := cutPoint_no (fun r hr => hpt ⟨r, hr⟩)
    have Q1 : Hid (Lib.hasPrefix R [46] = false) := q1
    have Q2 : Hid (Lib.trimPrefix R [46] = R) := q2
    have hd2 := HDEC.out
    rw [q3] at hd2
    simp only at hd2
    obtain ⟨F, hF⟩ : ∃ F : List UInt8, F = [] := ⟨_, rfl⟩
    obtain ⟨RR, hRR⟩ : ∃ RR : List UInt8, RR = R := ⟨_, rfl⟩
    have HDEC2 : Hid (DL = if A ++ F = [] then none else (powL RR).map fun p : Int => ((A ++ F).dropWhile (· == 48), p - F.length)) := by
      unfold Hid; rw [hF, hRR]; exact hd2
    have hFl : F.length ≤ 100 := by rw [hF]; simp
    have hRRl : RR.length ≤ 100 := by rw [hRR]; exact hRl
    have HFR : Hid ((⟨#[]⟩ : ByteArray).data.toList = F) := by unfold Hid; rw [hF]
    have HRR : Hid (RR = R) := hRR
    clear q1 q2 q3 hd2 HDEC hF hRR hpt
    go_enter Tryz.func74, Tryz.ntmps74
    go_wp2_with fail
    refine (cutDigits_any _ s (by omega)).mono ?_
    rintro e w1 ⟨wh, r1, rfl, hwh, hr1, n1, rfl⟩
    rw [HA.out] at hwh
    rw [HR.out] at hr1
    have HWH : Hid (wh.data.toList = A) := hwh
    have HR1 : Hid (r1.data.toList = R) := hr1
    have HR3 : Hid (r1.data.toList = RR) := by unfold Hid; rw [hr1, HRR.out]
    clear hwh hr1
    go_wp2_with fail
    refine (Tryz.strings_CutPrefix r1 ⟨#[46]⟩ _).mono ?_
    rintro e w2 ⟨rfl, rfl⟩
    rw [show (⟨#[46]⟩ : ByteArray).data.toList = [46] from rfl, HR1.out, Q1.out, Q2.out]
    have hwhs : wh.size ≤ 100 := by rw [bytes_size HWH.out]; omega
    have hfrs : ((⟨#[]⟩ : ByteArray)).size ≤ 100 := by rw [bytes_size HFR.out]; omega
    have HAP : Hid ((wh ++ (⟨#[]⟩ : ByteArray)).data.toList = A ++ F) := by unfold Hid; rw [bytes_append_list, HWH.out, HFR.out]
    have HFS : Hid ((((⟨#[]⟩ : ByteArray)).size : Int) = (F.length : Int)) := by unfold Hid; rw [bytes_size HFR.out]
    have hr3s : (r1).size ≤ 1000 := by rw [bytes_size HR3.out]; omega
    by_cases e0 : A ++ F = []
    · have he : (wh ++ (⟨#[]⟩ : ByteArray)).toList.isEmpty = true := bytes_nil (HAP.out.trans e0)
      go_wp2_with fail
      refine bodyPost_ret (v := .tuple #[.agg #[.string ⟨#[]⟩, .int .i64 0], .bool false]) (by simp [results, Tryz.results74, go_sem]) rfl ⟨⟨#[]⟩, 0, false, rfl, ?_, ?_⟩
      · rw [HDEC2.out, if_pos e0]; rfl
      · exact ((below_drewN ((Below.refl _ _).alloc (Nat.le_refl _) _) _).setCell (Nat.le_refl _) _).setCell (Nat.le_refl _) _
    · have he : (wh ++ (⟨#[]⟩ : ByteArray)).toList.isEmpty = false := by rw [bytes_toList, HAP.out]; cases hh : A ++ F with | nil => exact absurd hh e0 | cons _ _ => rfl
      go_wp2_with fail
      refine (scanPower_any _ (r1) hr3s).mono ?_
      rintro e w4 ⟨rfl, n4, rfl⟩
      rw [HR3.out]
      cases hpw : powL RR with
      | none =>
        have hpv : powV RR = #[.int .i64 0, .bool false] := by unfold powV; rw [hpw]
        rw [hpv]
        clear hpv
        go_wp2_with fail
        refine (Tryz.strings_TrimLeft_one (wh ++ (⟨#[]⟩ : ByteArray)) 48 (by decide) _).mono ?_
        rintro e w5 ⟨rfl, rfl⟩
        go_wp2_with fail
        refine bodyPost_ret (v := .tuple #[.agg #[.string ⟨(Lib.trimLeftB (wh ++ (⟨#[]⟩ : ByteArray)).data.toList 48).toArray⟩, .int .i64 (-(((⟨#[]⟩ : ByteArray)).size : Int))], .bool false]) (by simp [results, Tryz.results74, go_sem]) rfl ⟨_, _, false, rfl, ?_, ?_⟩
        · rw [HDEC2.out, if_neg e0, hpw]; rfl
        · exact ((below_drewN ((Below.refl _ _).alloc (Nat.le_refl _) _) _).setCell (Nat.le_refl _) _).setCell (Nat.le_refl _) _
      | some q =>
        have hpv : powV RR = #[.int .i64 q, .bool true] := by unfold powV; rw [hpw]
        have hqb := powL_bd hpw
        rw [hpv]
        clear hpv
        go_wp2_with fail
        refine (Tryz.strings_TrimLeft_one (wh ++ (⟨#[]⟩ : ByteArray)) 48 (by decide) _).mono ?_
        rintro e w5 ⟨rfl, rfl⟩
        go_wp2_with fail
        refine bodyPost_ret (v := .tuple #[.agg #[.string ⟨(Lib.trimLeftB (wh ++ (⟨#[]⟩ : ByteArray)).data.toList 48).toArray⟩, .int .i64 (q - (((⟨#[]⟩ : ByteArray)).size : Int))], .bool true]) (by simp [results, Tryz.results74, go_sem]) rfl ⟨_, _, true, rfl, ?_, ?_⟩
        · rw [HDEC2.out, if_neg e0, hpw]
          refine ⟨rfl, ?_, ?_⟩
          · simp only [Lib.trimLeftB]; rw [HAP.out]
          · rw [HFS.out]
        · exact ((below_drewN ((Below.refl _ _).alloc (Nat.le_refl _) _) _).setCell (Nat.le_refl _) _).setCell (Nat.le_refl _) _

end Go.Proofs.YthdcceackfdbbabGreatDoor
/- Own text: the reader of texts: words of digits. -/
namespace Go.Proofs.YthdcceackfdbbabGreatDoor
open Go Go.RowKit

/-- the number that a word of digits tells -/
def wholeL (l : List UInt8) : Option Nat := if l.length ≤ 9 ∧ l.all isDig = true then some (dval l) else none

def tupN : Option Nat → Ending
  | some n => .returned (.tuple #[.int .i64 (n : Int), .bool true])
  | none => .returned (.tuple #[.int .i64 0, .bool false])

theorem dval_lt9 {l : List UInt8} (h : Digs l) (hl : l.length ≤ 9) : dval l < 1000000000 := by
  have h2 := dval_lt h
  have h3 : 10 ^ l.length ≤ 10 ^ 9 := Nat.pow_le_pow_right (by omega) hl
  have h4 : (10 : Nat) ^ 9 = 1000000000 := by decide
  omega

theorem wholeL_none {l : List UInt8} {k : Nat} {c : UInt8} (h : l[k]? = some c) (hc : isDig c = false) : wholeL l = none := by
  unfold wholeL
  rw [if_neg]
  rintro ⟨_, ha⟩
  have := List.all_eq_true.1 ha c (List.mem_of_getElem? h)
  rw [hc] at this; cases this

set_option maxRecDepth 20000 in
set_option maxHeartbeats 1000000 in
theorem mwhole_any (w : World) (s : ByteArray) (hs : s.size ≤ 1000000) : Calls Tryz.prog 58 #[.string s] w fun e w' => e = tupN (wholeL s.data.toList) ∧ w' = w := by
  have hl : s.data.toList.length = s.size := (bytes_size rfl).symm
  have HL := hid hl
  clear hl
  by_cases h9 : 9 < s.size
  · have hn : wholeL s.data.toList = none := by unfold wholeL; rw [if_neg (by rw [HL.out]; omega)]
    rw [hn]
    have h9' : (9 : Int) < (s.size : Int) := by omega
    go_enter Tryz.func58, Tryz.ntmps58
    go_wp2
    go_ret2
    exact ⟨rfl, rfl⟩
  · have h9' : ¬ (9 : Int) < (s.size : Int) := by omega
    obtain ⟨r, hr⟩ : ∃ r, wholeL s.data.toList = r := ⟨_, rfl⟩
    have HR := hid hr
    rw [hr]
    clear hr
    go_enter Tryz.func58, Tryz.ntmps58
    go_wp2
    go_loop [4, 11] (fun v i => ∃ k n : Nat, k ≤ s.size ∧ i = .int .i64 (k : Int) ∧ v = .int .i64 (n : Int) ∧ n < 1000000000 ∧ Hid (n = dval (s.data.toList.take k)) ∧ Hid (Digs (s.data.toList.take k))) (fun _ i => s.size - (intOf i).toNat)
    case atStart => exact ⟨0, 0, Nat.zero_le _, rfl, rfl, by omega, by rw [List.take_zero]; rfl, by rw [List.take_zero]; exact fun c h => by cases h⟩
    case round =>
      obtain ⟨k, n, hk, rfl, rfl, hn, HN, HD⟩ := hrel
      by_cases hlt : k < s.size
      · have hlt' : (k : Int) < s.size := by omega
        have hg : s.data.toList[k]? = some s[k] := take_get hlt
        have hb8 := s[k].toNat_lt
        by_cases hd : isDig s[k] = true
        · have hbd := isDig_bd hd
          have hd2 : Digs (s.data.toList.take (k + 1)) := by
            rw [take_snoc_get hg]
            intro c hc
            rcases List.mem_append.1 hc with h | h
            · exact HD.out c h
            · simp at h; subst h; exact hd
          have hlt9 : dval (s.data.toList.take (k + 1)) < 1000000000 := dval_lt9 hd2 (by rw [List.length_take]; omega)
          have he : dval (s.data.toList.take (k + 1)) = n * 10 + (s[k].toNat - 48) := by rw [take_snoc_get hg, dval_snoc, HN.out]
          rw [he] at hlt9
          have HE := hid he
          have HD2 := hid hd2
          clear he hd2 hg hd
          have h48 : ¬ ((s[k].toNat : Int) < 48) := by omega
          have h57 : ¬ ((57 : Int) < (s[k].toNat : Int)) := by omega
          go_wp2
          go_round
          case rel => exact ⟨k + 1, n * 10 + (s[k].toNat - 48), by omega, by simp, by go_num, hlt9, HE.out.symm, HD2⟩
          case measure => simp [intOf]; omega
        · have hdf : isDig s[k] = false := by simpa using hd
          have hrn : r = none := by rw [← HR.out]; exact wholeL_none hg hdf
          subst hrn
          have hnd : s[k].toNat < 48 ∨ 57 < s[k].toNat := by
            unfold isDig at hdf
            simp at hdf
            omega
          clear hdf hd hg HR
          rcases hnd with h | h
          · have h' : (s[k].toNat : Int) < 48 := by omega
            go_wp2
            go_ret2
            exact ⟨rfl, rfl⟩
          · have h' : ¬ (s[k].toNat : Int) < 48 := by omega
            have h2 : (57 : Int) < (s[k].toNat : Int) := by omega
            go_wp2
            go_ret2
            exact ⟨rfl, rfl⟩
      · have hlt' : ¬ (k : Int) < s.size := by omega
        have hrs : r = some n := by
          rw [← HR.out]
          have hD := HD.out
          have hN := HN.out
          rw [List.take_of_length_le (by rw [HL.out]; omega)] at hD hN
          unfold wholeL
          rw [if_pos ⟨by rw [HL.out]; omega, List.all_eq_true.2 hD⟩, hN]
        subst hrs
        clear HR
        go_wp2
        go_ret2
        exact ⟨rfl, rfl⟩

/-- the numbers that words of digits tell -/
def wholesL : List (List UInt8) → Option (List Nat)
  | [] => some []
  | x :: r => match wholeL x, wholesL r with
    | some n, some l => some (n :: l)
    | _, _ => none

end Go.Proofs.YthdcceackfdbbabGreatDoor
/- Own text: the reader of texts: wholes. -/
namespace Go.Proofs.YthdcceackfdbbabGreatDoor
open Go Go.RowKit

/-- a row of words -/
def StrsAt (w : World) (ao : Option Addr) (ws : List ByteArray) : Prop := ∀ (k : Nat) (x : ByteArray), ws[k]? = some x → ∃ g off : Nat, ao = some ⟨g, off, none⟩ ∧ g < w.heap.size ∧ w.cell? ⟨g, off + k, none⟩ = some (.string x)

theorem StrsAt.below {w w' : World} {ao : Option Addr} {ws : List ByteArray} (h : StrsAt w ao ws) (b : Below w.heap.size w w') : StrsAt w' ao ws := fun k x hk => by
  obtain ⟨g, off, h2, h3, h4⟩ := h k x hk
  exact ⟨g, off, h2, Nat.lt_of_lt_of_le h3 b.size, (b.cell (p := ⟨g, off + k, none⟩) h3).trans h4⟩

def intL (l : List Nat) : List Value := l.map fun (n : Nat) => .int .i64 (n : Int)

theorem wholesL_snoc {a : List (List UInt8)} {x : List UInt8} : wholesL (a ++ [x]) = match wholesL a, wholeL x with | some l, some n => some (l ++ [n]) | _, _ => none := by
  induction a with
  | nil => simp only [List.nil_append, wholesL]; cases wholeL x <;> rfl
  | cons y r ih =>
    simp only [List.cons_append, wholesL, ih]
    cases wholeL y <;> cases wholesL r <;> cases wholeL x <;> rfl

theorem wholesL_bad {a : List (List UInt8)} {k : Nat} {x : List UInt8} (h : a[k]? = some x) (hx : wholeL x = none) : wholesL a = none := by
  induction a generalizing k with
  | nil => simp at h
  | cons y r ih =>
    cases k with
    | zero => simp at h; subst h; simp only [wholesL, hx]
    | succ k => simp at h; simp only [wholesL, ih h]; cases wholeL y <;> rfl

theorem Tryz.infoInt : (Tryz.prog.info? 3).map (fun i => (i.zero, i.size, i.bytes)) = some (some (.int .i64 0), 1, 8) := by kernel_rfl

def WholesR (B : Nat) (r : Option (List Nat)) (e : Ending) (w' : World) : Prop :=
  (r = none ∧ e = .returned (.tuple #[.slice none 0 0, .bool false])) ∨ ∃ l v, r = some l ∧ e = .returned (.tuple #[v, .bool true]) ∧ w'.ownsRow B 3 1 v l.length (intL l)

set_option maxRecDepth 20000 in
set_option maxHeartbeats 1000000 in
theorem wholes_any (w : World) (ao : Option Addr) (n cap : Nat) (ws : List ByteArray) (hn : ws.length = n) (hn1 : n ≤ 1000000) (hsz : ∀ x ∈ ws, x.size ≤ 1000000) (hws : StrsAt w ao ws) :
    Calls Tryz.prog 48 #[.slice ao n cap] w fun e w' => WholesR w.heap.size (wholesL (ws.map (·.data.toList))) e w' ∧ Below w.heap.size w w' := by
  obtain ⟨b, hb⟩ : ∃ b, w.heap.size = b := ⟨_, rfl⟩
  obtain ⟨i0, hi, hz0, hz1, hz2⟩ := info_parts Tryz.infoInt
  have HI := hid hi
  have HWS := hid hws
  have HSZ := hid hsz
  clear hi hws hsz
  rw [hb]
  go_enter Tryz.func48, Tryz.ntmps48
  go_wp2
  go_loopw [4, 11] (fun v i wr => ∃ (k : Nat) (l : List Nat), k ≤ n ∧ i = .int .i64 (k : Int) ∧ Hid (wholesL ((ws.take k).map (·.data.toList)) = some l) ∧ l.length = k ∧ Hid (wr.ownsRow b 3 1 v k (intL l)) ∧ Hid (Below b w wr)) (fun _ i _ => n - (intOf i).toNat)
  case atStart => exact ⟨0, [], Nat.zero_le _, rfl, by rw [List.take_zero]; rfl, rfl, World.ownsRow_nil _ _ _ _, by rw [← hb]; exact Below.refl _ _⟩
  case round =>
    obtain ⟨k, l, hk, rfl, HL, hlk, HO, HB⟩ := hrel
    by_cases hlt : k < n
    · have hlt' : (k : Int) < n := by omega
      obtain ⟨x, hx⟩ : ∃ x, ws[k]? = some x := ⟨ws[k]'(by omega), by simp⟩
      obtain ⟨g, off, rfl, hg, hc⟩ := HWS.out k x hx
      have hc1 : wr.cell? ⟨g, off + k, none⟩ = some (.string x) := (HB.out.cell (p := ⟨g, off + k, none⟩) (by show g < b; omega)).trans hc
      have hxs := HSZ.out x (List.mem_of_getElem? hx)
      have HW := hid (mwhole_any wr x hxs)
      have HX := hid hx
      have HST : Hid (wholesL ((ws.take (k + 1)).map (·.data.toList)) = match wholeL x.data.toList with | some m => some (l ++ [m]) | none => none) := by
        show _ = _
        rw [take_snoc_get hx, List.map_append, List.map_singleton, wholesL_snoc, HL.out]
        cases wholeL x.data.toList <;> rfl
      clear hc hx
      cases hwl : wholeL x.data.toList with
      | none =>
        rw [hwl] at HW
        have HBAD : Hid (wholesL (ws.map (·.data.toList)) = none) := wholesL_bad (k := k) (by rw [List.getElem?_map, HX.out]; rfl) hwl
        clear hwl HST
        unfold tupN at HW
        go_wp2_with fail
        refine HW.out.mono ?_
        rintro e w1 ⟨rfl, hw1⟩
        rw [hw1]
        clear hw1 HW
        go_wp2
        go_ret2
        exact ⟨.inl ⟨HBAD.out, rfl⟩, HB.out⟩
      | some m =>
        rw [hwl] at HW HST
        clear hwl
        unfold tupN at HW
        have hs := HB.out.size
        go_wp2_with fail
        refine HW.out.mono ?_
        rintro e w1 ⟨rfl, hw1⟩
        rw [hw1]
        clear hw1 HW
        go_wp2_with (at_builtin; refine wpList_append_own _ rfl _ _ 97 rfl b 3 i0 (.int .i64 0) 1 8 Tryz.underlying97 HI.out hz0 hz1 hz2 rfl (by decide) _ _ _ rfl (HO.out.alloc _) ⟨wr.heap.size, 0, none⟩ 1 1 [.int .i64 (m : Int)] rfl rfl ?c1 ?c2 ?c3 ?c4 ?c5 ?_)
        case c1 => exact cell_one_new _ _ _
        case c2 => intro u hu; simp at hu; subst hu; rfl
        case c3 => unfold maxLen; omega
        case c4 => omega
        case c5 => simp; omega
        · intro v' w2 hown' hgrow _
          have b2 : Below b wr w2 := ((Below.refl _ wr).alloc (by omega) _).grown hgrow (by simp; omega) (fun q hq => (HO.out.lt q hq).1)
          have HB2 := hid (HB.out.trans b2)
          have HO2 : Hid (w2.ownsRow b 3 1 v' (k + 1) (intL (l ++ [m]))) := by
            show World.ownsRow _ _ _ _ _ _ _
            rw [show intL (l ++ [m]) = intL l ++ [.int .i64 (m : Int)] by simp [intL]]; exact hown'
          clear b2 hown' hgrow
          go_wp2
          go_round
          case rel => exact ⟨k + 1, l ++ [m], by omega, by simp, HST, by simp [hlk], HO2, HB2⟩
          case measure => simp [intOf]; omega
    · have hlt' : ¬ (k : Int) < n := by omega
      obtain rfl : k = n := by omega
      go_wp2
      go_ret2
      refine ⟨.inr ⟨l, _, ?_, rfl, by rw [hlk]; exact HO.out⟩, HB.out⟩
      have := HL.out
      rw [List.take_of_length_le (by omega)] at this
      exact this

end Go.Proofs.YthdcceackfdbbabGreatDoor
namespace Go.Proofs.YthdcceackfdbbabGreatDoor
open Go Go.RowKit

theorem isPlace_b (w : World) (k n : Int) (b : Bool) (hb : decide (0 ≤ k ∧ k < n) = b) : Calls Tryz.prog 27 #[.int .i64 k, .int .i64 n] w fun e w' => e = .returned (.bool b) ∧ w' = w := by
  rw [← hb]; exact isPlace_any w k n

theorem leaves_b (w : World) (k s : Int) (b : Bool) (hb : decide (1 < k ∧ (s ≤ -100000 ∨ 100000 ≤ s)) = b) : Calls Tryz.prog 28 #[.int .i64 k, .int .i64 s] w fun e w' => e = .returned (.bool b) ∧ w' = w := by
  rw [← hb]; exact leaves_any w k s

theorem prod_small {i : Nat} {s : Int} (hi : i ≤ 40) (h : i = 0 ∨ (-100000 < s ∧ s < 100000)) : -1000000000 ≤ (i : Int) * s ∧ (i : Int) * s ≤ 1000000000 := by
  rcases h with rfl | ⟨h1, h2⟩
  · simp
  · have b := between s hi
    constructor <;> · simp at b; omega

set_option maxHeartbeats 1000000 in
theorem inside_any (w : World) (R C : Nat) (off rs cs : Int) (n : Nat) (hR : 1 ≤ R ∧ R ≤ 40) (hC : 1 ≤ C ∧ C ≤ 40) (hn : n ≤ 100000) :
    Calls Tryz.prog 19 #[viewV R C off rs cs, .int .i64 (n : Int)] w fun e w' => (∃ b, e = .returned (.bool b) ∧ (b = true ↔ Corner R C off rs cs n) ∧ (b = true → (R = 1 ∨ (-100000 < rs ∧ rs < 100000)) ∧ (C = 1 ∨ (-100000 < cs ∧ cs < 100000)))) ∧ Below w.heap.size w w' := by
  by_cases c0 : ¬ (0 ≤ off ∧ off < n)
  · have e0 : decide (0 ≤ off ∧ off < (n : Int)) = false := by simp only [decide_eq_false_iff_not]; exact c0
    have HN : Hid (¬ Corner R C off rs cs n) := fun h => c0 h.1
    unfold viewV
    clear c0
    go_enter Tryz.func19, Tryz.ntmps19
    go_wp2_with fail
    refine (isPlace_b _ _ _ false e0).mono ?_
    rintro e w1 ⟨rfl, rfl⟩
    clear e0
    go_wp2
    go_ret
    exact ⟨⟨_, rfl, ⟨fun h => (by cases h), fun h => absurd h HN.out⟩, fun h => (by cases h)⟩, (Below.refl _ _).alloc (Nat.le_refl _) _⟩
  replace c0 := Decidable.not_not.1 c0
  have e0 : decide (0 ≤ off ∧ off < (n : Int)) = true := by simp only [decide_eq_true_eq]; exact c0
  by_cases c1 : 1 < (R : Int) ∧ (rs ≤ -100000 ∨ 100000 ≤ rs)
  · have e1 : decide (1 < (R : Int) ∧ (rs ≤ -100000 ∨ 100000 ≤ rs)) = true := by simp only [decide_eq_true_eq]; exact c1
    have HN : Hid (¬ Corner R C off rs cs n) := fun h => by
      have := (corner_iff (by omega) (by omega)).1 h 1 0 (by omega) (by omega)
      simp at this; omega
    unfold viewV
    clear c0 c1
    go_enter Tryz.func19, Tryz.ntmps19
    go_wp2_with fail
    refine (isPlace_b _ _ _ true e0).mono ?_
    rintro e w1 ⟨rfl, rfl⟩
    clear e0
    go_wp2_with fail
    refine (leaves_b _ _ _ true e1).mono ?_
    rintro e w1 ⟨rfl, rfl⟩
    clear e1
    go_wp2
    go_ret
    exact ⟨⟨_, rfl, ⟨fun h => (by cases h), fun h => absurd h HN.out⟩, fun h => (by cases h)⟩, (Below.refl _ _).alloc (Nat.le_refl _) _⟩
  have e1 : decide (1 < (R : Int) ∧ (rs ≤ -100000 ∨ 100000 ≤ rs)) = false := by simp only [decide_eq_false_iff_not]; exact c1
  by_cases c2 : 1 < (C : Int) ∧ (cs ≤ -100000 ∨ 100000 ≤ cs)
  · have e2 : decide (1 < (C : Int) ∧ (cs ≤ -100000 ∨ 100000 ≤ cs)) = true := by simp only [decide_eq_true_eq]; exact c2
    have HN : Hid (¬ Corner R C off rs cs n) := fun h => by
      have := (corner_iff (by omega) (by omega)).1 h 0 1 (by omega) (by omega)
      simp at this; omega
    unfold viewV
    clear c0 c1 c2
    go_enter Tryz.func19, Tryz.ntmps19
    go_wp2_with fail
    refine (isPlace_b _ _ _ true e0).mono ?_
    rintro e w1 ⟨rfl, rfl⟩
    clear e0
    go_wp2_with fail
    refine (leaves_b _ _ _ false e1).mono ?_
    rintro e w1 ⟨rfl, rfl⟩
    clear e1
    go_wp2_with fail
    refine (leaves_b _ _ _ true e2).mono ?_
    rintro e w1 ⟨rfl, rfl⟩
    clear e2
    go_wp2
    go_ret
    exact ⟨⟨_, rfl, ⟨fun h => (by cases h), fun h => absurd h HN.out⟩, fun h => (by cases h)⟩, (Below.refl _ _).alloc (Nat.le_refl _) _⟩
  have e2 : decide (1 < (C : Int) ∧ (cs ≤ -100000 ∨ 100000 ≤ cs)) = false := by simp only [decide_eq_false_iff_not]; exact c2
  have HS : Hid ((R = 1 ∨ (-100000 < rs ∧ rs < 100000)) ∧ (C = 1 ∨ (-100000 < cs ∧ cs < 100000))) := ⟨by omega, by omega⟩
  have p1 : Hid _ := prod_small (i := R - 1) (s := rs) (by omega) (by omega)
  have p2 : Hid _ := prod_small (i := C - 1) (s := cs) (by omega) (by omega)
  have HC : Hid (Corner R C off rs cs n ↔ ((0 ≤ off + ((R - 1 : Nat) : Int) * rs ∧ off + ((R - 1 : Nat) : Int) * rs < n) ∧ (0 ≤ off + ((C - 1 : Nat) : Int) * cs ∧ off + ((C - 1 : Nat) : Int) * cs < n) ∧
    (0 ≤ off + ((R - 1 : Nat) : Int) * rs + ((C - 1 : Nat) : Int) * cs ∧ off + ((R - 1 : Nat) : Int) * rs + ((C - 1 : Nat) : Int) * cs < n))) := by
    show _ ↔ _
    unfold Corner; simp [c0]
  have HO : Hid (-4611686018427387904 ≤ off ∧ off ≤ 4611686018427387903) := ⟨by omega, by omega⟩
  have hr1 : (R : Int) - 1 = ((R - 1 : Nat) : Int) := by omega
  have hr2 : (C : Int) - 1 = ((C - 1 : Nat) : Int) := by omega
  clear c0 c1 c2
  have hq : Tryz.prog.follows .mixedOrders = true := by kernel_rfl
  unfold viewV
  go_enter Tryz.func19, Tryz.ntmps19
  go_wp2_with fail
  refine (isPlace_b _ _ _ true e0).mono ?_
  rintro e w1 ⟨rfl, rfl⟩
  clear e0
  go_wp2_with fail
  refine (leaves_b _ _ _ false e1).mono ?_
  rintro e w1 ⟨rfl, rfl⟩
  clear e1
  go_wp2_with fail
  refine (leaves_b _ _ _ false e2).mono ?_
  rintro e w1 ⟨rfl, rfl⟩
  clear e2
  go_wp2_with fail
  go_quiet (fail)
  have hb : ∀ x y z : Obj, Below w.heap.size w ((w.alloc x).drewN nq) ∧ Below w.heap.size w (((w.alloc x).drewN nq).alloc y) ∧ Below w.heap.size w ((((w.alloc x).drewN nq).alloc y).alloc y) ∧ Below w.heap.size w (((((w.alloc x).drewN nq).alloc y).alloc y).alloc z) := fun x y z => by
    have h0 : Below w.heap.size w ((w.alloc x).drewN nq) := below_dn ((Below.refl _ _).alloc (Nat.le_refl _) _) _
    have h1 := h0.alloc (by simp) y
    have h2 := h1.alloc (by simp; omega) y
    exact ⟨h0, h1, h2, h2.alloc (by simp; omega) z⟩
  have HB := hid hb
  clear hb
  by_cases d1 : 0 ≤ off + ((R - 1 : Nat) : Int) * rs ∧ off + ((R - 1 : Nat) : Int) * rs < n
  · have D1 : Hid (decide (0 ≤ off + ((R - 1 : Nat) : Int) * rs ∧ off + ((R - 1 : Nat) : Int) * rs < n) = true) := by simp only [Hid, decide_eq_true_eq]; exact d1
    have G1 := hid d1
    clear d1
    by_cases d2 : 0 ≤ off + ((C - 1 : Nat) : Int) * cs ∧ off + ((C - 1 : Nat) : Int) * cs < n
    · have D2 : Hid (decide (0 ≤ off + ((C - 1 : Nat) : Int) * cs ∧ off + ((C - 1 : Nat) : Int) * cs < n) = true) := by simp only [Hid, decide_eq_true_eq]; exact d2
      have G2 := hid d2
      clear d2
      obtain ⟨b3, hb3⟩ : ∃ b, decide (0 ≤ off + ((R - 1 : Nat) : Int) * rs + ((C - 1 : Nat) : Int) * cs ∧ off + ((R - 1 : Nat) : Int) * rs + ((C - 1 : Nat) : Int) * cs < n) = b := ⟨_, rfl⟩
      have D3 := hid hb3
      clear hb3
      go_wp2_with fail
      refine (at_any _ R C off rs cs ((R - 1 : Nat) : Int) 0 HO.out p1.out (by simp)).mono ?_
      rintro e w1 ⟨rfl, rfl⟩
      go_wp2_with fail
      refine (isPlace_b _ _ _ true D1.out).mono ?_
      rintro e w1 ⟨rfl, rfl⟩
      go_wp2_with fail
      refine (at_any _ R C off rs cs 0 ((C - 1 : Nat) : Int) HO.out (by simp) p2.out).mono ?_
      rintro e w1 ⟨rfl, rfl⟩
      go_wp2_with fail
      refine (isPlace_b _ _ _ true D2.out).mono ?_
      rintro e w1 ⟨rfl, rfl⟩
      go_wp2_with fail
      refine (at_any _ R C off rs cs ((R - 1 : Nat) : Int) ((C - 1 : Nat) : Int) HO.out p1.out p2.out).mono ?_
      rintro e w1 ⟨rfl, rfl⟩
      go_wp2_with fail
      refine (isPlace_b _ _ _ b3 D3.out).mono ?_
      rintro e w1 ⟨rfl, rfl⟩
      go_wp2
      go_ret
      exact ⟨⟨b3, rfl, by rw [HC.out, ← D3.out, decide_eq_true_eq]; exact ⟨fun h => ⟨G1.out, G2.out, h⟩, fun h => h.2.2⟩, fun _ => HS.out⟩, (HB.out _ _ _).2.2.2⟩
    · have D2 : Hid (decide (0 ≤ off + ((C - 1 : Nat) : Int) * cs ∧ off + ((C - 1 : Nat) : Int) * cs < n) = false) := by simp only [Hid, decide_eq_false_iff_not]; exact d2
      have G2 := hid d2
      clear d2
      go_wp2_with fail
      refine (at_any _ R C off rs cs ((R - 1 : Nat) : Int) 0 HO.out p1.out (by simp)).mono ?_
      rintro e w1 ⟨rfl, rfl⟩
      go_wp2_with fail
      refine (isPlace_b _ _ _ true D1.out).mono ?_
      rintro e w1 ⟨rfl, rfl⟩
      go_wp2_with fail
      refine (at_any _ R C off rs cs 0 ((C - 1 : Nat) : Int) HO.out (by simp) p2.out).mono ?_
      rintro e w1 ⟨rfl, rfl⟩
      go_wp2_with fail
      refine (isPlace_b _ _ _ false D2.out).mono ?_
      rintro e w1 ⟨rfl, rfl⟩
      go_wp2
      go_ret
      exact ⟨⟨_, rfl, ⟨fun h => (by cases h), fun h => absurd (HC.out.1 h).2.1 G2.out⟩, fun h => (by cases h)⟩, (HB.out _ _ (.deferred none)).2.2.1⟩
  · have D1 : Hid (decide (0 ≤ off + ((R - 1 : Nat) : Int) * rs ∧ off + ((R - 1 : Nat) : Int) * rs < n) = false) := by simp only [Hid, decide_eq_false_iff_not]; exact d1
    have G1 := hid d1
    clear d1
    go_wp2_with fail
    refine (at_any _ R C off rs cs ((R - 1 : Nat) : Int) 0 HO.out p1.out (by simp)).mono ?_
    rintro e w1 ⟨rfl, rfl⟩
    go_wp2_with fail
    refine (isPlace_b _ _ _ false D1.out).mono ?_
    rintro e w1 ⟨rfl, rfl⟩
    go_wp2
    go_ret
    exact ⟨⟨_, rfl, ⟨fun h => (by cases h), fun h => absurd (HC.out.1 h).1 G1.out⟩, fun h => (by cases h)⟩, (HB.out _ _ (.deferred none)).2.1⟩

end Go.Proofs.YthdcceackfdbbabGreatDoor
namespace Go.Proofs.YthdcceackfdbbabGreatDoor
open Go Go.RowKit

def BoolOk (p : Prop) (e : Ending) : Prop := ∃ b, e = .returned (.bool b) ∧ (b = true ↔ p)

theorem boolOk_t {p : Prop} (h : p) : BoolOk p (.returned (.bool true)) := ⟨true, rfl, fun _ => h, fun _ => rfl⟩
theorem boolOk_f {p : Prop} (h : ¬ p) : BoolOk p (.returned (.bool false)) := ⟨false, rfl, fun e => (by cases e), fun e => absurd e h⟩

def NoMeet (C : Nat) (rs cs : Int) (d : Nat) (r : Int) : Prop := -(C : Int) < r → r < C → (d ≠ 0 ∨ r ≠ 0) → (d : Int) * rs + r * cs ≠ 0

theorem prod_smallI {C : Nat} {r s : Int} (hC : C ≤ 40) (h1 : -(C : Int) < r) (h2 : r < C) (h : C = 1 ∨ (-100000 < s ∧ s < 100000)) : -1000000000 ≤ r * s ∧ r * s ≤ 1000000000 := by
  rcases h with rfl | h
  · have : r = 0 := by omega
    subst this; simp
  · by_cases hr : 0 ≤ r
    · obtain ⟨k, rfl⟩ := Int.eq_ofNat_of_zero_le hr
      exact prod_small (by omega) (.inr h)
    · obtain ⟨k, hk⟩ := Int.eq_ofNat_of_zero_le (show 0 ≤ -r by omega)
      have : r = -(k : Int) := by omega
      subst this
      have := prod_small (i := k) (s := s) (by omega) (.inr h)
      rw [Int.neg_mul]; omega

theorem nm_next {C : Nat} {rs cs : Int} {d : Nat} {r : Int} (h2 : ∀ r', r' < r → NoMeet C rs cs d r') (h : NoMeet C rs cs d r) : ∀ r', r' < r + 1 → NoMeet C rs cs d r' := fun r' hr => by
  by_cases e : r' = r
  · subst e; exact h
  · exact h2 r' (by omega)

set_option maxHeartbeats 1000000 in
theorem meets_any (w : World) (R C : Nat) (off rs cs : Int) (hR : 1 ≤ R ∧ R ≤ 40) (hC : 1 ≤ C ∧ C ≤ 40) (hr : R = 1 ∨ (-100000 < rs ∧ rs < 100000)) (hc : C = 1 ∨ (-100000 < cs ∧ cs < 100000)) :
    Calls Tryz.prog 20 #[viewV R C off rs cs] w fun e w' => BoolOk (Meets R C rs cs) e ∧ Below w.heap.size w w' := by
  have HRS : Hid _ := hid hr
  have HCS : Hid _ := hid hc
  clear hr hc
  unfold viewV
  go_enter Tryz.func20, Tryz.ntmps20
  go_wp2
  go_loop [8] (fun v => ∃ d : Nat, v = .int .i64 d ∧ d ≤ R ∧ ∀ d', d' < d → ∀ r, NoMeet C rs cs d' r) (fun v => R - (intOf v).toNat)
  case atStart => exact ⟨0, rfl, by omega, fun d' h => by omega⟩
  case round =>
    obtain ⟨d, rfl, hd, hno⟩ := hrel
    have HN := hid hno
    clear hno
    by_cases hdR : d < R
    · have hdR' : (d : Int) < R := by omega
      go_wp2
      go_loop [4] (fun v => ∃ r : Int, v = .int .i64 r ∧ -(C : Int) < r ∧ r ≤ C ∧ ∀ r', r' < r → NoMeet C rs cs d r') (fun v => ((C : Int) - intOf v).toNat)
      case atStart => exact ⟨1 - C, rfl, by omega, by omega, fun r' h h1 => by omega⟩
      case round =>
        obtain ⟨r, rfl, h1, h2, hno2⟩ := hrel
        have HN2 := hid hno2
        clear hno2
        by_cases hrC : r < C
        · have hp1 := prod_small (i := d) (s := rs) (by omega) (by have := HRS.out; omega)
          have hp2 := prod_smallI hC.2 h1 hrC HCS.out
          go_wp2
          · obtain rfl : d = 0 := by assumption
            obtain rfl : r = 0 := by assumption
            refine ⟨⟨by omega, by omega, nm_next HN2.out (fun _ _ h => by simp at h)⟩, by simp [intOf]; omega⟩
          · have ⟨h3, h4⟩ : (r != 0) = true ∧ (r * cs == 0) = true := by assumption
            obtain rfl : d = 0 := by assumption
            go_ret
            exact ⟨boolOk_t ⟨0, hdR, r, h1, hrC, .inr (by simpa using h3), by simpa using h4⟩, (Below.refl _ _).alloc (Nat.le_refl _) _⟩
          · have h3 : ¬ r = 0 := by assumption
            have h4 : (r != 0) = false ∨ (r * cs == 0) = false := by assumption
            have h5 : ¬ r * cs = 0 := by simpa [h3] using h4
            obtain rfl : d = 0 := by assumption
            refine ⟨⟨by omega, by omega, nm_next HN2.out (fun _ _ _ => by simpa using h5)⟩, by simp [intOf]; omega⟩
          · have h3 : ¬ d = 0 := by assumption
            have h4 : ((d : Int) * rs + r * cs == 0) = true := by assumption
            go_ret
            exact ⟨boolOk_t ⟨d, hdR, r, h1, hrC, .inl h3, by simpa using h4⟩, (Below.refl _ _).alloc (Nat.le_refl _) _⟩
          · have h4 : ((d : Int) * rs + r * cs == 0) = false := by assumption
            go_round
            case rel => exact ⟨r + 1, rfl, by omega, by omega, nm_next HN2.out (fun _ _ _ => by simpa using h4)⟩
            case measure => simp [intOf]; omega
        · go_wp2
          go_round
          case rel =>
            refine ⟨d + 1, by simp, by omega, fun d' hd' r' => ?_⟩
            by_cases e : d' = d
            · subst e; exact fun a b => HN2.out r' (by omega) a b
            · exact HN.out d' (by omega) r'
          case measure => simp [intOf]; omega
    · have hdR' : ¬ ((d : Int) < R) := by omega
      go_wp2
      go_ret
      refine ⟨boolOk_f ?_, (Below.refl _ _).alloc (Nat.le_refl _) _⟩
      rintro ⟨d', h1, r, h2, h3, h4, h5⟩
      exact absurd h5 (HN.out d' (by omega) r h2 h3 h4)

end Go.Proofs.YthdcceackfdbbabGreatDoor
