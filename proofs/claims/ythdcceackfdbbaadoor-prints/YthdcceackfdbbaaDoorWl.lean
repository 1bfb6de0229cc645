/- Walks: cutSign, scanPower. Own text. -/
import Derived.Test.YthdcceackfdbbaaDoorWk
namespace Go.Proofs.YthdcceackfdbbaaDoor
open Go.RowKit

theorem bytes_ne {s : ByteArray} {c : UInt8} {r : List UInt8} (h : s.data.toList = c :: r) : s.toList.isEmpty = false := by rw [bytes_toList, h]; rfl
theorem bytes_nil {s : ByteArray} (h : s.data.toList = []) : s.toList.isEmpty = true := by rw [bytes_toList, h]; rfl
theorem bytes_size {s : ByteArray} {l : List UInt8} (h : s.data.toList = l) : s.size = l.length := by subst h; simp
theorem bytes_head {s : ByteArray} {c : UInt8} {r : List UInt8} (h : s.data.toList = c :: r) (hp : 0 < s.size) : s[0] = c := by
  have := take_get hp
  rw [h] at this
  simpa using this.symm
theorem drop_one {s : ByteArray} {c : UInt8} {r : List UInt8} (h : s.data.toList = c :: r) : (s.extract 1 s.size).data.toList = r := by rw [extract_drop, h]; rfl

set_option maxRecDepth 5000 in
set_option maxHeartbeats 400000 in
theorem cutSign_any (w : World) (s : ByteArray) (hs : s.size ≤ 1000) :
    Calls Tryd.prog 40 #[.string s] w fun e w' => ∃ r : ByteArray, e = .returned (.tuple #[.bool (signL s.data.toList).1, .string r]) ∧ r.data.toList = (signL s.data.toList).2 ∧ ∃ n, w' = w.drewN n := by
  cases hl : s.data.toList with
  | nil =>
    have he := bytes_nil hl
    have HL : Hid (s.data.toList = []) := hl
    clear hl
    go_enter Tryd.func40, Tryd.ntmps40
    go_wp2
    go_ret2
    exact ⟨s, rfl, HL.out, 0, rfl⟩
  | cons c r =>
    have he := bytes_ne hl
    have hsz := bytes_size hl
    have hp : 0 < s.size := by simp at hsz; omega
    have hh := bytes_head hl hp
    have HH : Hid (s[0] = c) := hh
    have HD : Hid ((s.extract 1 s.size).data.toList = r) := drop_one hl
    have HL : Hid (s.data.toList = c :: r) := hl
    clear hl hsz hh
    by_cases c1 : c = 43
    · have b1 : ((s[0].toNat : Int) != 43) = false := by rw [HH.out, c1]; rfl
      have b2 : ((s[0].toNat : Int) == 45) = false := by rw [HH.out, c1]; rfl
      go_enter Tryd.func40, Tryd.ntmps40
      go_wp2
      go_quiet (fail)
      go_wp2
      go_ret2
      exact ⟨s.extract 1 s.size, by simp [signL, c1], by rw [HD.out]; simp [signL, c1], _, rfl⟩
    · by_cases c2 : c = 45
      · have b1 : ((s[0].toNat : Int) != 43) = true := by rw [HH.out, c2]; rfl
        have b2 : ((s[0].toNat : Int) != 45) = false := by rw [HH.out, c2]; rfl
        have b3 : ((s[0].toNat : Int) == 45) = true := by rw [HH.out, c2]; rfl
        go_enter Tryd.func40, Tryd.ntmps40
        go_wp2
        go_quiet (fail)
        go_wp2
        go_ret2
        exact ⟨s.extract 1 s.size, by simp [signL, c2], by rw [HD.out]; simp [signL, c2], _, rfl⟩
      · have b1 : ((s[0].toNat : Int) != 43) = true := by
          rw [HH.out]; simp; intro h; exact c1 (UInt8.toNat_inj.1 (by rw [show (43 : UInt8).toNat = 43 from rfl]; omega))
        have b2 : ((s[0].toNat : Int) != 45) = true := by
          rw [HH.out]; simp; intro h; exact c2 (UInt8.toNat_inj.1 (by rw [show (45 : UInt8).toNat = 45 from rfl]; omega))
        go_enter Tryd.func40, Tryd.ntmps40
        go_wp2
        go_ret2
        exact ⟨s, by simp [signL, c1, c2], by rw [HL.out]; simp [signL, c1, c2], 0, rfl⟩

theorem digs_takeWhile (l : List UInt8) : Digs (l.takeWhile isDig) := fun x hx => by
  have := List.all_takeWhile (p := isDig) (l := l)
  exact List.all_eq_true.1 this x hx

theorem signL_len (l : List UInt8) : (signL l).2.length ≤ l.length := by
  cases l with
  | nil => simp [signL]
  | cons c r => simp only [signL]; split <;> (try split) <;> simp

theorem takeWhile_len (l : List UInt8) : (l.takeWhile isDig).length ≤ l.length := (List.takeWhile_sublist isDig).length_le
theorem dropWhile_len (l : List UInt8) : (l.dropWhile isDig).length ≤ l.length := (List.dropWhile_sublist isDig).length_le

/-- What scanPower answers. -/
def powV (l : List UInt8) : Array Value := match powL l with
  | some p => #[.int .i64 p, .bool true]
  | none => #[.int .i64 0, .bool false]

set_option maxRecDepth 5000 in
set_option maxHeartbeats 800000 in
theorem scanPower_any (w : World) (s : ByteArray) (hs : s.size ≤ 1000) :
    Calls Tryd.prog 62 #[.string s] w fun e w' => e = .returned (.tuple (powV s.data.toList)) ∧ ∃ n, w' = w.drewN n := by
  cases hl : s.data.toList with
  | nil =>
    have he := bytes_nil hl
    clear hl
    go_enter Tryd.func62, Tryd.ntmps62
    go_wp2
    go_ret2
    exact ⟨rfl, 0, rfl⟩
  | cons c r =>
    have he := bytes_ne hl
    have hsz := bytes_size hl
    have hp : 0 < s.size := by simp at hsz; omega
    have hh := bytes_head hl hp
    have HH : Hid (s[0] = c) := hh
    have HD : Hid ((s.extract 1 s.size).data.toList = r) := drop_one hl
    have HSZ : Hid (s.size = r.length + 1) := by unfold Hid; simpa using hsz
    clear hl hsz hh
    by_cases cc : c = 101 ∨ c = 69
    · have key : (((s[0].toNat : Int) != 101) = false) ∨ (((s[0].toNat : Int) != 101) = true ∧ ((s[0].toNat : Int) != 69) = false) := by
        rw [HH.out]; rcases cc with h | h
        · left; rw [h]; rfl
        · right; rw [h]; exact ⟨rfl, rfl⟩
      have CC : Hid (c = 101 ∨ c = 69) := cc
      clear cc
      have HPW : Hid (powV (c :: r) = match (if (signL r).2.takeWhile isDig = [] ∨ (signL r).2.dropWhile isDig ≠ [] then none
       else some (if (signL r).1 then -(smallW ((signL r).2.takeWhile isDig) : Int) else (smallW ((signL r).2.takeWhile isDig) : Int))) with
          | some p => #[.int .i64 p, .bool true]
          | none => #[.int .i64 0, .bool false]) := by unfold Hid powV; simp only [powL]; rw [if_pos CC.out]
      have hsl := signL_len r
      rcases key with b1 | ⟨b1, b2⟩
      all_goals
        go_enter Tryd.func62, Tryd.ntmps62
        go_wp2_with fail
        refine (cutSign_any _ (s.extract 1 s.size) (by rw [bytes_size HD.out]; have := HSZ.out; omega)).mono ?_
        rintro e w1 ⟨r1, rfl, hr1, n1, rfl⟩
        rw [HD.out] at hr1 ⊢
        generalize signL r = sg at *
        obtain ⟨m, sr⟩ := sg
        have HR1 : Hid (r1.data.toList = sr) := hr1
        clear hr1
        go_wp2_with fail
        refine (cutDigits_any _ r1 (by rw [bytes_size HR1.out]; have := HSZ.out; omega)).mono ?_
        rintro e w2 ⟨d, r2, rfl, hd, hr2, n2, rfl⟩
        rw [HR1.out] at hd hr2
        have hdl := takeWhile_len sr
        have hdg := digs_takeWhile sr
        generalize hds : sr.takeWhile isDig = ds at *
        generalize hrs : sr.dropWhile isDig = rs at *
        have HDD : Hid (d.data.toList = ds) := hd
        have HR2 : Hid (r2.data.toList = rs) := hr2
        clear hds hrs hd hr2
        by_cases e1 : ds = []
        · have he1 := bytes_nil (HDD.out.trans e1)
          go_wp2
          go_ret2
          refine ⟨?_, _, by first | rfl | rw [World.drewN_drewN]⟩
          rw [HPW.out, if_pos (.inl e1)]
          rfl
        · have he1 : d.toList.isEmpty = false := by rw [bytes_toList, HDD.out]; cases ds with | nil => exact absurd rfl e1 | cons _ _ => rfl
          by_cases e2 : rs = []
          · have he2 := bytes_nil (HR2.out.trans e2)
            have hdg2 : Digs d.data.toList := by rw [HDD.out]; exact hdg
            have hsw := smallW_le hdg
            have HPV := HPW.out
            rw [if_neg (by rintro (h | h); exact e1 h; exact h e2)] at HPV
            have HPV2 : Hid (powV (c :: r) = #[.int .i64 (if m = true then -(smallW ds : Int) else (smallW ds : Int)), .bool true]) := HPV
            clear HPV HPW e1 e2
            go_wp2_with fail
            refine (smallWhole_any _ d hdg2 (by rw [bytes_size HDD.out]; have := HSZ.out; omega)).mono ?_
            rintro e w3 ⟨rfl, rfl⟩
            rw [HDD.out]
            generalize smallW ds = sw at *
            cases m with
            | true =>
              go_wp2
              go_ret2
              exact ⟨by rw [HPV2.out]; rfl, _, by first | rfl | rw [World.drewN_drewN]⟩
            | false =>
              go_wp2
              go_ret2
              exact ⟨by rw [HPV2.out]; rfl, _, by first | rfl | rw [World.drewN_drewN]⟩
          · have he2 : r2.toList.isEmpty = false := by rw [bytes_toList, HR2.out]; cases rs with | nil => exact absurd rfl e2 | cons _ _ => rfl
            go_wp2
            go_ret2
            refine ⟨?_, _, by first | rfl | rw [World.drewN_drewN]⟩
            rw [HPW.out, if_pos (.inr e2)]
            rfl
    · have hne : c.toNat ≠ 101 ∧ c.toNat ≠ 69 := ⟨fun h => cc (.inl (UInt8.toNat_inj.1 h)), fun h => cc (.inr (UInt8.toNat_inj.1 h))⟩
      have b1 : ((s[0].toNat : Int) != 101) = true := by rw [HH.out]; simp; omega
      have b2 : ((s[0].toNat : Int) != 69) = true := by rw [HH.out]; simp; omega
      have HPW : Hid (powV (c :: r) = #[.int .i64 0, .bool false]) := by unfold Hid powV; simp only [powL]; rw [if_neg cc]
      clear cc hne
      go_enter Tryd.func62, Tryd.ntmps62
      go_wp2
      go_ret2
      exact ⟨by rw [HPW.out]; rfl, 0, rfl⟩

end Go.Proofs.YthdcceackfdbbaaDoor
