/- Walks: cutSign, cutDigits, smallWhole. Own text. -/
import Derived.Test.YthdcceackfdbbaaDoorWj
import Derived.Test.YthdcceackfdbbaaDoorPar
namespace Go.Proofs.YthdcceackfdbbaaDoor
open Go.RowKit

theorem extract_take (s : ByteArray) (n : Nat) : (s.extract 0 n).data.toList = s.data.toList.take n := by
  rw [Lib.extract_data]; simp
theorem extract_drop (s : ByteArray) (n : Nat) : (s.extract n s.size).data.toList = s.data.toList.drop n := by
  rw [Lib.extract_data, List.take_of_length_le]
  simp

set_option maxHeartbeats 400000 in
theorem cutDigits_any (w : World) (s : ByteArray) (hs : s.size ≤ 1000) :
    Calls Tryd.prog 60 #[.string s] w fun e w' => ∃ d r : ByteArray, e = .returned (.tuple #[.string d, .string r]) ∧ d.data.toList = s.data.toList.takeWhile isDig ∧ r.data.toList = s.data.toList.dropWhile isDig ∧ ∃ n, w' = w.drewN n := by
  have hsz : s.data.toList.length = s.size := by simp
  have HSZ : Hid (s.data.toList.length = s.size) := hsz
  clear hsz
  go_enter Tryd.func60, Tryd.ntmps60
  go_wp2
  go_loop [4] (fun i => ∃ k : Nat, k ≤ s.size ∧ i = .int .i64 k ∧ ∀ x ∈ s.data.toList.take k, isDig x = true) (fun i => s.size - (intOf i).toNat)
  case atStart => exact ⟨0, Nat.zero_le _, rfl, by simp⟩
  case round =>
    obtain ⟨k, hk, rfl, hall⟩ := hrel
    have HALL : Hid (∀ x ∈ s.data.toList.take k, isDig x = true) := hall
    clear hall
    by_cases hlt : k < s.size
    · have hg := take_get hlt
      have HG : Hid (s.data.toList[k]? = some s[k]) := hg
      clear hg
      by_cases hdg : 48 ≤ s[k].toNat ∧ s[k].toNat ≤ 57
      · obtain ⟨h1, h2⟩ := hdg
        go_wp2
        go_round
        case rel =>
          refine ⟨k + 1, by omega, by go_num, ?_⟩
          intro x hx
          rw [take_snoc_get HG.out] at hx
          rcases List.mem_append.1 hx with h | h
          · exact HALL.out x h
          · simp at h; subst h; simp [isDig]; omega
        case measure => simp [intOf]; omega
      · have HD : Hid (¬ (48 ≤ s[k].toNat ∧ s[k].toNat ≤ 57)) := hdg
        have fin := takeWhile_at (p := isDig) (l := s.data.toList) (k := k) HALL.out (fun x hx => by
          rw [HG.out] at hx; cases hx; simp only [isDig]; have := HD.out; simp; omega)
        have HF : Hid (s.data.toList.takeWhile isDig = s.data.toList.take k ∧ s.data.toList.dropWhile isDig = s.data.toList.drop k) := fin
        clear fin hdg
        by_cases h1 : 48 ≤ s[k].toNat
        · have h2 : 57 < s[k].toNat := by have := HD.out; omega
          go_wp2
          go_quiet (fail)
          go_wp2
          go_ret2
          exact ⟨_, _, rfl, by rw [HF.out.1]; exact extract_take _ _, by rw [HF.out.2]; exact extract_drop _ _, _, rfl⟩
        · go_wp2
          go_quiet (fail)
          go_wp2
          go_ret2
          exact ⟨_, _, rfl, by rw [HF.out.1]; exact extract_take _ _, by rw [HF.out.2]; exact extract_drop _ _, _, rfl⟩
    · have fin := takeWhile_at (p := isDig) (l := s.data.toList) (k := k) HALL.out (fun x hx => by
          have := (List.getElem?_eq_some_iff.1 hx).1; have := HSZ.out; omega)
      have HF : Hid (s.data.toList.takeWhile isDig = s.data.toList.take k ∧ s.data.toList.dropWhile isDig = s.data.toList.drop k) := fin
      clear fin
      go_wp2
      go_quiet (fail)
      go_wp2
      go_ret2
      exact ⟨_, _, rfl, by rw [HF.out.1]; exact extract_take _ _, by rw [HF.out.2]; exact extract_drop _ _, _, rfl⟩

set_option maxRecDepth 5000 in
set_option maxHeartbeats 400000 in
theorem smallWhole_any (w : World) (s : ByteArray) (hd : Digs s.data.toList) (hs : s.size ≤ 1000) :
    Calls Tryd.prog 87 #[.string s] w fun e w' => e = .returned (.int .i64 ((smallW s.data.toList : Nat) : Int)) ∧ w' = w := by
  have hsz : s.data.toList.length = s.size := by simp
  have HSZ : Hid (s.data.toList.length = s.size) := hsz
  clear hsz
  go_enter Tryd.func87, Tryd.ntmps87
  go_wp2
  go_loop [3, 4] (fun v i => ∃ k : Nat, k ≤ s.size ∧ i = .int .i64 k ∧ v = .int .i64 ((smallW (s.data.toList.take k) : Nat) : Int)) (fun _ i => s.size - (intOf i).toNat)
  case atStart => exact ⟨0, Nat.zero_le _, rfl, rfl⟩
  case round =>
    obtain ⟨k, hk, rfl, rfl⟩ := hrel
    have hle := smallW_le (l := s.data.toList.take k) (fun x hx => hd x (List.mem_of_mem_take hx))
    generalize hV : smallW (s.data.toList.take k) = V at *
    have HV : Hid (smallW (s.data.toList.take k) = V) := hV
    clear hV
    by_cases hlt : k < s.size
    · have hg := take_get hlt
      have hb := isDig_bd (hd _ (List.mem_of_getElem? hg))
      have HG : Hid (s.data.toList[k]? = some s[k]) := hg
      have HB : Hid (48 ≤ s[k].toNat ∧ s[k].toNat ≤ 57) := hb
      clear hg hb
      by_cases hv : V < 1000
      · go_wp2
        go_round
        case rel =>
          refine ⟨k + 1, by omega, by go_num, ?_⟩
          rw [take_snoc_get HG.out, smallW_snoc, HV.out, if_pos hv]
          have := HB.out
          go_num
        case measure => simp [intOf]; omega
      · go_wp2
        go_ret
        refine ⟨ret_int ?_, rfl⟩
        have := smallW_stay (s.data.toList.take k) (s.data.toList.drop k) (by rw [HV.out]; omega)
        rw [List.take_append_drop, HV.out] at this
        rw [this]
    · go_wp2
      go_ret
      refine ⟨ret_int ?_, rfl⟩
      have e := HV.out
      rw [List.take_of_length_le (by rw [HSZ.out]; omega)] at e
      rw [e]

end Go.Proofs.YthdcceackfdbbaaDoor
