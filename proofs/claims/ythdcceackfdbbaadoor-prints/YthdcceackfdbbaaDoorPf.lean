/- Walk: Print. Own text. -/
import Derived.Test.YthdcceackfdbbaaDoorPe
namespace Go.Proofs.YthdcceackfdbbaaDoor
open Go.RowKit

theorem ptL_len (r : List UInt8) : (ptL r).length ≤ r.length + 1 := by unfold ptL; split <;> simp <;> omega

theorem outL_size {r : ByteArray} {d : Nat} {p : Int} (h : r.data.toList = outL d p) (_h1 : 1 ≤ d) (h2 : d ≤ 100000000000000000) (h3 : -20000 ≤ p) (h4 : p ≤ 20000) : r.size ≤ 40 := by
  rw [bytes_size h]
  have hlen : (Lib.decDigits d).length ≤ 18 := dd_len (by omega) (by omega)
  have hi := itoa_len (n := p + ((Lib.decDigits d).length : Int) - 1) (by omega) (by omega)
  have ht := trim_len (Lib.decDigits d) 48
  have hp := ptL_len (Lib.trimRightB (Lib.decDigits d) 48)
  unfold outL
  rw [List.length_append, List.length_cons]
  omega

set_option maxRecDepth 20000 in
set_option maxHeartbeats 1600000 in
theorem nprint_any (w : World) (x : Nat) (hx : x < 18446744073709551616) (htab : Lib.TabIs Tryd.prog w "internal/strconv.uint64pow10" .u64 Lib.pow10Tab) :
    Calls Tryd.prog 19 #[.int .u64 (x : Int)] w fun e w' => ∃ s : ByteArray, e = .returned (.string s) ∧ PrintOk x s.data.toList ∧ s.size ≤ 100 ∧ Below w.heap.size w w' := by
  have HT : Hid (Lib.TabIs Tryd.prog w "internal/strconv.uint64pow10" .u64 Lib.pow10Tab) := htab
  clear htab
  have h1 := andNot_sign hx
  have h2 := and_sign hx
  obtain ⟨s, hs⟩ : ∃ s, x % 9223372036854775808 = s := ⟨_, rfl⟩
  have hs2 : s < 9223372036854775808 := by omega
  rw [hs] at h1
  have HS : Hid (x % 9223372036854775808 = s) := hs
  clear hs
  by_cases hg : 9223372036854775808 ≤ x
  · rw [if_pos hg] at h2
    have hb : (bits BinOp.and IntKind.u64 (x : Int) 9223372036854775808 != 0) = true := by rw [h2]; rfl
    have HG : Hid (sgL x = [45]) := by unfold Hid sgL; rw [if_pos hg]
    clear h2
    by_cases c1 : 9218868437227405312 < s
    · have c1b : decide ((9218868437227405312 : Int) < (s : Int)) = true := by simp; omega
      go_enter Tryd.func19, Tryd.ntmps19
      go_wp2
      go_ret
      exact ⟨_, rfl, .inl ⟨by rw [HS.out]; exact c1, rfl⟩, by decide, Below.refl _ _⟩
    · have c1b : decide ((9218868437227405312 : Int) < (s : Int)) = false := by simp; omega
      by_cases c2 : s = 9218868437227405312
      · have c2b : ((s : Int) == 9218868437227405312) = true := by simp; omega
        go_enter Tryd.func19, Tryd.ntmps19
        go_wp2
        go_ret
        exact ⟨_, rfl, .inr (.inl ⟨by rw [HS.out]; exact c2, by rw [HG.out]; rfl⟩), by decide, Below.refl _ _⟩
      · have c2b : ((s : Int) == 9218868437227405312) = false := by simp; omega
        by_cases c3 : s = 0
        · have c3b : ((s : Int) == 0) = true := by simp; omega
          go_enter Tryd.func19, Tryd.ntmps19
          go_wp2
          go_ret
          exact ⟨_, rfl, .inr (.inr (.inl ⟨by rw [HS.out]; exact c3, by rw [HG.out]; rfl⟩)), by decide, Below.refl _ _⟩
        · have c3b : ((s : Int) == 0) = false := by simp; omega
          go_enter Tryd.func19, Tryd.ntmps19
          go_wp2_with fail
          refine (shortest_any _ s c3 (by omega)).mono ?_
          rintro e w1 ⟨a, b, j, d, rfl, ha, hb', hj, q1, q2, q3, b1⟩
          have hsa : ShortAt s d ((b : Int) - a - j) := ⟨a, b, j, ha, hb', hj, rfl, q1, q2, q3⟩
          obtain ⟨d1, d2, p1, p2⟩ := hsa.bd
          have HSA := Hid.mk' hsa
          clear hsa q1 q2 q3
          go_wp2_with fail
          refine (layOut_any _ d _ d1 d2 p1 p2 (tab_below HT.out b1)).mono ?_
          rintro e w2 ⟨r, rfl, hr, b2⟩
          have hrs : r.size ≤ 40 := outL_size hr d1 d2 p1 p2
          go_wp2
          go_ret
          refine ⟨_, rfl, .inr (.inr (.inr ⟨by rw [HS.out]; exact c3, by rw [HS.out]; omega, d, _, by rw [HS.out]; exact HSA.out, ?_⟩)), ?_, b1.trans (b2.mono b1.size)⟩
          · rw [bytes_append_list, hr, HG.out]
          · rw [ByteArray.size_append]; have : (⟨#[45]⟩ : ByteArray).size ≤ 1 := by decide
            omega
  · rw [if_neg hg] at h2
    have hb : (bits BinOp.and IntKind.u64 (x : Int) 9223372036854775808 != 0) = false := by rw [h2]; rfl
    have HG : Hid (sgL x = []) := by unfold Hid sgL; rw [if_neg hg]
    clear h2
    by_cases c1 : 9218868437227405312 < s
    · have c1b : decide ((9218868437227405312 : Int) < (s : Int)) = true := by simp; omega
      go_enter Tryd.func19, Tryd.ntmps19
      go_wp2
      go_ret
      exact ⟨_, rfl, .inl ⟨by rw [HS.out]; exact c1, rfl⟩, by decide, Below.refl _ _⟩
    · have c1b : decide ((9218868437227405312 : Int) < (s : Int)) = false := by simp; omega
      by_cases c2 : s = 9218868437227405312
      · have c2b : ((s : Int) == 9218868437227405312) = true := by simp; omega
        go_enter Tryd.func19, Tryd.ntmps19
        go_wp2
        go_ret
        exact ⟨_, rfl, .inr (.inl ⟨by rw [HS.out]; exact c2, by rw [HG.out]; rfl⟩), by decide, Below.refl _ _⟩
      · have c2b : ((s : Int) == 9218868437227405312) = false := by simp; omega
        by_cases c3 : s = 0
        · have c3b : ((s : Int) == 0) = true := by simp; omega
          go_enter Tryd.func19, Tryd.ntmps19
          go_wp2
          go_ret
          exact ⟨_, rfl, .inr (.inr (.inl ⟨by rw [HS.out]; exact c3, by rw [HG.out]; rfl⟩)), by decide, Below.refl _ _⟩
        · have c3b : ((s : Int) == 0) = false := by simp; omega
          go_enter Tryd.func19, Tryd.ntmps19
          go_wp2_with fail
          refine (shortest_any _ s c3 (by omega)).mono ?_
          rintro e w1 ⟨a, b, j, d, rfl, ha, hb', hj, q1, q2, q3, b1⟩
          have hsa : ShortAt s d ((b : Int) - a - j) := ⟨a, b, j, ha, hb', hj, rfl, q1, q2, q3⟩
          obtain ⟨d1, d2, p1, p2⟩ := hsa.bd
          have HSA := Hid.mk' hsa
          clear hsa q1 q2 q3
          go_wp2_with fail
          refine (layOut_any _ d _ d1 d2 p1 p2 (tab_below HT.out b1)).mono ?_
          rintro e w2 ⟨r, rfl, hr, b2⟩
          have hrs : r.size ≤ 40 := outL_size hr d1 d2 p1 p2
          go_wp2
          go_ret
          refine ⟨_, rfl, .inr (.inr (.inr ⟨by rw [HS.out]; exact c3, by rw [HS.out]; omega, d, _, by rw [HS.out]; exact HSA.out, ?_⟩)), ?_, b1.trans (b2.mono b1.size)⟩
          · rw [bytes_append_list, hr, HG.out]
          · rw [ByteArray.size_append]; have : (⟨#[]⟩ : ByteArray).size ≤ 1 := by decide
            omega

set_option maxHeartbeats 400000 in
theorem print_any (w : World) (x : Nat) (hx : x < 18446744073709551616) (htab : Lib.TabIs Tryd.prog w "internal/strconv.uint64pow10" .u64 Lib.pow10Tab) :
    Calls Tryd.prog 9 #[.int .u64 (x : Int)] w fun e w' => ∃ s : ByteArray, e = .returned (.string s) ∧ PrintOk x s.data.toList ∧ s.size ≤ 100 ∧ Below w.heap.size w w' := by
  go_enter Tryd.func9, Tryd.ntmps9
  go_wp2_with fail
  refine (nprint_any _ x hx htab).mono ?_
  rintro e w1 ⟨s, rfl, h1, h2, h3⟩
  go_wp2
  go_ret
  exact ⟨s, rfl, h1, h2, h3⟩

end Go.Proofs.YthdcceackfdbbaaDoor
