/- Walks: the reference's Print; Prints. Own text. -/
import Derived.Test.YthdcceackfdbbaaDoorQf
import Derived.Test.YthdcceackfdbbaaDoorPf
namespace Go.Proofs.YthdcceackfdbbaaDoor
open Go.RowKit
attribute [local go_sem ↓] Go.wp_at_zero Go.wp_at_succ

theorem drop_zeros (z : Nat) (l : List UInt8) : (List.replicate z 48 ++ l).dropWhile (· == 48) = l.dropWhile (· == 48) := by
  induction z with
  | zero => rfl
  | succ z ih => rw [List.replicate_succ, List.cons_append, List.dropWhile_cons_of_pos (by rfl), ih]

theorem trim_end {F r : List UInt8} {y : UInt8} {z : Nat} (h : F = r ++ [y] ++ List.replicate z 48) (hy : y.toNat ≠ 48) : Lib.trimRightB F 48 = r ++ [y] := by
  have hb : (y == 48) = false := by
    cases hc : y == 48
    · rfl
    · rw [eq_of_beq hc] at hy; exact absurd rfl hy
  unfold Lib.trimRightB
  rw [h, List.reverse_append, List.reverse_replicate, drop_zeros, List.reverse_append, List.reverse_singleton, List.singleton_append, List.dropWhile_cons_of_neg (by simp [hb])]
  simp

theorem last_of {u : ByteArray} {n : Nat} (h : u.size = n + 2) : ∃ r y, u.data.toList = r ++ [y] ∧ r.length = n + 1 ∧ (∀ h' : n + 1 < u.size, u[n + 1] = y) ∧ (u.extract 0 (n + 1)).data.toList = r := by
  have hl : u.data.toList.length = n + 2 := by rw [← h]; simp
  have hne : u.data.toList ≠ [] := by intro e; rw [e] at hl; simp at hl
  have e := (List.dropLast_concat_getLast hne).symm
  have hr : u.data.toList.dropLast.length = n + 1 := by rw [List.length_dropLast]; omega
  refine ⟨u.data.toList.dropLast, u.data.toList.getLast hne, e, hr, ?_, ?_⟩
  · intro h'
    have q := take_get h'
    rw [e, List.getElem?_append_right (by omega), hr] at q
    simpa using q.symm
  · rw [extract_take]
    conv => lhs; rw [e]
    rw [List.take_append_of_le_length (by omega), List.take_of_length_le (by omega)]

theorem pt_one {r : ByteArray} (h : r.size = 1) : (r.extract 0 1).data.toList = ptL r.data.toList := by
  have hl : r.data.toList.length = 1 := by rw [← h]; simp
  rw [extract_take, ptL, if_neg (by omega), List.take_of_length_le (by omega)]

set_option maxRecDepth 20000 in
set_option maxHeartbeats 3200000 in
theorem refprint_any (w : World) (x : Nat) (l : List UInt8) (hx : x < 18446744073709551616) (hl : PrintOk x l) :
    Calls Tryd.prog 10 #[.int .u64 (x : Int)] w fun e w' => ∃ t : ByteArray, e = .returned (.string t) ∧ t.data.toList = l ∧ Below w.heap.size w w' := by
  have h1 := andNot_sign hx
  have h2 := and_sign hx
  obtain ⟨s, hs⟩ : ∃ s, x % 9223372036854775808 = s := ⟨_, rfl⟩
  have hs2 : s < 9223372036854775808 := by omega
  unfold PrintOk at hl
  rw [hs] at h1 hl
  clear hs
  by_cases hg : 9223372036854775808 ≤ x
  · rw [if_pos hg] at h2
    have hb : (bits BinOp.and IntKind.u64 (x : Int) 9223372036854775808 != 0) = true := by rw [h2]; rfl
    have HG : Hid (sgL x = [45]) := by unfold Hid sgL; rw [if_pos hg]
    clear h2 hg
    rcases hl with ⟨c1, rfl⟩ | ⟨c2, rfl⟩ | ⟨c3, rfl⟩ | ⟨c3, c4, d, p, hsa, rfl⟩
    · have c1b : decide ((9218868437227405312 : Int) < (s : Int)) = true := by simp; omega
      go_enter Tryd.func10, Tryd.ntmps10
      go_wp2
      go_ret
      exact ⟨_, rfl, rfl, Below.refl _ _⟩
    · have c1b : decide ((9218868437227405312 : Int) < (s : Int)) = false := by simp; omega
      have c2b : ((s : Int) == 9218868437227405312) = true := by simp; omega
      clear c2
      go_enter Tryd.func10, Tryd.ntmps10
      go_wp2
      go_ret
      exact ⟨_, rfl, by rw [HG.out]; rfl, Below.refl _ _⟩
    · have c1b : decide ((9218868437227405312 : Int) < (s : Int)) = false := by simp; omega
      have c2b : ((s : Int) == 9218868437227405312) = false := by simp; omega
      have c3b : ((s : Int) == 0) = true := by simp; omega
      clear c3
      go_enter Tryd.func10, Tryd.ntmps10
      go_wp2
      go_ret
      exact ⟨_, rfl, by rw [HG.out]; rfl, Below.refl _ _⟩
    · have c1b : decide ((9218868437227405312 : Int) < (s : Int)) = false := by simp; omega
      have c2b : ((s : Int) == 9218868437227405312) = false := by simp; omega
      have c3b : ((s : Int) == 0) = false := by simp; omega
      obtain ⟨d1, d2, _, _⟩ := hsa.bd
      obtain ⟨p1, p2⟩ := hsa.pow c3 c4
      have hlen : (Lib.decDigits d).length ≤ 18 := dd_len (by omega) (by omega)
      have HOUT : Hid (outL d p = ptL (Lib.trimRightB (Lib.decDigits d) 48) ++ 101 :: Lib.itoa (p + ((Lib.decDigits d).length : Int) - 1)) := rfl
      obtain ⟨_, _, hhead, hnil⟩ := dd_all d
      have HH := Hid.mk' (hhead (by omega))
      have HNIL := Hid.mk' hnil
      clear hhead hnil
      go_enter Tryd.func10, Tryd.ntmps10
      go_wp2_with fail
      refine (refshort_any _ s d p c3 c4 hsa).mono ?_
      rintro e w1 ⟨t, rfl, ht, b1⟩
      have hts := bytes_size ht
      have hts1 : 1 ≤ t.size := by rw [hts]; exact List.length_pos_iff.2 HNIL.out
      have hts2 : t.size ≤ 30 := by omega
      obtain ⟨E, hE⟩ : ∃ E : Int, p + ((Lib.decDigits d).length : Int) - 1 = E := ⟨_, rfl⟩
      have hE1 : -100000 ≤ E := by omega
      have hE2 : E ≤ 100000 := by omega
      rw [hE] at HOUT ⊢
      generalize Lib.decDigits d = F at *
      have HT := Hid.mk' ht
      have HB1 := Hid.mk' b1
      clear ht b1 hts hE hsa
      go_wp2_with fail
      go_loop [5] (fun q => ∃ u : ByteArray, q = .string u ∧ 1 ≤ u.size ∧ u.size ≤ 30 ∧ ∃ z, F = u.data.toList ++ List.replicate z 48) (fun q => strSz q)
      case atStart => exact ⟨t, rfl, hts1, hts2, 0, by rw [HT.out]; simp⟩
      case round =>
        obtain ⟨u, rfl, hu1, hu2, z, hz⟩ := hrel
        have HZ := Hid.mk' hz
        clear hz
        by_cases hsz : 1 < u.size
        · obtain ⟨n, hn⟩ : ∃ n, u.size = n + 2 := ⟨u.size - 2, by omega⟩
          obtain ⟨r, y, hr1, hr2, hr3, hr4⟩ := last_of hn
          have HR := Hid.mk' (And.intro hr1 (And.intro hr2 hr4))
          have hlast := hr3 (by omega)
          clear hr1 hr2 hr4 hr3
          by_cases hy : y.toNat = 48
          · have hbl : ∀ (h : n + 1 < u.size), ((u[n + 1].toNat : Int) == 48) = true := by intro h; rw [hlast, hy]; rfl
            have hbl2 := hbl (by omega)
            clear hbl hlast
            go_wp2_with fail
            go_round
            case rel =>
              have hs' := bytes_size HR.out.2.2
              refine ⟨u.extract 0 (n + 1), rfl, by rw [hs', HR.out.2.1]; omega, by rw [hs', HR.out.2.1]; omega, z + 1, ?_⟩
              rw [HR.out.2.2, HZ.out, HR.out.1, List.replicate_succ, List.append_assoc, show y = 48 from UInt8.toNat_inj.1 hy]
              rfl
            case measure =>
              have hs' := bytes_size HR.out.2.2
              simp only [strSz]
              first | (show (u.extract 0 (n + 1)).size < u.size; rw [hs', HR.out.2.1]; omega) | (simp; omega)
          · have hbl : ∀ (h : n + 1 < u.size), ((u[n + 1].toNat : Int) == 48) = false := by intro h; rw [hlast]; simp; omega
            have hbl2 := hbl (by omega)
            have HF : Hid (Lib.trimRightB F 48 = u.data.toList) := by
              unfold Hid
              rw [HR.out.1]
              exact trim_end (by rw [← HR.out.1]; exact HZ.out) hy
            have hi1 : (1 : Int) ≤ (u.size : Int) := by omega
            clear hbl hlast
            go_wp2_with fail
            refine (count_any _ E hE1 hE2).mono ?_
            rintro e w2 ⟨q, rfl, hq, b2⟩
            have hqs : q.size ≤ 7 := by rw [bytes_size hq]; exact itoa_len (by omega) (by omega)
            have HQ := Hid.mk' hq
            clear hq
            go_wp2_with fail
            go_ret
            refine ⟨_, rfl, ?_, HB1.out.trans (b2.mono HB1.out.size)⟩
            have e1 := lay_dot (r := u) (by omega)
            rw [bytes_append_list, bytes_append_list, dotB_list] at e1
            simp only [bytes_append_list]
            rw [HOUT.out, HF.out, ← e1, HQ.out, HG.out]
            simp
            omega
        · have hsz1 : u.size = 1 := by omega
          obtain ⟨c, hc⟩ : ∃ c, u.data.toList = [c] := by
            have hl : u.data.toList.length = 1 := by rw [← hsz1]; simp
            exact List.length_eq_one_iff.1 hl
          have HF : Hid (Lib.trimRightB F 48 = u.data.toList) := by
            unfold Hid
            rw [hc]
            have hzz := HZ.out
            rw [hc] at hzz
            exact trim_end (r := []) (y := c) (z := z) (by simpa using hzz) (HH.out c (List.replicate z 48) (by simpa using hzz))
          clear hc
          go_wp2_with fail
          refine (count_any _ E hE1 hE2).mono ?_
          rintro e w2 ⟨q, rfl, hq, b2⟩
          have hqs : q.size ≤ 7 := by rw [bytes_size hq]; exact itoa_len (by omega) (by omega)
          have HQ := Hid.mk' hq
          clear hq
          go_wp2_with fail
          go_ret
          refine ⟨_, rfl, ?_, HB1.out.trans (b2.mono HB1.out.size)⟩
          have e1 := pt_one hsz1
          simp only [bytes_append_list]
          rw [HOUT.out, HF.out, ← e1, HQ.out, HG.out]
          simp
  · rw [if_neg hg] at h2
    have hb : (bits BinOp.and IntKind.u64 (x : Int) 9223372036854775808 != 0) = false := by rw [h2]; rfl
    have HG : Hid (sgL x = []) := by unfold Hid sgL; rw [if_neg hg]
    clear h2 hg
    rcases hl with ⟨c1, rfl⟩ | ⟨c2, rfl⟩ | ⟨c3, rfl⟩ | ⟨c3, c4, d, p, hsa, rfl⟩
    · have c1b : decide ((9218868437227405312 : Int) < (s : Int)) = true := by simp; omega
      go_enter Tryd.func10, Tryd.ntmps10
      go_wp2
      go_ret
      exact ⟨_, rfl, rfl, Below.refl _ _⟩
    · have c1b : decide ((9218868437227405312 : Int) < (s : Int)) = false := by simp; omega
      have c2b : ((s : Int) == 9218868437227405312) = true := by simp; omega
      clear c2
      go_enter Tryd.func10, Tryd.ntmps10
      go_wp2
      go_ret
      exact ⟨_, rfl, by rw [HG.out]; rfl, Below.refl _ _⟩
    · have c1b : decide ((9218868437227405312 : Int) < (s : Int)) = false := by simp; omega
      have c2b : ((s : Int) == 9218868437227405312) = false := by simp; omega
      have c3b : ((s : Int) == 0) = true := by simp; omega
      clear c3
      go_enter Tryd.func10, Tryd.ntmps10
      go_wp2
      go_ret
      exact ⟨_, rfl, by rw [HG.out]; rfl, Below.refl _ _⟩
    · have c1b : decide ((9218868437227405312 : Int) < (s : Int)) = false := by simp; omega
      have c2b : ((s : Int) == 9218868437227405312) = false := by simp; omega
      have c3b : ((s : Int) == 0) = false := by simp; omega
      obtain ⟨d1, d2, _, _⟩ := hsa.bd
      obtain ⟨p1, p2⟩ := hsa.pow c3 c4
      have hlen : (Lib.decDigits d).length ≤ 18 := dd_len (by omega) (by omega)
      have HOUT : Hid (outL d p = ptL (Lib.trimRightB (Lib.decDigits d) 48) ++ 101 :: Lib.itoa (p + ((Lib.decDigits d).length : Int) - 1)) := rfl
      obtain ⟨_, _, hhead, hnil⟩ := dd_all d
      have HH := Hid.mk' (hhead (by omega))
      have HNIL := Hid.mk' hnil
      clear hhead hnil
      go_enter Tryd.func10, Tryd.ntmps10
      go_wp2_with fail
      refine (refshort_any _ s d p c3 c4 hsa).mono ?_
      rintro e w1 ⟨t, rfl, ht, b1⟩
      have hts := bytes_size ht
      have hts1 : 1 ≤ t.size := by rw [hts]; exact List.length_pos_iff.2 HNIL.out
      have hts2 : t.size ≤ 30 := by omega
      obtain ⟨E, hE⟩ : ∃ E : Int, p + ((Lib.decDigits d).length : Int) - 1 = E := ⟨_, rfl⟩
      have hE1 : -100000 ≤ E := by omega
      have hE2 : E ≤ 100000 := by omega
      rw [hE] at HOUT ⊢
      generalize Lib.decDigits d = F at *
      have HT := Hid.mk' ht
      have HB1 := Hid.mk' b1
      clear ht b1 hts hE hsa
      go_wp2_with fail
      go_loop [5] (fun q => ∃ u : ByteArray, q = .string u ∧ 1 ≤ u.size ∧ u.size ≤ 30 ∧ ∃ z, F = u.data.toList ++ List.replicate z 48) (fun q => strSz q)
      case atStart => exact ⟨t, rfl, hts1, hts2, 0, by rw [HT.out]; simp⟩
      case round =>
        obtain ⟨u, rfl, hu1, hu2, z, hz⟩ := hrel
        have HZ := Hid.mk' hz
        clear hz
        by_cases hsz : 1 < u.size
        · obtain ⟨n, hn⟩ : ∃ n, u.size = n + 2 := ⟨u.size - 2, by omega⟩
          obtain ⟨r, y, hr1, hr2, hr3, hr4⟩ := last_of hn
          have HR := Hid.mk' (And.intro hr1 (And.intro hr2 hr4))
          have hlast := hr3 (by omega)
          clear hr1 hr2 hr4 hr3
          by_cases hy : y.toNat = 48
          · have hbl : ∀ (h : n + 1 < u.size), ((u[n + 1].toNat : Int) == 48) = true := by intro h; rw [hlast, hy]; rfl
            have hbl2 := hbl (by omega)
            clear hbl hlast
            go_wp2_with fail
            go_round
            case rel =>
              have hs' := bytes_size HR.out.2.2
              refine ⟨u.extract 0 (n + 1), rfl, by rw [hs', HR.out.2.1]; omega, by rw [hs', HR.out.2.1]; omega, z + 1, ?_⟩
              rw [HR.out.2.2, HZ.out, HR.out.1, List.replicate_succ, List.append_assoc, show y = 48 from UInt8.toNat_inj.1 hy]
              rfl
            case measure =>
              have hs' := bytes_size HR.out.2.2
              simp only [strSz]
              first | (show (u.extract 0 (n + 1)).size < u.size; rw [hs', HR.out.2.1]; omega) | (simp; omega)
          · have hbl : ∀ (h : n + 1 < u.size), ((u[n + 1].toNat : Int) == 48) = false := by intro h; rw [hlast]; simp; omega
            have hbl2 := hbl (by omega)
            have HF : Hid (Lib.trimRightB F 48 = u.data.toList) := by
              unfold Hid
              rw [HR.out.1]
              exact trim_end (by rw [← HR.out.1]; exact HZ.out) hy
            have hi1 : (1 : Int) ≤ (u.size : Int) := by omega
            clear hbl hlast
            go_wp2_with fail
            refine (count_any _ E hE1 hE2).mono ?_
            rintro e w2 ⟨q, rfl, hq, b2⟩
            have hqs : q.size ≤ 7 := by rw [bytes_size hq]; exact itoa_len (by omega) (by omega)
            have HQ := Hid.mk' hq
            clear hq
            go_wp2_with fail
            go_ret
            refine ⟨_, rfl, ?_, HB1.out.trans (b2.mono HB1.out.size)⟩
            have e1 := lay_dot (r := u) (by omega)
            rw [bytes_append_list, bytes_append_list, dotB_list] at e1
            simp only [bytes_append_list]
            rw [HOUT.out, HF.out, ← e1, HQ.out, HG.out]
            simp
            omega
        · have hsz1 : u.size = 1 := by omega
          obtain ⟨c, hc⟩ : ∃ c, u.data.toList = [c] := by
            have hl : u.data.toList.length = 1 := by rw [← hsz1]; simp
            exact List.length_eq_one_iff.1 hl
          have HF : Hid (Lib.trimRightB F 48 = u.data.toList) := by
            unfold Hid
            rw [hc]
            have hzz := HZ.out
            rw [hc] at hzz
            exact trim_end (r := []) (y := c) (z := z) (by simpa using hzz) (HH.out c (List.replicate z 48) (by simpa using hzz))
          clear hc
          go_wp2_with fail
          refine (count_any _ E hE1 hE2).mono ?_
          rintro e w2 ⟨q, rfl, hq, b2⟩
          have hqs : q.size ≤ 7 := by rw [bytes_size hq]; exact itoa_len (by omega) (by omega)
          have HQ := Hid.mk' hq
          clear hq
          go_wp2_with fail
          go_ret
          refine ⟨_, rfl, ?_, HB1.out.trans (b2.mono HB1.out.size)⟩
          have e1 := pt_one hsz1
          simp only [bytes_append_list]
          rw [HOUT.out, HF.out, ← e1, HQ.out, HG.out]
          simp

theorem bytes_eq {a b : ByteArray} (h : a.data.toList = b.data.toList) : a = b := by
  cases a with
  | mk a =>
    cases b with
    | mk b =>
      have h' : a = b := Array.toList_inj.1 h
      rw [h']

set_option maxHeartbeats 800000 in
theorem prints_any (w : World) (x : Nat) (hx : x < 18446744073709551616) (htab : Lib.TabIs Tryd.prog w "internal/strconv.uint64pow10" .u64 Lib.pow10Tab) :
    Calls Tryd.prog 3 #[.int .u64 (x : Int)] w fun e w' => e = .returned (.bool true) ∧ Below w.heap.size w w' := by
  go_enter Tryd.func3, Tryd.ntmps3
  go_wp2_with fail
  refine (print_any _ x hx htab).mono ?_
  rintro e w1 ⟨t, rfl, h1, h2, b1⟩
  go_wp2_with fail
  refine (refprint_any _ x _ hx h1).mono ?_
  rintro e w2 ⟨u, rfl, hu, b2⟩
  have e1 : t = u := bytes_eq hu.symm
  subst e1
  go_wp2_with fail
  go_ret
  exact ⟨ret_bool (by simp), b1.trans (b2.mono b1.size)⟩

theorem prints_law (w : World) (n : Int) (h1 : 0 ≤ n) (h2 : n ≤ 18446744073709551615) (htab : Lib.TabIs Tryd.prog w "internal/strconv.uint64pow10" .u64 Lib.pow10Tab) :
    Calls Tryd.prog 3 #[.int .u64 n] w fun e w' => e = .returned (.bool true) ∧ Below w.heap.size w w' := by
  obtain ⟨x, rfl⟩ := Int.eq_ofNat_of_zero_le h1
  exact prints_any w x (by omega) htab

end Go.Proofs.YthdcceackfdbbaaDoor
