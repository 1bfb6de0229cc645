/- Walks: Compare, BitLen. Own text. -/
import Derived.Test.YthdcceackfdbbaaDoorWc
import Derived.Deep.QuietTactic
import Derived.BigQuiet
namespace Go.Proofs.YthdcceackfdbbaaDoor
open Go.RowKit

theorem quiet_same_add {P : Program} {f : FuncId} {args : Array Value} {w : World} {a n : Nat} {v : Value}
    (h : Calls P f args (w.drewN (a + n)) fun e w' => e = .returned v ∧ w' = w.drewN (a + n)) : Calls P f args (w.drewN (a + n)) fun e w'' => e = .returned v ∧ ∃ m, w'' = w.drewN (a + m) :=
  h.mono fun _ _ ⟨he, hm⟩ => ⟨he, n, hm⟩

theorem quiet_drew_add {P : Program} {f : FuncId} {args : Array Value} {w : World} {a n : Nat} {v : Value}
    (h : Calls P f args (w.drewN (a + n)) fun e w' => e = .returned v ∧ ∃ m, w' = (w.drewN (a + n)).drewN m) : Calls P f args (w.drewN (a + n)) fun e w'' => e = .returned v ∧ ∃ m, w'' = w.drewN (a + m) :=
  h.mono fun _ _ ⟨he, m, hm⟩ => ⟨he, n + m, by rw [hm, World.drewN_drewN, Nat.add_assoc]⟩

set_option maxHeartbeats 800000 in
theorem compare_any (w : World) (va vb : Value) (la lb : List Nat) (ha : Own w 0 va la) (hb : Own w 0 vb lb) (ca : Canon la) (cb : Canon lb) (hla : la.length ≤ 4096) :
    Calls Tryd.prog 81 #[va, vb] w fun e w' => e = .returned (.int .i64 (cmpI (val la) (val lb))) ∧ ∃ n, w' = w.drewN n := by
  obtain ⟨aa, capa, rfl, hlca, hcapa, hcella⟩ := ha.shape1
  obtain ⟨ab, capb, rfl, hlcb, hcapb, hcellb⟩ := hb.shape1
  have HA : Hid (∀ (i x : Nat), la[i]? = some x → x < 4294967296 ∧ ∃ g, aa = some ⟨g, 0, none⟩ ∧ 0 ≤ g ∧ g < w.heap.size ∧ w.cell? ⟨g, i, none⟩ = some (.int .u32 (x : Int))) := hcella
  have HB : Hid (∀ (i x : Nat), lb[i]? = some x → x < 4294967296 ∧ ∃ g, ab = some ⟨g, 0, none⟩ ∧ 0 ≤ g ∧ g < w.heap.size ∧ w.cell? ⟨g, i, none⟩ = some (.int .u32 (x : Int))) := hcellb
  clear hcella hcellb hcapa hcapb
  by_cases hlen : la.length = lb.length
  · have HL : Hid (la.length = lb.length) := hlen
    have hn : ((la.length : Int) != (lb.length : Int)) = false := by simp [hlen]
    clear hlen
    go_enter Tryd.func81, Tryd.ntmps81
    go_wp2
    go_loopw [5] (fun i wr => ∃ k : Nat, k ≤ la.length ∧ i = .int .i64 ((k : Int) - 1) ∧ la.drop k = lb.drop k ∧ ∃ nq, wr = w.drewN nq) (fun i _ => (intOf i + 1).toNat)
    case atStart => exact ⟨la.length, Nat.le_refl _, rfl, by rw [List.drop_length, HL.out, List.drop_length], 0, rfl⟩
    case round =>
      obtain ⟨k, hk, rfl, hd, nq, rfl⟩ := hrel
      have HD : Hid (la.drop k = lb.drop k) := hd
      clear hd
      cases k with
      | zero =>
        go_wp2
        go_ret
        refine ⟨ret_int ?_, nq, rfl⟩
        have hd := HD.out
        simp only [List.drop_zero] at hd
        rw [cmpI_eq (by rw [hd])]
      | succ k =>
        have e : ((k + 1 : Nat) : Int) - 1 = (k : Int) := by omega
        rw [e]
        obtain ⟨x, hx⟩ : ∃ x, la[k]? = some x := ⟨la[k], by simp⟩
        obtain ⟨y, hy⟩ : ∃ y, lb[k]? = some y := ⟨lb[k]'(by have := HL.out; omega), by simp⟩
        obtain ⟨hxl, g, rfl, _, hg, hc⟩ := HA.out k x hx
        obtain ⟨hyl, g2, rfl, _, hg2, hc2⟩ := HB.out k y hy
        have HX : Hid (la[k]? = some x) := hx
        have HY : Hid (lb[k]? = some y) := hy
        have hkb : (k : Int) < (lb.length : Int) := by have := HL.out; omega
        have hka : (k : Int) < (la.length : Int) := by omega
        clear hx hy e
        by_cases hxy : x = y
        · subst hxy
          go_wp2
          go_quiet (fail)
          go_wp2
          go_roundw
          case rel =>
            refine ⟨k, by omega, rfl, ?_, _, rfl⟩
            have h1 := List.drop_eq_getElem_cons (l := la) (i := k) (by omega)
            have h2 := List.drop_eq_getElem_cons (l := lb) (i := k) (by omega)
            rw [(List.getElem?_eq_some_iff.1 HX.out).2] at h1
            rw [(List.getElem?_eq_some_iff.1 HY.out).2] at h2
            rw [h1, h2, HD.out]
          case measure => simp [intOf]
        · have hxy2 : ((x : Int) != (y : Int)) = true := by simp; omega
          go_wp2
          go_quiet (fail)
          go_wp2
          go_quiet ((go_at_call 102; exact quiet_same_add (cmpu32_any _ _ _)))
          go_wp2
          go_ret
          refine ⟨ret_int ?_, _, by rw [World.drewN_drewN, World.drewN_drewN]⟩
          rcases Nat.lt_or_gt_of_ne hxy with hh | hh
          · rw [cmpI_lt (by omega), cmpI_lt (by have := val_lt_of ha.2 HX.out HY.out HD.out hh; omega)]
          · rw [cmpI_gt (by omega), cmpI_gt (by have := val_lt_of hb.2 HY.out HX.out HD.out.symm hh; omega)]
  · have hn : ((la.length : Int) != (lb.length : Int)) = true := by simp; omega
    go_enter Tryd.func81, Tryd.ntmps81
    go_wp2_with (go_at_call 101; refine (cmpint_any _ _ _).mono ?_; rintro e w' ⟨rfl, rfl⟩)
    go_ret
    refine ⟨ret_int ?_, 0, rfl⟩
    rcases Nat.lt_or_gt_of_ne hlen with hh | hh
    · rw [cmpI_lt (by omega), cmpI_lt (by have := val_lt_len ha.2 cb hh; omega)]
    · rw [cmpI_gt (by omega), cmpI_gt (by have := val_lt_len hb.2 ca hh; omega)]

/-- How many bits. -/
def bl (n : Nat) : Nat := if n = 0 then 0 else n.log2 + 1

theorem bl_eq {n b : Nat} (h1 : 2 ^ b ≤ n) (h2 : n < 2 ^ (b + 1)) : bl n = b + 1 := by
  have h0 : n ≠ 0 := by have : 0 < 2 ^ b := Nat.pow_pos (by omega); omega
  unfold bl
  rw [if_neg h0]
  have a1 : b ≤ n.log2 := (Nat.le_log2 h0).2 h1
  have a2 : n.log2 < b + 1 := (Nat.log2_lt h0).2 h2
  omega

theorem bl_lo {n : Nat} (h0 : n ≠ 0) : 2 ^ (bl n - 1) ≤ n := by
  unfold bl; rw [if_neg h0, Nat.add_sub_cancel]; exact (Nat.le_log2 h0).1 (Nat.le_refl _)

theorem bl_hi (n : Nat) : n < 2 ^ bl n := by
  unfold bl
  by_cases h0 : n = 0
  · simp [h0]
  · rw [if_neg h0]; exact (Nat.log2_lt h0).1 (by omega)

theorem bl_pos {n : Nat} (h0 : n ≠ 0) : 1 ≤ bl n := by unfold bl; rw [if_neg h0]; omega

theorem bitLen_bl {x : Nat} (h : x < 18446744073709551616) : Lib.bitLen x = bl x := by
  by_cases h0 : x = 0
  · subst h0; rfl
  · obtain ⟨b1, b2, b3⟩ := Lib.bitLenAux_bounds 64 x (by omega) h0
    have e : Lib.bitLenAux 64 x = (Lib.bitLenAux 64 x - 1) + 1 := by omega
    have := bl_eq b2 (by rw [← e]; exact b3)
    show Lib.bitLenAux 64 x = _
    omega

theorem pow_word (k : Nat) : 4294967296 ^ k = 2 ^ (32 * k) := by rw [Nat.pow_mul]

theorem bl_words {l : List Nat} {x : Nat} (hw : Wds l) (hx : x ≠ 0) : bl (val (l ++ [x])) = 32 * l.length + bl x := by
  have h1 := val_lt hw
  rw [val_snoc]
  rw [pow_word] at h1 ⊢
  have hb1 := bl_lo hx
  have hb2 := bl_hi x
  have hb3 := bl_pos hx
  have e : 32 * l.length + bl x = (32 * l.length + (bl x - 1)) + 1 := by omega
  rw [e]
  refine bl_eq ?_ ?_
  · rw [Nat.pow_add]
    have := Nat.mul_le_mul_left (2 ^ (32 * l.length)) hb1
    omega
  · rw [← e, Nat.pow_add]
    have := Nat.mul_le_mul_left (2 ^ (32 * l.length)) (show x + 1 ≤ 2 ^ bl x from hb2)
    rw [Nat.mul_add] at this
    omega

theorem bl_le {n k : Nat} (h : n < 2 ^ k) : bl n ≤ k := by
  unfold bl
  by_cases h0 : n = 0
  · simp [h0]
  · rw [if_neg h0]; have := (Nat.log2_lt h0).2 h; omega

set_option maxHeartbeats 800000 in
theorem bitlen_any (w : World) (va : Value) (la : List Nat) (ha : Own w 0 va la) (ca : Canon la) (hla : la.length ≤ 4096) :
    Calls Tryd.prog 105 #[va] w fun e w' => e = .returned (.int .i64 (bl (val la))) ∧ ∃ n, w' = w.drewN n := by
  by_cases hne : la = []
  · subst hne
    obtain ⟨aa, capa, rfl, _, _, _⟩ := ha.shape1
    go_enter Tryd.func105, Tryd.ntmps105
    go_wp2
    go_ret
    exact ⟨rfl, 0, rfl⟩
  · obtain ⟨r, x, rfl⟩ := snoc_of_ne hne
    have hx0 : x ≠ 0 := ca x (by simp)
    obtain ⟨aa, capa, rfl, _, _, hcell⟩ := ha.shape1
    obtain ⟨hxl, g, rfl, _, hg, hc⟩ := hcell r.length x (by simp)
    have hb := bl_words (l := r) (fun y hy => ha.2 y (by simp [hy])) hx0
    have HB : Hid (bl (val (r ++ [x])) = 32 * r.length + bl x) := hb
    have hbl := bl_le (n := x) (k := 32) (by omega)
    have hbx := bitLen_bl (x := x) (by omega)
    have HBX : Hid (Lib.bitLen x = bl x) := hbx
    have hbx2 : Lib.bitLen x ≤ 32 := by omega
    simp only [List.length_append, List.length_cons, List.length_nil] at *
    clear hcell hb hbx hne
    go_enter Tryd.func105, Tryd.ntmps105
    go_wp2
    go_quiet (first | (go_at_call 91; exact Calls.quiet_of_same (width_any _)) | (go_at_call 82; exact Calls.quiet_of_same (Tryd.bits_Len64 _ _ (by omega) (by omega))))
    go_wp2
    go_ret
    refine ⟨ret_int ?_, _, rfl⟩
    rw [HB.out]
    have := HBX.out
    omega

end Go.Proofs.YthdcceackfdbbaaDoor
