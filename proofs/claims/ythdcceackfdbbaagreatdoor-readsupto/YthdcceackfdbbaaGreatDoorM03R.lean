import Derived.Test.YthdcceackfdbbaaGreatDoorM02R
import Derived.Lib.ItoaNum
import Derived.Deep.QuietTactic
import Derived.BigQuiet
import Derived.Laws.BitsAllLaws
namespace Go.Proofs.YthdcceackfdbbaaGreatDoor
open Go.RowKit
theorem quiet_same_add {P : Program} {f : FuncId} {args : Array Value} {w : World} {a n : Nat} {v : Value}
    (h : Calls P f args (w.drewN (a + n)) fun e w' => e = .returned v ∧ w' = w.drewN (a + n)) : Calls P f args (w.drewN (a + n)) fun e w'' => e = .returned v ∧ ∃ m, w'' = w.drewN (a + m) :=
  h.mono fun _ _ ⟨he, hm⟩ => ⟨he, n, hm⟩
set_option maxHeartbeats 800000 in
theorem compare_any (w : World) (va vb : Value) (la lb : List Nat) (ha : Own w 0 va la) (hb : Own w 0 vb lb) (ca : Canon la) (cb : Canon lb) (hla : la.length ≤ 4096) :
    Calls Tryz.prog 197 #[va, vb] w fun e w' => e = .returned (.int .i64 (cmpI (val la) (val lb))) ∧ ∃ n, w' = w.drewN n := by
  obtain ⟨aa, capa, rfl, hlca, hcapa, hcella⟩ := ha.shape1
  obtain ⟨ab, capb, rfl, hlcb, hcapb, hcellb⟩ := hb.shape1
  have HA : Hid (∀ (i x : Nat), la[i]? = some x → x < 4294967296 ∧ ∃ g, aa = some ⟨g, 0, none⟩ ∧ 0 ≤ g ∧ g < w.heap.size ∧ w.cell? ⟨g, i, none⟩ = some (.int .u32 (x : Int))) := hcella
  have HB : Hid (∀ (i x : Nat), lb[i]? = some x → x < 4294967296 ∧ ∃ g, ab = some ⟨g, 0, none⟩ ∧ 0 ≤ g ∧ g < w.heap.size ∧ w.cell? ⟨g, i, none⟩ = some (.int .u32 (x : Int))) := hcellb
  clear hcella hcellb hcapa hcapb
  by_cases hlen : la.length = lb.length
  · have HL : Hid (la.length = lb.length) := hlen
    have hn : ((la.length : Int) != (lb.length : Int)) = false := by simp [hlen]
    clear hlen
    go_enter Tryz.func197, Tryz.ntmps197
    go_wp2
    go_loopw [5] (fun i wr => ∃ k : Nat, k ≤ la.length ∧ i = .int .i64 ((k : Int) - 1) ∧ la.drop k = lb.drop k ∧ ∃ nq, wr = w.drewN nq) (fun i _ => (intOf i + 1).toNat)
    case atStart => exact ⟨la.length, Nat.le_refl _, rfl, by rw [List.drop_length, HL.out, List.drop_length], 0, rfl⟩
    case round =>
      obtain ⟨k, hk, rfl, hd, nq, rfl⟩ := hrel
      have HD : Hid (la.drop k = lb.drop k) := hd
      clear hd
      cases k with
      | zero =>
        go_wp2
        go_ret
        refine ⟨ret_int ?_, nq, rfl⟩
        have hd := HD.out
        simp only [List.drop_zero] at hd
        rw [cmpI_eq (by rw [hd])]
      | succ k =>
        have e : ((k + 1 : Nat) : Int) - 1 = (k : Int) := by omega
        rw [e]
        obtain ⟨x, hx⟩ : ∃ x, la[k]? = some x := ⟨la[k], by simp⟩
        obtain ⟨y, hy⟩ : ∃ y, lb[k]? = some y := ⟨lb[k]'(by have := HL.out; omega), by simp⟩
        obtain ⟨hxl, g, rfl, _, hg, hc⟩ := HA.out k x hx
        obtain ⟨hyl, g2, rfl, _, hg2, hc2⟩ := HB.out k y hy
        have HX : Hid (la[k]? = some x) := hx
        have HY : Hid (lb[k]? = some y) := hy
        have hkb : (k : Int) < (lb.length : Int) := by have := HL.out; omega
        have hka : (k : Int) < (la.length : Int) := by omega
        clear hx hy e
        by_cases hxy : x = y
        · subst hxy
          go_wp2
          go_quiet (fail)
          go_wp2
          go_roundw
          case rel =>
            refine ⟨k, by omega, rfl, ?_, _, rfl⟩
            have h1 := List.drop_eq_getElem_cons (l := la) (i := k) (by omega)
            have h2 := List.drop_eq_getElem_cons (l := lb) (i := k) (by omega)
            rw [(List.getElem?_eq_some_iff.1 HX.out).2] at h1
            rw [(List.getElem?_eq_some_iff.1 HY.out).2] at h2
            rw [h1, h2, HD.out]
          case measure => simp [intOf]
        · have hxy2 : ((x : Int) != (y : Int)) = true := by simp; omega
          go_wp2
          go_quiet (fail)
          go_wp2
          go_quiet ((go_at_call 224; exact quiet_same_add (cmpu32_any _ _ _)))
          go_wp2
          go_ret
          refine ⟨ret_int ?_, _, by rw [World.drewN_drewN, World.drewN_drewN]⟩
          rcases Nat.lt_or_gt_of_ne hxy with hh | hh
          · rw [cmpI_lt (by omega), cmpI_lt (by have := val_lt_of ha.2 HX.out HY.out HD.out hh; omega)]
          · rw [cmpI_gt (by omega), cmpI_gt (by have := val_lt_of hb.2 HY.out HX.out HD.out.symm hh; omega)]
  · have hn : ((la.length : Int) != (lb.length : Int)) = true := by simp; omega
    go_enter Tryz.func197, Tryz.ntmps197
    go_wp2_with (go_at_call 223; refine (cmpint_any _ _ _).mono ?_; rintro e w' ⟨rfl, rfl⟩)
    go_ret
    refine ⟨ret_int ?_, 0, rfl⟩
    rcases Nat.lt_or_gt_of_ne hlen with hh | hh
    · rw [cmpI_lt (by omega), cmpI_lt (by have := val_lt_len ha.2 cb hh; omega)]
    · rw [cmpI_gt (by omega), cmpI_gt (by have := val_lt_len hb.2 ca hh; omega)]
def bl (n : Nat) : Nat := if n = 0 then 0 else n.log2 + 1
theorem bl_eq {n b : Nat} (h1 : 2 ^ b ≤ n) (h2 : n < 2 ^ (b + 1)) : bl n = b + 1 := by
  have h0 : n ≠ 0 := by have : 0 < 2 ^ b := Nat.pow_pos (by omega); omega
  unfold bl
  rw [if_neg h0]
  have a1 : b ≤ n.log2 := (Nat.le_log2 h0).2 h1
  have a2 : n.log2 < b + 1 := (Nat.log2_lt h0).2 h2
  omega
theorem bl_lo {n : Nat} (h0 : n ≠ 0) : 2 ^ (bl n - 1) ≤ n := by
  unfold bl; rw [if_neg h0, Nat.add_sub_cancel]; exact (Nat.le_log2 h0).1 (Nat.le_refl _)
theorem bl_hi (n : Nat) : n < 2 ^ bl n := by
  unfold bl
  by_cases h0 : n = 0
  · simp [h0]
  · rw [if_neg h0]; exact (Nat.log2_lt h0).1 (by omega)
theorem bl_pos {n : Nat} (h0 : n ≠ 0) : 1 ≤ bl n := by unfold bl; rw [if_neg h0]; omega
theorem bitLen_bl {x : Nat} (h : x < 18446744073709551616) : Lib.bitLen x = bl x := by
  by_cases h0 : x = 0
  · subst h0; rfl
  · obtain ⟨b1, b2, b3⟩ := Lib.bitLenAux_bounds 64 x (by omega) h0
    have e : Lib.bitLenAux 64 x = (Lib.bitLenAux 64 x - 1) + 1 := by omega
    have := bl_eq b2 (by rw [← e]; exact b3)
    show Lib.bitLenAux 64 x = _
    omega
theorem pow_word (k : Nat) : 4294967296 ^ k = 2 ^ (32 * k) := by rw [Nat.pow_mul]
theorem bl_words {l : List Nat} {x : Nat} (hw : Wds l) (hx : x ≠ 0) : bl (val (l ++ [x])) = 32 * l.length + bl x := by
  have h1 := val_lt hw
  rw [val_snoc]
  rw [pow_word] at h1 ⊢
  have hb1 := bl_lo hx
  have hb2 := bl_hi x
  have hb3 := bl_pos hx
  have e : 32 * l.length + bl x = (32 * l.length + (bl x - 1)) + 1 := by omega
  rw [e]
  refine bl_eq ?_ ?_
  · rw [Nat.pow_add]
    have := Nat.mul_le_mul_left (2 ^ (32 * l.length)) hb1
    omega
  · rw [← e, Nat.pow_add]
    have := Nat.mul_le_mul_left (2 ^ (32 * l.length)) (show x + 1 ≤ 2 ^ bl x from hb2)
    rw [Nat.mul_add] at this
    omega
theorem bl_le {n k : Nat} (h : n < 2 ^ k) : bl n ≤ k := by
  unfold bl
  by_cases h0 : n = 0
  · simp [h0]
  · rw [if_neg h0]; have := (Nat.log2_lt h0).2 h; omega
set_option maxHeartbeats 800000 in
theorem bitlen_any (w : World) (va : Value) (la : List Nat) (ha : Own w 0 va la) (ca : Canon la) (hla : la.length ≤ 4096) :
    Calls Tryz.prog 222 #[va] w fun e w' => e = .returned (.int .i64 (bl (val la))) ∧ ∃ n, w' = w.drewN n := by
  by_cases hne : la = []
  · subst hne
    obtain ⟨aa, capa, rfl, _, _, _⟩ := ha.shape1
    go_enter Tryz.func222, Tryz.ntmps222
    go_wp2
    go_ret
    exact ⟨rfl, 0, rfl⟩
  · obtain ⟨r, x, rfl⟩ := snoc_of_ne hne
    have hx0 : x ≠ 0 := ca x (by simp)
    obtain ⟨aa, capa, rfl, _, _, hcell⟩ := ha.shape1
    obtain ⟨hxl, g, rfl, _, hg, hc⟩ := hcell r.length x (by simp)
    have hb := bl_words (l := r) (fun y hy => ha.2 y (by simp [hy])) hx0
    have HB : Hid (bl (val (r ++ [x])) = 32 * r.length + bl x) := hb
    have hbl := bl_le (n := x) (k := 32) (by omega)
    have hbx := bitLen_bl (x := x) (by omega)
    have HBX : Hid (Lib.bitLen x = bl x) := hbx
    have hbx2 : Lib.bitLen x ≤ 32 := by omega
    simp only [List.length_append, List.length_cons, List.length_nil] at *
    clear hcell hb hbx hne
    go_enter Tryz.func222, Tryz.ntmps222
    go_wp2
    go_quiet (first | (go_at_call 193; exact Calls.quiet_of_same (width_any _)) | (go_at_call 205; exact Calls.quiet_of_same (Tryz.bits_Len64 _ _ (by omega) (by omega))))
    go_wp2
    go_ret
    refine ⟨ret_int ?_, _, rfl⟩
    rw [HB.out]
    have := HBX.out
    omega
end Go.Proofs.YthdcceackfdbbaaGreatDoor
namespace Go.Proofs.YthdcceackfdbbaaGreatDoor
open Go.RowKit
set_option maxHeartbeats 800000 in
theorem mul_any (w : World) (va vb : Value) (la lb : List Nat) (ha : Own w 0 va la) (hb : Own w 0 vb lb) (hla : la.length ≤ 4096) (hlb : lb.length ≤ 4096) :
    Calls Tryz.prog 159 #[va, vb] w fun e w' => ∃ v' l', e = .returned v' ∧ Own w' w.heap.size v' l' ∧ Canon l' ∧ val l' = val la * val lb ∧ Below w.heap.size w w' := by
  obtain ⟨aa, capa, rfl, hlca, hcapa, hcella⟩ := ha.shape1
  obtain ⟨ab, capb, rfl, hlcb, hcapb, hcellb⟩ := hb.shape1
  have HA : Hid (∀ (i x : Nat), la[i]? = some x → x < 4294967296 ∧ ∃ g, aa = some ⟨g, 0, none⟩ ∧ 0 ≤ g ∧ g < w.heap.size ∧ w.cell? ⟨g, i, none⟩ = some (.int .u32 (x : Int))) := hcella
  have HB : Hid (∀ (i x : Nat), lb[i]? = some x → x < 4294967296 ∧ ∃ g, ab = some ⟨g, 0, none⟩ ∧ 0 ≤ g ∧ g < w.heap.size ∧ w.cell? ⟨g, i, none⟩ = some (.int .u32 (x : Int))) := hcellb
  clear hcella hcellb hcapa hcapb
  obtain ⟨i0, hi, hz0, hz1, hz2⟩ := info_parts Tryz.infoU32
  go_enter Tryz.func159, Tryz.ntmps159
  go_wp2_with (at_make; refine wpList_make_full _ rfl _ _ 225 rfl w.heap.size 124 i0 (.int .u32 0) 1 Tryz.underlying225 hi hz0 hz1 _ _ _ _ (la.length + lb.length) rfl rfl ?c1 ?c2 ?c3 ?c4 ?c5 ?c6)
  case c1 => omega
  case c2 => omega
  case c3 => rw [hz2]; omega
  case c4 => unfold maxLen; omega
  case c5 => exact Nat.le_refl _
  intro w1 hown hgrow
  have hown1 := own_made hown
  have hbel : Below w.heap.size w w1 := (Below.refl _ _).grown hgrow (Nat.le_refl _) (by intro k hk; cases hk)
  clear hown hgrow
  go_wp2
  go_loopw [19] (fun i wr => ∃ (k : Nat) (p : List Nat), k ≤ la.length ∧ i = .int .i64 k ∧ p.length = la.length + lb.length ∧
      Own wr w.heap.size (.slice (some ⟨w.heap.size, 0, none⟩) (la.length + lb.length) (la.length + lb.length)) p ∧ val (p.take (k + lb.length)) = val (la.take k) * val lb ∧ Below w.heap.size w wr)
    (fun i _ => la.length - (intOf i).toNat)
  case atStart => exact ⟨0, _, Nat.zero_le _, rfl, by simp, hown1, by rw [List.take_replicate, val_zeros]; simp [val], hbel⟩
  case round =>
    clear hown1 hbel
    obtain ⟨k, p0, hk, rfl, hp0, hown, hval, hbel⟩ := hrel
    have HV0 : Hid (val (p0.take (k + lb.length)) = val (la.take k) * val lb) := hval
    have HP0 : Hid (p0.length = la.length + lb.length) := hp0
    clear hval hp0
    by_cases hlt : k < la.length
    · obtain ⟨x, hx⟩ : ∃ x, la[k]? = some x := ⟨la[k], by simp [hlt]⟩
      obtain ⟨hxl, g, rfl, _, hg, hc⟩ := HA.out k x hx
      have hcr := hbel.cell (p := ⟨g, k, none⟩) hg
      rw [hc] at hcr
      have HX : Hid (la[k]? = some x) := hx
      clear hx hc
      go_wp2
      go_loopw [8, 26] (fun c i wr => ∃ (j : Nat) (p : List Nat) (cy : Nat), j ≤ lb.length ∧ i = .int .i64 j ∧ c = .int .u64 cy ∧ cy < 4294967296 ∧ p.length = la.length + lb.length ∧
          Own wr w.heap.size (.slice (some ⟨w.heap.size, 0, none⟩) (la.length + lb.length) (la.length + lb.length)) p ∧
          val (p.take (k + j)) + 4294967296 ^ (k + j) * cy = val (p0.take (k + j)) + 4294967296 ^ k * (x * val (lb.take j)) ∧ p.drop (k + j) = p0.drop (k + j) ∧ Below w.heap.size w wr)
        (fun _ i _ => lb.length - (intOf i).toNat)
      case atStart => exact ⟨0, p0, 0, Nat.zero_le _, rfl, rfl, by omega, HP0.out, hown, by simp [val], rfl, hbel⟩
      case round =>
        clear hown hbel hcr
        obtain ⟨j, p, cy, hj, rfl, rfl, hcy, hp, hown, hval, hdrop, hbel⟩ := hrel
        have HV : Hid (val (p.take (k + j)) + 4294967296 ^ (k + j) * cy = val (p0.take (k + j)) + 4294967296 ^ k * (x * val (lb.take j))) := hval
        have HP : Hid (p.length = la.length + lb.length) := hp
        have HD : Hid (p.drop (k + j) = p0.drop (k + j)) := hdrop
        clear hval hp hdrop
        by_cases hlt2 : j < lb.length
        · obtain ⟨y, hy⟩ : ∃ y, lb[j]? = some y := ⟨lb[j], by simp [hlt2]⟩
          obtain ⟨hyl, g2, rfl, _, hg2, hc⟩ := HB.out j y hy
          have hcr := hbel.cell (p := ⟨g2, j, none⟩) hg2
          rw [hc] at hcr
          obtain ⟨z, hz, hzl, hold⟩ := hown.at (j := k + j) (by omega)
          have hfr := hown.frozenW (k + j)
          have HY : Hid (lb[j]? = some y) := hy
          have HZ : Hid (p[k + j]? = some z) := hz
          obtain ⟨hb1, hb2⟩ := mul_carry hcy hxl hyl hzl
          clear hy hc hz
          go_wp2_with (go_at_call 193; refine (width_any _).mono ?_; rintro e w' ⟨rfl, rfl⟩)
          go_roundw
          case rel =>
            have e1 : ((cy : Int) + ((x : Int) * (y : Int) + (z : Int))) % 4294967296 = (((cy + (x * y + z)) % 4294967296 : Nat) : Int) := by simp
            have e2 : ((cy : Int) + ((x : Int) * (y : Int) + (z : Int))) / 4294967296 = (((cy + (x * y + z)) / 4294967296 : Nat) : Int) := by simp
            rw [e1, e2]
            exact ⟨j + 1, p.set (k + j) ((cy + (x * y + z)) % 4294967296), _, by omega, by go_num, rfl, hb2, by simp [HP.out], hown.stored (by simp [HP.out]) (k + j) (Nat.mod_lt _ (by omega)),
              mul_step (by rw [HP.out]; omega) (get_of_drop HD.out HZ.out) HY.out (by omega) HV.out, drop_step HD.out, hbel.setCell (Nat.le_refl _) _⟩
          case measure => simp [intOf]; omega
        · have HJ : Hid (j = lb.length) := by unfold Hid; omega
          obtain ⟨z, hz, hzl, hold⟩ := hown.at (j := k + lb.length) (by omega)
          have hfr := hown.frozenW (k + lb.length)
          clear hz
          go_wp2
          go_roundw
          case rel =>
            have hv := HV.out
            rw [HJ.out] at hv
            exact ⟨k + 1, p.set (k + lb.length) cy, by omega, by go_num, by simp [HP.out], hown.stored (by simp [HP.out]) (k + lb.length) hcy, mul_row (by rw [HP.out]; omega) HX.out HV0.out hv, hbel.setCell (Nat.le_refl _) _⟩
          case measure => simp [intOf]; omega
    · have HK : Hid (k = la.length) := by unfold Hid; omega
      go_wp2_with fail
      refine (trim_any _ _ _ _ hown).mono ?_
      rintro e w' ⟨v', rfl, hown3, rfl⟩
      go_wp2
      go_ret
      refine ⟨v', _, rfl, hown3, trimL_canon _, ?_, hbel⟩
      have hv := HV0.out
      rw [HK.out, List.take_length, List.take_of_length_le (by rw [HP0.out]; omega)] at hv
      rw [trimL_val, hv]
end Go.Proofs.YthdcceackfdbbaaGreatDoor
namespace Go.Proofs.YthdcceackfdbbaaGreatDoor
open Go.RowKit
theorem or_shl {cy x od : Nat} (hc : cy < 2 ^ od) (hx : x < 4294967296) (ho : od < 32) : bits .or .u64 (cy : Int) (IntKind.u64.wrap ((x : Int) * 2 ^ od)) = ((cy + x * 2 ^ od : Nat) : Int) := by
  have h1 : 2 ^ od ≤ 2 ^ 31 := Nat.pow_le_pow_right (by omega) (by omega)
  have h2 : x * 2 ^ od ≤ 4294967295 * 2 ^ 31 := Nat.mul_le_mul (by omega) h1
  have e : (x : Int) * 2 ^ od = ((x * 2 ^ od : Nat) : Int) := by simp
  rw [e, IntKind.wrap_u64, show ((x * 2 ^ od : Nat) : Int) % 18446744073709551616 = ((x * 2 ^ od : Nat) : Int) from by omega]
  rw [u64_or_nat _ _ (by omega) (by omega), Nat.or_comm, nat_join od _ _ (Nat.mul_mod_left _ _) hc, Nat.add_comm]
theorem shl_carry {cy x od : Nat} (hc : cy < 2 ^ od) (hx : x < 4294967296) : (cy + x * 2 ^ od) / 4294967296 < 2 ^ od := by
  refine Nat.div_lt_of_lt_mul ?_
  have h2 : (x + 1) * 2 ^ od ≤ 4294967296 * 2 ^ od := Nat.mul_le_mul_right _ (by omega)
  rw [Nat.add_mul] at h2
  omega
theorem shift_step {p la : List Nat} {wd k x cy od r c' : Nat} (hp : wd + k < p.length) (hx : la[k]? = some x) (ht : r + 4294967296 * c' = cy + x * 2 ^ od)
    (h : val (p.take (wd + k)) + 4294967296 ^ (wd + k) * cy = 4294967296 ^ wd * (val (la.take k) * 2 ^ od)) :
    val ((p.set (wd + k) r).take (wd + (k + 1))) + 4294967296 ^ (wd + (k + 1)) * c' = 4294967296 ^ wd * (val (la.take (k + 1)) * 2 ^ od) := by
  rw [show wd + (k + 1) = (wd + k) + 1 from by omega, set_take_succ hp, val_snoc, take_len (by omega), val_take_succ (.inl hx)]
  have e1 : 4294967296 ^ (wd + k + 1) * c' = 4294967296 ^ (wd + k) * (4294967296 * c') := by rw [Nat.pow_succ, Nat.mul_assoc]
  have e2 : 4294967296 ^ (wd + k) * (r + 4294967296 * c') = 4294967296 ^ (wd + k) * (cy + x * 2 ^ od) := by rw [ht]
  have e3 : 4294967296 ^ wd * ((val (la.take k) + 4294967296 ^ k * x) * 2 ^ od) = 4294967296 ^ wd * (val (la.take k) * 2 ^ od) + 4294967296 ^ (wd + k) * (x * 2 ^ od) := by
    rw [Nat.add_mul, Nat.mul_add, Nat.pow_add, Nat.mul_assoc (4294967296 ^ k), Nat.mul_assoc (4294967296 ^ wd)]
  rw [Nat.mul_add, Nat.mul_add] at e2
  rw [e1, e3]
  omega
theorem shift_end {p la : List Nat} {wd cy od n : Nat} (hw : wd = n / 32) (ho : od = n % 32) (hp : p.length = wd + la.length + 1)
    (h : val (p.take (wd + la.length)) + 4294967296 ^ (wd + la.length) * cy = 4294967296 ^ wd * (val (la.take la.length) * 2 ^ od)) : val (p.set (wd + la.length) cy) = val la * 2 ^ n := by
  rw [val_set_last hp, h, List.take_length, pow_word, Nat.mul_left_comm, ← Nat.pow_add, show 32 * wd + od = n from by omega]
set_option maxHeartbeats 800000 in
theorem shift_any (w : World) (va : Value) (la : List Nat) (n : Nat) (ha : Own w 0 va la) (hla : la.length ≤ 4096) (hn : n ≤ 100000) :
    Calls Tryz.prog 196 #[va, .int .i64 n] w fun e w' => ∃ v' l', e = .returned v' ∧ Own w' w.heap.size v' l' ∧ Canon l' ∧ val l' = val la * 2 ^ n ∧ Below w.heap.size w w' := by
  obtain ⟨aa, capa, rfl, hlca, hcapa, hcella⟩ := ha.shape1
  have HA : Hid (∀ (i x : Nat), la[i]? = some x → x < 4294967296 ∧ ∃ g, aa = some ⟨g, 0, none⟩ ∧ 0 ≤ g ∧ g < w.heap.size ∧ w.cell? ⟨g, i, none⟩ = some (.int .u32 (x : Int))) := hcella
  clear hcella hcapa
  obtain ⟨i0, hi, hz0, hz1, hz2⟩ := info_parts Tryz.infoU32
  go_enter Tryz.func196, Tryz.ntmps196
  go_wp2
  go_quiet ((go_at_call 193; exact Calls.quiet_of_same (width_any _)))
  obtain ⟨wd, hwd⟩ : ∃ wd, wd = n / 32 := ⟨_, rfl⟩
  obtain ⟨od, hod⟩ : ∃ od, od = n % 32 := ⟨_, rfl⟩
  have hod2 : od < 32 := by omega
  have hwd2 : wd ≤ 4000 := by omega
  have e1 : (n : Int) / 32 = (wd : Int) := by omega
  have e2 : (n : Int) % 32 = (od : Int) := by omega
  rw [e1, e2]
  have HW : Hid (wd = n / 32) := hwd
  have HO : Hid (od = n % 32) := hod
  clear hwd hod e1 e2
  go_wp2_with (at_make; refine wpList_make_full _ rfl _ _ 225 rfl w.heap.size 124 i0 (.int .u32 0) 1 Tryz.underlying225 hi hz0 hz1 _ _ _ _ (wd + la.length + 1) rfl rfl ?c1 ?c2 ?c3 ?c4 ?c5 ?c6)
  case c1 => omega
  case c2 => omega
  case c3 => rw [hz2]; omega
  case c4 => unfold maxLen; omega
  case c5 => simp
  intro w1 hown hgrow
  have hown1 := own_made hown
  have hbel : Below w.heap.size w w1 := ((below_drewN (Below.refl _ _) _)).grown hgrow (by simp) (by intro k hk; cases hk)
  clear hown hgrow
  go_wp2
  go_loopw [8, 25] (fun c i wr => ∃ (k : Nat) (p : List Nat) (cy : Nat), k ≤ la.length ∧ i = .int .i64 k ∧ c = .int .u64 cy ∧ cy < 2 ^ od ∧ p.length = wd + la.length + 1 ∧
      Own wr w.heap.size (.slice (some ⟨w.heap.size, 0, none⟩) (wd + la.length + 1) (wd + la.length + 1)) p ∧ val (p.take (wd + k)) + 4294967296 ^ (wd + k) * cy = 4294967296 ^ wd * (val (la.take k) * 2 ^ od) ∧ Below w.heap.size w wr)
    (fun _ i _ => la.length - (intOf i).toNat)
  case atStart => exact ⟨0, _, 0, Nat.zero_le _, rfl, rfl, Nat.pow_pos (by omega), by simp, hown1, by rw [List.take_replicate, val_zeros]; simp [val], hbel⟩
  case round =>
    clear hown1 hbel
    obtain ⟨k, p, cy, hk, rfl, rfl, hcy, hp, hown, hval, hbel⟩ := hrel
    have HV : Hid (val (p.take (wd + k)) + 4294967296 ^ (wd + k) * cy = 4294967296 ^ wd * (val (la.take k) * 2 ^ od)) := hval
    have HP : Hid (p.length = wd + la.length + 1) := hp
    have HC : Hid (cy < 2 ^ od) := hcy
    have hcy2 : cy < 4294967296 := by have : 2 ^ od ≤ 2 ^ 31 := Nat.pow_le_pow_right (by omega) (by omega); omega
    clear hval hp hcy
    by_cases hlt : k < la.length
    · obtain ⟨x, hx⟩ : ∃ x, la[k]? = some x := ⟨la[k], by simp [hlt]⟩
      obtain ⟨hxl, g, rfl, _, hg, hc⟩ := HA.out k x hx
      have hcr := hbel.cell (p := ⟨g, k, none⟩) hg
      rw [hc] at hcr
      have HX : Hid (la[k]? = some x) := hx
      obtain ⟨z, hz, hzl, hold⟩ := hown.at (j := wd + k) (by omega)
      have hfr := hown.frozenW (wd + k)
      clear hx hc hz
      go_wp2_with (go_at_call 193; refine (width_any _).mono ?_; rintro e w' ⟨rfl, rfl⟩)
      go_roundw
      case rel =>
        rw [or_shl HC.out hxl hod2]
        have e1 : ((cy + x * 2 ^ od : Nat) : Int) % 4294967296 = (((cy + x * 2 ^ od) % 4294967296 : Nat) : Int) := by omega
        have e2 : ((cy + x * 2 ^ od : Nat) : Int) / 4294967296 = (((cy + x * 2 ^ od) / 4294967296 : Nat) : Int) := by omega
        rw [e1, e2]
        exact ⟨k + 1, p.set (wd + k) ((cy + x * 2 ^ od) % 4294967296), _, by omega, by go_num, rfl, shl_carry HC.out hxl, by simp [HP.out], hown.stored (by simp [HP.out]) (wd + k) (Nat.mod_lt _ (by omega)),
          shift_step (by rw [HP.out]; omega) HX.out (by omega) HV.out, hbel.setCell (Nat.le_refl _) _⟩
      case measure => simp [intOf]; omega
    · have HK : Hid (k = la.length) := by unfold Hid; omega
      obtain ⟨z, hz, hzl, hold⟩ := hown.at (j := wd + la.length) (by omega)
      have hfr := hown.frozenW (wd + la.length)
      clear hz
      go_wp2_with fail
      have hown2 := hown.stored (by simp [HP.out]) (wd + la.length) hcy2
      refine (trim_any _ _ _ _ hown2).mono ?_
      rintro e w' ⟨v', rfl, hown3, rfl⟩
      go_wp2
      go_ret
      refine ⟨v', _, rfl, hown3, trimL_canon _, ?_, hbel.setCell (Nat.le_refl _) _⟩
      have hv := HV.out
      rw [HK.out] at hv
      rw [trimL_val, shift_end HW.out HO.out HP.out hv]
end Go.Proofs.YthdcceackfdbbaaGreatDoor
namespace Go.Proofs.YthdcceackfdbbaaGreatDoor
open Go.RowKit
theorem Rep.len {w : World} {B : Nat} {v : Value} {l : List Nat} {n : Nat} (_h : Own w B v l) (hc : Canon l) (hv : val l = n) (hn : Small n) : l.length ≤ 4096 := by
  have := canon_len_small hc (by rw [hv]; exact hn); omega
theorem Own.drewN {w : World} {B : Nat} {v : Value} {l : List Nat} (h : Own w B v l) (n : Nat) : Own (w.drewN n) B v l := h.below (below_drewN (Below.refl _ _) n)
theorem Rep.drewN {w : World} {B : Nat} {v : Value} {a : Nat} (h : Rep w B v a) (n : Nat) : Rep (w.drewN n) B v a := h.below (below_drewN (Below.refl _ _) n)
theorem mulAdd_rep (w : World) (v : Value) (a f m : Nat) (h : Rep w 0 v a) (ha : Small a) (hf : f < 4294967296) (hm : m < 4294967296) :
    Calls Tryz.prog 157 #[v, .int .u32 f, .int .u32 m] w fun e w' => ∃ v', e = .returned v' ∧ Rep w' w.heap.size v' (a * f + m) ∧ Below w.heap.size w w' := by
  obtain ⟨l, h1, h2, h3⟩ := h
  refine (mulAdd_any w v l f m h1 (Rep.len h1 h2 h3 ha) hf hm).mono ?_
  rintro e w' ⟨v', l', he, ho, hc, hv, hb⟩
  exact ⟨v', he, ⟨l', ho, hc, by rw [hv, h3]⟩, hb⟩
theorem mul_rep (w : World) (va vb : Value) (a b : Nat) (ha : Rep w 0 va a) (hb : Rep w 0 vb b) (la : Small a) (lb : Small b) :
    Calls Tryz.prog 159 #[va, vb] w fun e w' => ∃ v', e = .returned v' ∧ Rep w' w.heap.size v' (a * b) ∧ Below w.heap.size w w' := by
  obtain ⟨l, h1, h2, h3⟩ := ha
  obtain ⟨k, k1, k2, k3⟩ := hb
  refine (mul_any w va vb l k h1 k1 (Rep.len h1 h2 h3 la) (Rep.len k1 k2 k3 lb)).mono ?_
  rintro e w' ⟨v', l', he, ho, hc, hv, hb⟩
  exact ⟨v', he, ⟨l', ho, hc, by rw [hv, h3, k3]⟩, hb⟩
theorem shift_rep (w : World) (va : Value) (a n : Nat) (ha : Rep w 0 va a) (la : Small a) (hn : n ≤ 100000) :
    Calls Tryz.prog 196 #[va, .int .i64 n] w fun e w' => ∃ v', e = .returned v' ∧ Rep w' w.heap.size v' (a * 2 ^ n) ∧ Below w.heap.size w w' := by
  obtain ⟨l, h1, h2, h3⟩ := ha
  refine (shift_any w va l n h1 (Rep.len h1 h2 h3 la) hn).mono ?_
  rintro e w' ⟨v', l', he, ho, hc, hv, hb⟩
  exact ⟨v', he, ⟨l', ho, hc, by rw [hv, h3]⟩, hb⟩
theorem compare_rep (w : World) (va vb : Value) (a b : Nat) (ha : Rep w 0 va a) (hb : Rep w 0 vb b) (la : Small a) :
    Calls Tryz.prog 197 #[va, vb] w fun e w' => e = .returned (.int .i64 (cmpI a b)) ∧ ∃ n, w' = w.drewN n := by
  obtain ⟨l, h1, h2, h3⟩ := ha
  obtain ⟨k, k1, k2, k3⟩ := hb
  have := compare_any w va vb l k h1 k1 h2 k2 (Rep.len h1 h2 h3 la)
  rw [h3, k3] at this
  exact this
theorem bitlen_rep (w : World) (va : Value) (a : Nat) (ha : Rep w 0 va a) (la : Small a) :
    Calls Tryz.prog 222 #[va] w fun e w' => e = .returned (.int .i64 (bl a)) ∧ ∃ n, w' = w.drewN n := by
  obtain ⟨l, h1, h2, h3⟩ := ha
  have := bitlen_any w va l h1 h2 (Rep.len h1 h2 h3 la)
  rw [h3] at this
  exact this
theorem div_of {a b d r : Nat} (h : r + d * b = a) (hr : r < b) : a / b = d ∧ a % b = r := by
  subst h
  have hb : 0 < b := by omega
  rw [Nat.add_mul_div_right _ _ hb, Nat.add_mul_mod_self_right, Nat.div_eq_of_lt hr, Nat.mod_eq_of_lt hr]
  omega
theorem digit_le {a b d r : Nat} (h : r + d * b = a) (hb : b ≠ 0) (hr : b ≤ r) : d + 1 ≤ a / b := by
  rw [Nat.le_div_iff_mul_le (by omega), Nat.add_mul]; omega
theorem canon_le_len {la lb : List Nat} (hw : Wds la) (hc : Canon lb) (h : val lb ≤ val la) : lb.length ≤ la.length := by
  by_cases hh : lb.length ≤ la.length
  · exact hh
  · have := val_lt_len hw hc (by omega); omega
theorem Own.nonnil {w : World} {B : Nat} {v : Value} {l : List Nat} (h : Own w B v l) (hne : l ≠ []) : ∃ g cap, v = .slice (some ⟨g, 0, none⟩) l.length cap ∧ B ≤ g ∧ g < w.heap.size := by
  rcases h.shape with ⟨_, rfl⟩ | ⟨g, cap, rfl, h1, h2, _⟩
  · exact absurd rfl hne
  · exact ⟨g, cap, rfl, h1, h2⟩
theorem Own.blockLt {w : World} {B : Nat} {v : Value} {l : List Nat} (h : Own w B v l) {k : Nat} (hk : v.ownBlock = some k) : k < w.heap.size := (h.1.lt k hk).2
set_option maxHeartbeats 800000 in
theorem digit_any (w : World) (va vb : Value) (a b : Nat) (ha : Rep w 0 va a) (hb : Rep w 0 vb b) (hb0 : b ≠ 0) (la : Small a) (hq : a / b ≤ 1000000) :
    Calls Tryz.prog 167 #[va, vb] w fun e w' => ∃ v', e = .returned (.tuple #[.int .i64 ((a / b : Nat) : Int), v']) ∧ Rep w' w.heap.size v' (a % b) ∧ Below w.heap.size w w' := by
  obtain ⟨l, h1, h2, h3⟩ := ha
  obtain ⟨k, k1, k2, k3⟩ := hb
  have hll := Rep.len h1 h2 h3 la
  have HQ : Hid (a / b ≤ 1000000) := hq
  have HK3 : Hid (val k = b) := k3
  have HH3 : Hid (val l = a) := h3
  clear hq k3 h3
  go_enter Tryz.func167, Tryz.ntmps167
  go_wp2_with fail
  refine (clone_any _ _ _ h1 hll).mono ?_
  rintro e w1 ⟨v1, rfl, ho1, hb1⟩
  go_wp2_with fail
  go_loopw [6, 7] (fun s v wr => ∃ (d r : Nat) (l' : List Nat), s = .int .i64 d ∧ Own wr w.heap.size v l' ∧ Canon l' ∧ val l' = r ∧ r + d * b = a ∧ Below w.heap.size w wr) (fun s _ _ => a - (intOf s).toNat)
  case atStart => exact ⟨0, a, l, rfl, ho1, h2, HH3.out, by simp, hb1⟩
  case round =>
    clear ho1 hb1
    obtain ⟨d, r, l', rfl, ho, hc, hv, he, hbel⟩ := hrel
    have HE : Hid (r + d * b = a) := he
    have HV : Hid (val l' = r) := hv
    have hra : Small r := la.le (by omega)
    have hl' := Rep.len ho hc hv hra
    have k1r : Own wr 0 vb k := k1.below hbel
    clear he hv
    go_wp2_with fail
    refine (compare_rep wr u7 vb r b ⟨l', ho.base (Nat.zero_le _), hc, HV.out⟩ ⟨k, k1r, k2, HK3.out⟩ hra).mono ?_
    rintro e w2 ⟨rfl, nq, rfl⟩
    by_cases hge : b ≤ r
    · have hd := digit_le HE.out hb0 hge
      have hd2 : d + 1 ≤ 1000000 := Nat.le_trans hd HQ.out
      have hda : d < a := by have := Nat.div_le_self a b; omega
      have hcm : (0 : Int) ≤ cmpI (r : Int) (b : Int) := by unfold cmpI; split <;> (try split) <;> omega
      generalize cmpI (r : Int) (b : Int) = cm at hcm ⊢
      have hne : l' ≠ [] := by intro e; have := HV.out; rw [e] at this; simp [val] at this; omega
      obtain ⟨g, cap, hu, hg1, hg2⟩ := ho.nonnil hne
      subst hu
      clear hd hne
      go_wp2_with fail
      have hlek : k.length ≤ l'.length := canon_le_len ho.2 k2 (by rw [HV.out, HK3.out]; exact hge)
      refine (take_any _ w.heap.size g l'.length cap vb l' k (ho.drewN nq) (k1r.drewN nq) (by intro e; have := k1.blockLt e; omega) hl' hlek (by rw [HV.out, HK3.out]; exact hge)).mono ?_
      rintro e w3 ⟨rfl, ⟨p, hp1, hp2, hp3⟩, hgr⟩
      have HP2 : Hid (val p = val l' - val k) := hp2
      have hb3 : Below w.heap.size w w3 := (below_drewN hbel nq).grown hgr (by have := hbel.size; simpa using this) (by intro q hq; cases hq; exact hg1)
      clear hp2
      go_wp2_with fail
      refine (trim_any _ _ _ _ hp1).mono ?_
      rintro e w4 ⟨v4, rfl, ho4, rfl⟩
      go_wp2
      go_roundw
      case rel =>
        refine ⟨d + 1, r - b, _, by go_num, ho4, trimL_canon _, ?_, ?_, hb3⟩
        · rw [trimL_val, HP2.out, HV.out, HK3.out]
        · have := HE.out; rw [Nat.add_mul]; omega
      case measure => simp [intOf]; omega
    · have hcm : cmpI (r : Int) (b : Int) = -1 := cmpI_lt (by omega)
      rw [hcm]
      obtain ⟨q1, q2⟩ := div_of HE.out (by omega)
      have Q1 : Hid (a / b = d) := q1
      have Q2 : Hid (a % b = r) := q2
      clear q1 q2 hcm
      go_wp2
      go_ret2
      refine ⟨u7, by rw [Q1.out]; rfl, ⟨l', ho.drewN nq, hc, by rw [Q2.out, HV.out]⟩, below_drewN hbel nq⟩
theorem and_one_i64 (i : Nat) (hi : i < 9223372036854775808) : bits BinOp.and IntKind.i64 (i : Int) 1 = ((i % 2 : Nat) : Int) := by
  have two63 : (2 : Int) ^ 63 = 9223372036854775808 := by decide
  have h := bits_mask .i64 63 (by decide) (fun n h0 h1 => by rw [two63] at h1; rw [IntKind.wrap_i64]; omega) 1 (by decide) (i : Int) (by omega) (by rw [two63]; omega)
  have e : ((2 : Int) ^ 1 - 1) = 1 := by decide
  rw [e] at h
  rw [h]
  omega
theorem pow_half (b n j : Nat) : b ^ (n / 2 ^ j) = b ^ (n / 2 ^ (j + 1)) * b ^ (n / 2 ^ (j + 1)) * b ^ (n / 2 ^ j % 2) := by
  rw [← Nat.pow_add, ← Nat.pow_add]
  congr 1
  rw [Nat.pow_succ, ← Nat.div_div_eq_div_mul]
  omega
theorem pow_le_n {b n m : Nat} (hb : 1 ≤ b) (h : Small (b ^ n)) (hm : m ≤ n) : Small (b ^ m) := h.le (Nat.pow_le_pow_right hb hm)
set_option maxHeartbeats 800000 in
theorem power_any (w : World) (b n : Nat) (hb : 1 ≤ b) (hb2 : b < 4294967296) (hn : n ≤ 100000) (hL : Small (b ^ n)) :
    Calls Tryz.prog 198 #[.int .u32 b, .int .i64 n] w fun e w' => ∃ v', e = .returned v' ∧ Rep w' w.heap.size v' (b ^ n) ∧ Below w.heap.size w w' := by
  have hbits : Lib.bitLen n ≤ 64 := Lib.bitLen_le n 64 (by omega) (by omega)
  have hz : n / 2 ^ Lib.bitLen n = 0 := by rw [bitLen_bl (by omega)]; exact Nat.div_eq_of_lt (bl_hi n)
  have HZ : Hid (n / 2 ^ Lib.bitLen n = 0) := hz
  clear hz
  go_enter Tryz.func198, Tryz.ntmps198
  go_wp2_with fail
  refine (of_any _ 1 (by omega)).mono ?_
  rintro e w1 ⟨v1, rfl, ho1, hb1⟩
  go_wp2_with fail
  refine (Tryz.bits_Len _ _ (by omega) (by omega)).mono ?_
  rintro e w2 ⟨rfl, rfl⟩
  rw [Int.toNat_natCast]
  generalize hbt : Lib.bitLen n = t at *
  have HT : Hid (Lib.bitLen n = t) := hbt
  clear hbt
  go_wp2_with fail
  go_loopw [5, 6] (fun v i wr => ∃ (k : Nat), k ≤ t ∧ i = .int .i64 ((k : Int) - 1) ∧ Rep wr w.heap.size v (b ^ (n / 2 ^ k)) ∧ Below w.heap.size w wr) (fun _ i _ => (intOf i + 1).toNat)
  case atStart => exact ⟨t, Nat.le_refl _, rfl, by rw [HZ.out]; exact ho1, hb1⟩
  case round =>
    clear ho1 hb1
    obtain ⟨k, hk, rfl, ho, hbel⟩ := hrel
    cases k with
    | zero =>
      go_wp2
      go_ret
      exact ⟨u5, rfl, by simpa using ho, hbel⟩
    | succ j =>
      have e : ((j + 1 : Nat) : Int) - 1 = (j : Int) := by omega
      rw [e]
      clear e
      go_wp2_with fail
      have hl1 : Small (b ^ (n / 2 ^ (j + 1))) := pow_le_n hb hL (Nat.div_le_self _ _)
      refine (mul_rep _ u5 u5 _ _ (ho.base (Nat.zero_le _)) (ho.base (Nat.zero_le _)) hl1 hl1).mono ?_
      rintro e w3 ⟨v3, rfl, ho3, hb3⟩
      clear hl1
      have hj : j < 64 := by omega
      have hq : n / 2 ^ j < 9223372036854775808 := Nat.lt_of_le_of_lt (Nat.div_le_self _ _) (by omega)
      have eb : bits BinOp.and IntKind.i64 ((n : Int) / 2 ^ j) 1 = ((n / 2 ^ j % 2 : Nat) : Int) := by
        rw [show (n : Int) / 2 ^ j = ((n / 2 ^ j : Nat) : Int) from by simp]
        exact and_one_i64 _ hq
      have EB : Hid (bits BinOp.and IntKind.i64 ((n : Int) / 2 ^ j) 1 = ((n / 2 ^ j % 2 : Nat) : Int)) := eb
      have hl2 : Small (b ^ (n / 2 ^ (j + 1)) * b ^ (n / 2 ^ (j + 1))) := by
        refine Small.le (pow_le_n hb hL (Nat.div_le_self n (2 ^ j))) ?_
        rw [pow_half b n j]
        exact Nat.le_mul_of_pos_right _ (Nat.pow_pos hb)
      have hb4 : Below w.heap.size w w3 := hbel.trans (hb3.mono hbel.size)
      have ho4 := ho3.base hbel.size
      have hph := pow_half b n j
      have HPH : Hid (b ^ (n / 2 ^ j) = b ^ (n / 2 ^ (j + 1)) * b ^ (n / 2 ^ (j + 1)) * b ^ (n / 2 ^ j % 2)) := hph
      clear hph hq eb
      rcases Nat.mod_two_eq_zero_or_one (n / 2 ^ j) with hbit | hbit
      rotate_left
      · have hbt : (bits BinOp.and IntKind.i64 ((n : Int) / 2 ^ j) 1 == 1) = true := by rw [EB.out, hbit]; rfl
        have HBIT : Hid (n / 2 ^ j % 2 = 1) := hbit
        clear hbit
        go_wp2_with fail
        refine (mulAdd_rep _ v3 _ b 0 (ho3.base (Nat.zero_le _)) hl2 hb2 (by omega)).mono ?_
        rintro e w5 ⟨v5, rfl, ho5, hb5⟩
        go_wp2
        go_roundw
        case rel =>
          refine ⟨j, by omega, rfl, ?_, hb4.trans (hb5.mono hb4.size)⟩
          rw [HPH.out, HBIT.out]
          simpa using ho5.base hb4.size
        case measure => simp [intOf]
      · have hbt : (bits BinOp.and IntKind.i64 ((n : Int) / 2 ^ j) 1 == 1) = false := by rw [EB.out, hbit]; rfl
        have HBIT : Hid (n / 2 ^ j % 2 = 0) := hbit
        clear hbit
        go_wp2
        go_roundw
        case rel =>
          refine ⟨j, by omega, rfl, ?_, hb4⟩
          rw [HPH.out, HBIT.out]
          simpa using ho4
        case measure => simp [intOf]
end Go.Proofs.YthdcceackfdbbaaGreatDoor
namespace Go.Proofs.YthdcceackfdbbaaGreatDoor
def rhe (n d : Nat) : Nat := if d < 2 * (n % d) ∨ (2 * (n % d) = d ∧ n / d % 2 = 1) then n / d + 1 else n / d
theorem rhe_scale (n d c : Nat) (hc : 0 < c) : rhe (n * c) (d * c) = rhe n d := by
  unfold rhe
  rw [Nat.mul_mod_mul_right, Nat.mul_div_mul_right _ _ hc]
  have h1 : d * c < 2 * (n % d * c) ↔ d < 2 * (n % d) := by rw [← Nat.mul_assoc]; exact Nat.mul_lt_mul_right hc
  have h2 : 2 * (n % d * c) = d * c ↔ 2 * (n % d) = d := by rw [← Nat.mul_assoc]; exact Nat.mul_right_cancel_iff hc
  simp only [h1, h2]
def plog (a b : Nat) : Int :=
  if 0 ≤ (bl a : Int) - bl b then (if a < b * 2 ^ ((bl a : Int) - bl b).toNat then (bl a : Int) - bl b - 1 else (bl a : Int) - bl b)
  else (if a * 2 ^ (-((bl a : Int) - bl b)).toNat < b then (bl a : Int) - bl b - 1 else (bl a : Int) - bl b)
def rat (a b : Nat) (e : Int) : Nat := if 0 ≤ e then rhe a (b * 2 ^ e.toNat) else rhe (a * 2 ^ (-e).toNat) b
def eOf (p : Int) : Int := if p < -1022 then -1074 else p - 52
def rnd (a b : Nat) : Nat := if 1023 < plog a b then 9218868437227405312 else (eOf (plog a b) + 1074).toNat * 4503599627370496 + rat a b (eOf (plog a b))
theorem power_unique {a b i j i' j' : Nat} (h1 : b * 2 ^ j ≤ a * 2 ^ i) (h2 : a * 2 ^ i' < 2 * (b * 2 ^ j')) : (j : Int) - i ≤ (j' : Int) - i' := by
  by_cases hh : (j : Int) - i ≤ (j' : Int) - i'
  · exact hh
  · exfalso
    have hle : j' + 1 + i ≤ j + i' := by omega
    have e1 := Nat.mul_le_mul_right (2 ^ i') h1
    have e2 := (Nat.mul_lt_mul_right (a := 2 ^ i) (Nat.pow_pos (by omega))).2 h2
    have e3 : a * 2 ^ i * 2 ^ i' = a * 2 ^ i' * 2 ^ i := by rw [Nat.mul_assoc, Nat.mul_assoc, Nat.mul_comm (2 ^ i)]
    have e4 : b * 2 ^ j * 2 ^ i' = b * 2 ^ (j + i') := by rw [Nat.mul_assoc, Nat.pow_add]
    have e5 : 2 * (b * 2 ^ j') * 2 ^ i = b * 2 ^ (j' + 1 + i) := by
      rw [Nat.pow_add, Nat.pow_succ, Nat.mul_comm 2 (b * _), Nat.mul_assoc, Nat.mul_assoc, Nat.mul_assoc]
    have e6 : b * 2 ^ (j' + 1 + i) ≤ b * 2 ^ (j + i') := Nat.mul_le_mul_left _ (Nat.pow_le_pow_right (by omega) hle)
    omega
theorem norm_ge {a b : Nat} (ha : a ≠ 0) (hb : b ≠ 0) (h : bl b ≤ bl a) : a < 2 * (b * 2 ^ (bl a - bl b)) ∧ b * 2 ^ (bl a - bl b) < 2 * a := by
  have a1 := bl_lo ha
  have a2 := bl_hi a
  have b1 := bl_lo hb
  have b2 := bl_hi b
  have p1 := bl_pos ha
  have p2 := bl_pos hb
  have e1 : 2 ^ bl a = 2 * 2 ^ (bl a - 1) := by rw [← Nat.pow_succ']; congr 1; omega
  have e2 : 2 ^ (bl b - 1) * 2 ^ (bl a - bl b) = 2 ^ (bl a - 1) := by rw [← Nat.pow_add]; congr 1; omega
  have e3 : 2 ^ bl b * 2 ^ (bl a - bl b) = 2 ^ bl a := by rw [← Nat.pow_add]; congr 1; omega
  have e4 := Nat.mul_le_mul_right (2 ^ (bl a - bl b)) b1
  have e5 := (Nat.mul_lt_mul_right (a := 2 ^ (bl a - bl b)) (Nat.pow_pos (by omega))).2 b2
  exact ⟨by omega, by omega⟩
theorem plog_eq {a b i j : Nat} (ha : a ≠ 0) (hb : b ≠ 0) (h1 : b * 2 ^ j ≤ a * 2 ^ i) (h2 : a * 2 ^ i < 2 * (b * 2 ^ j)) : plog a b = (j : Int) - i := by
  have key : ∃ i' j' : Nat, plog a b = (j' : Int) - i' ∧ b * 2 ^ j' ≤ a * 2 ^ i' ∧ a * 2 ^ i' < 2 * (b * 2 ^ j') := by
    unfold plog
    by_cases hk : 0 ≤ (bl a : Int) - bl b
    · rw [if_pos hk]
      obtain ⟨n1, n2⟩ := norm_ge ha hb (by omega)
      have et : ((bl a : Int) - bl b).toNat = bl a - bl b := by omega
      rw [et]
      by_cases hc : a < b * 2 ^ (bl a - bl b)
      · rw [if_pos hc]; exact ⟨1, bl a - bl b, by omega, by omega, by omega⟩
      · rw [if_neg hc]; exact ⟨0, bl a - bl b, by omega, by omega, by omega⟩
    · rw [if_neg hk]
      obtain ⟨n1, n2⟩ := norm_ge hb ha (by omega)
      have et : (-((bl a : Int) - bl b)).toNat = bl b - bl a := by omega
      rw [et]
      by_cases hc : a * 2 ^ (bl b - bl a) < b
      · rw [if_pos hc]
        refine ⟨bl b - bl a + 1, 0, by omega, ?_, ?_⟩
        · rw [Nat.pow_succ, ← Nat.mul_assoc]; omega
        · rw [Nat.pow_succ, ← Nat.mul_assoc]; omega
      · rw [if_neg hc]; exact ⟨bl b - bl a, 0, by omega, by omega, by omega⟩
  obtain ⟨i', j', e, k1, k2⟩ := key
  have u1 := power_unique h1 k2
  have u2 := power_unique k1 h2
  omega
theorem rat_of {a b i j s : Nat} {e : Int} (he : e = (j : Int) + 1 - i - s) : rhe (a * 2 ^ i * 2 ^ s) (2 * (b * 2 ^ j)) = rat a b e := by
  unfold rat
  have n1 : a * 2 ^ i * 2 ^ s = a * 2 ^ (i + s) := by rw [Nat.mul_assoc, Nat.pow_add]
  have n2 : 2 * (b * 2 ^ j) = b * 2 ^ (j + 1) := by rw [Nat.pow_succ]; simp only [Nat.mul_left_comm, Nat.mul_comm]
  rw [n1, n2]
  by_cases h : 0 ≤ e
  · rw [if_pos h]
    have e1 : j + 1 = e.toNat + (i + s) := by omega
    have e2 : b * 2 ^ (j + 1) = b * 2 ^ e.toNat * 2 ^ (i + s) := by rw [e1, Nat.pow_add, Nat.mul_assoc]
    rw [e2, rhe_scale _ _ _ (Nat.pow_pos (by omega))]
  · rw [if_neg h]
    have e1 : i + s = (-e).toNat + (j + 1) := by omega
    have e2 : a * 2 ^ (i + s) = a * 2 ^ (-e).toNat * 2 ^ (j + 1) := by rw [e1, Nat.pow_add, Nat.mul_assoc]
    rw [e2, rhe_scale _ _ _ (Nat.pow_pos (by omega))]
theorem rhe_small {n d : Nat} (h : 2 * n < d) : rhe n d = 0 := by
  unfold rhe
  rw [Nat.div_eq_of_lt (by omega), Nat.mod_eq_of_lt (by omega), if_neg (by omega)]
theorem rat_low {a b i j c : Nat} (h2 : a * 2 ^ i < 2 * (b * 2 ^ j)) (hc : 1 ≤ c) (hp : j + c + 2 ≤ i) : rat a b (-(c : Int)) = 0 := by
  unfold rat
  rw [if_neg (by omega), show (-(-(c : Int))).toNat = c from by omega]
  refine rhe_small ?_
  have hs : a * 2 ^ c * 2 ^ (i - c) < 2 * (b * 2 ^ j) := by
    rw [Nat.mul_assoc, ← Nat.pow_add, show c + (i - c) = i from by omega]; exact h2
  have e1 : 2 * (b * 2 ^ j) ≤ b * 2 ^ (i - c - 1) := by
    have h3 : 2 ^ (j + 1) ≤ 2 ^ (i - c - 1) := Nat.pow_le_pow_right (by omega) (by omega)
    have h4 := Nat.mul_le_mul_left b h3
    rw [Nat.pow_succ, ← Nat.mul_assoc] at h4
    omega
  have e2 : 2 ^ (i - c) = 2 * 2 ^ (i - c - 1) := by rw [← Nat.pow_succ']; congr 1; omega
  have e3 : a * 2 ^ c * 2 * 2 ^ (i - c - 1) < b * 2 ^ (i - c - 1) := by
    rw [e2, ← Nat.mul_assoc] at hs; omega
  have e4 := Nat.lt_of_mul_lt_mul_right e3
  omega
theorem rnd_low {a b i j : Nat} (ha : a ≠ 0) (hb : b ≠ 0) (h1 : b * 2 ^ j ≤ a * 2 ^ i) (h2 : a * 2 ^ i < 2 * (b * 2 ^ j)) (hp : (j : Int) - i < -1075) : rnd a b = 0 := by
  have hpl := plog_eq ha hb h1 h2
  unfold rnd
  rw [hpl, if_neg (by omega)]
  unfold eOf
  rw [if_pos (by omega)]
  have := rat_low (c := 1074) h2 (by omega) (by omega)
  rw [show (-((1074 : Nat) : Int)) = -1074 from rfl] at this
  rw [this]
  rfl
end Go.Proofs.YthdcceackfdbbaaGreatDoor
