/- Walks over the reference: minus, compare. Own text. -/
import Derived.Test.YthdcceackfdbbaaDoorRb
namespace Go.Proofs.YthdcceackfdbbaaDoor
open Go.RowKit

theorem minus_step {la lb s : List Nat} {k x y bw r b' : Nat} (hs : s.length = k) (hx : la[k]? = some x) (hy : lb[k]? = some y ∨ (lb.length ≤ k ∧ y = 0)) (e : x + 1000000000 * b' = r + y + bw)
    (h : valB (la.take k) + 1000000000 ^ k * bw = valB s + valB (lb.take k)) : valB (la.take (k + 1)) + 1000000000 ^ (k + 1) * b' = valB (s ++ [r]) + valB (lb.take (k + 1)) := by
  rw [val_snocB, val_take_succB (.inl hx), val_take_succB hy, hs]
  have e1 : 1000000000 ^ (k + 1) * b' = 1000000000 ^ k * (1000000000 * b') := by rw [Nat.pow_succ, Nat.mul_assoc]
  have e2 : 1000000000 ^ k * (x + 1000000000 * b') = 1000000000 ^ k * (r + y + bw) := by rw [e]
  rw [Nat.mul_add, Nat.mul_add, Nat.mul_add] at e2
  omega

theorem minus_end {la lb s : List Nat} {bw : Nat} (hw : WdsB s) (hs : s.length = la.length) (hlb : lb.length ≤ la.length) (hle : valB lb ≤ valB la) (h : valB (la.take la.length) + 1000000000 ^ la.length * bw = valB s + valB (lb.take la.length)) : valB s = valB la - valB lb := by
  have h1 := val_ltB hw
  rw [List.take_length, List.take_of_length_le hlb] at h
  rw [hs] at h1
  have : bw = 0 := by
    by_cases e : bw = 0
    · exact e
    · have : 1000000000 ^ la.length * 1 ≤ 1000000000 ^ la.length * bw := Nat.mul_le_mul_left _ (by omega)
      omega
  subst this
  omega

set_option maxRecDepth 5000 in
set_option maxHeartbeats 1600000 in
theorem minus_any (w : World) (va vb : Value) (la lb : List Nat) (ha : OwnB w 0 va la) (hb' : OwnB w 0 vb lb) (hla : la.length ≤ 1000000) :
    Calls Tryd.prog 47 #[va, vb] w fun e w' => ∃ v' l', e = .returned v' ∧ OwnB w' w.heap.size v' l' ∧ Canon l' ∧ (lb.length ≤ la.length → valB lb ≤ valB la → valB l' = valB la - valB lb) ∧ l'.length ≤ la.length ∧ Below w.heap.size w w' := by
  obtain ⟨aa, capa, rfl, hlca, hcapa, hcella⟩ := ha.shape1
  obtain ⟨ab, capb, rfl, hlcb, hcapb, hcellb⟩ := hb'.shape1
  have HA : Hid (∀ (i x : Nat), la[i]? = some x → x < 1000000000 ∧ ∃ g, aa = some ⟨g, 0, none⟩ ∧ 0 ≤ g ∧ g < w.heap.size ∧ w.cell? ⟨g, i, none⟩ = some (.int .i64 (x : Int))) := hcella
  have HB : Hid (∀ (i x : Nat), lb[i]? = some x → x < 1000000000 ∧ ∃ g, ab = some ⟨g, 0, none⟩ ∧ 0 ≤ g ∧ g < w.heap.size ∧ w.cell? ⟨g, i, none⟩ = some (.int .i64 (x : Int))) := hcellb
  unfold maxLen at hcapb
  clear hcella hcellb hcapa
  obtain ⟨i0, hi, hz0, hz1, hz2⟩ := info_parts Tryd.infoInt
  go_enter Tryd.func47, Tryd.ntmps47
  go_wp2
  go_loopw [5, 6, 7] (fun v c i wr => ∃ (k : Nat) (s : List Nat) (bw : Nat), k ≤ la.length ∧ i = .int .i64 k ∧ c = .int .i64 bw ∧ bw ≤ 1 ∧ s.length = k ∧ OwnB wr w.heap.size v s ∧
      valB (la.take k) + 1000000000 ^ k * bw = valB s + valB (lb.take k) ∧ Below w.heap.size w wr) (fun _ _ i _ => la.length - (intOf i).toNat)
  case atStart => exact ⟨0, [], 0, Nat.zero_le _, rfl, rfl, by omega, rfl, ownB_nil _ _, by simp [valB], Below.refl _ _⟩
  case round =>
    obtain ⟨k, s, bw, hk, rfl, rfl, hbw, hs, hown, hval, hbel⟩ := hrel
    have HV : Hid (valB (la.take k) + 1000000000 ^ k * bw = valB s + valB (lb.take k)) := hval
    have hsz := hbel.size
    have HS : Hid (s.length = k) := hs
    have hs2 : s.length ≤ 1000000 := by omega
    clear hval hs
    by_cases c1 : k < la.length
    · obtain ⟨x, hxx⟩ : ∃ x, la[k]? = some x := ⟨la[k], by simp [*]⟩
      obtain ⟨hlx, g, rfl, _, hgg, hcx⟩ := HA.out k x hxx
      have hcrx := hbel.cell (p := ⟨g, k, none⟩) hgg
      rw [hcx] at hcrx
      have HX : Hid (la[k]? = some x) := hxx
      clear hxx hcx
      by_cases c2 : k < lb.length
      · obtain ⟨y, hxy⟩ : ∃ y, lb[k]? = some y := ⟨lb[k], by simp [*]⟩
        obtain ⟨hly, g2, rfl, _, hgg2, hcy⟩ := HB.out k y hxy
        have hcry := hbel.cell (p := ⟨g2, k, none⟩) hgg2
        rw [hcy] at hcry
        have HY : Hid (lb[k]? = some y) := hxy
        clear hxy hcy
        by_cases c3 : x < bw + y
        · go_wp2_with (at_builtin; refine wpList_append_own _ rfl _ _ 41 rfl w.heap.size 3 i0 (.int .i64 0) 1 8 Tryd.underlying41 hi hz0 hz1 hz2 rfl (by decide) _ _ _ rfl (hown.1.alloc _) ⟨wr.heap.size, 0, none⟩ 1 1 [.int .i64 ((x : Int) - (bw : Int) - (y : Int) + 1000000000)] rfl rfl ?c1a ?c2a ?c3a ?c4a ?c5a ?_)
          case c1a => exact cell_one_new _ _ _
          case c2a => intro u hu; simp at hu; subst hu; rfl
          case c3a => unfold maxLen; omega
          case c4a => omega
          case c5a => simp; omega
          · intro v' w1 hown' hgrow _
            have e1 : ((x : Int) - (bw : Int) - (y : Int) + 1000000000) = ((x + 1000000000 - bw - y : Nat) : Int) := by omega
            rw [e1] at hown'
            have hr : OwnB w1 w.heap.size v' (s ++ [x + 1000000000 - bw - y]) := OwnB.ofRow hown' (by simp [i64s]) (wds_snocB hown.2 (by omega))
            have hb : Below w.heap.size w w1 := (hbel.alloc hsz _).grown hgrow (by simp; omega) (fun k hk => (hown.1.lt k hk).1)
            clear hown' hgrow hown hbel e1
            go_wp2
            go_roundw
            case rel => exact ⟨k + 1, s ++ [x + 1000000000 - bw - y], 1, by omega, by go_num, rfl, by omega, by simp [HS.out], hr, minus_step HS.out HX.out (.inl HY.out) (by omega) HV.out, hb⟩
            case measure => simp [intOf]; omega
        · go_wp2_with (at_builtin; refine wpList_append_own _ rfl _ _ 41 rfl w.heap.size 3 i0 (.int .i64 0) 1 8 Tryd.underlying41 hi hz0 hz1 hz2 rfl (by decide) _ _ _ rfl (hown.1.alloc _) ⟨wr.heap.size, 0, none⟩ 1 1 [.int .i64 ((x : Int) - (bw : Int) - (y : Int))] rfl rfl ?c1b ?c2b ?c3b ?c4b ?c5b ?_)
          case c1b => exact cell_one_new _ _ _
          case c2b => intro u hu; simp at hu; subst hu; rfl
          case c3b => unfold maxLen; omega
          case c4b => omega
          case c5b => simp; omega
          · intro v' w1 hown' hgrow _
            have e1 : ((x : Int) - (bw : Int) - (y : Int)) = ((x - bw - y : Nat) : Int) := by omega
            rw [e1] at hown'
            have hr : OwnB w1 w.heap.size v' (s ++ [x - bw - y]) := OwnB.ofRow hown' (by simp [i64s]) (wds_snocB hown.2 (by omega))
            have hb : Below w.heap.size w w1 := (hbel.alloc hsz _).grown hgrow (by simp; omega) (fun k hk => (hown.1.lt k hk).1)
            clear hown' hgrow hown hbel e1
            go_wp2
            go_roundw
            case rel => exact ⟨k + 1, s ++ [x - bw - y], 0, by omega, by go_num, rfl, by omega, by simp [HS.out], hr, minus_step HS.out HX.out (.inl HY.out) (by omega) HV.out, hb⟩
            case measure => simp [intOf]; omega
      · by_cases c3 : x < bw
        · go_wp2_with (at_builtin; refine wpList_append_own _ rfl _ _ 41 rfl w.heap.size 3 i0 (.int .i64 0) 1 8 Tryd.underlying41 hi hz0 hz1 hz2 rfl (by decide) _ _ _ rfl (hown.1.alloc _) ⟨wr.heap.size, 0, none⟩ 1 1 [.int .i64 ((x : Int) - (bw : Int) + 1000000000)] rfl rfl ?c1c ?c2c ?c3c ?c4c ?c5c ?_)
          case c1c => exact cell_one_new _ _ _
          case c2c => intro u hu; simp at hu; subst hu; rfl
          case c3c => unfold maxLen; omega
          case c4c => omega
          case c5c => simp; omega
          · intro v' w1 hown' hgrow _
            have e1 : ((x : Int) - (bw : Int) + 1000000000) = ((x + 1000000000 - bw : Nat) : Int) := by omega
            rw [e1] at hown'
            have hr : OwnB w1 w.heap.size v' (s ++ [x + 1000000000 - bw]) := OwnB.ofRow hown' (by simp [i64s]) (wds_snocB hown.2 (by omega))
            have hb : Below w.heap.size w w1 := (hbel.alloc hsz _).grown hgrow (by simp; omega) (fun k hk => (hown.1.lt k hk).1)
            clear hown' hgrow hown hbel e1
            go_wp2
            go_roundw
            case rel => exact ⟨k + 1, s ++ [x + 1000000000 - bw], 1, by omega, by go_num, rfl, by omega, by simp [HS.out], hr, minus_step HS.out HX.out (.inr ⟨by omega, rfl⟩) (by omega) HV.out, hb⟩
            case measure => simp [intOf]; omega
        · go_wp2_with (at_builtin; refine wpList_append_own _ rfl _ _ 41 rfl w.heap.size 3 i0 (.int .i64 0) 1 8 Tryd.underlying41 hi hz0 hz1 hz2 rfl (by decide) _ _ _ rfl (hown.1.alloc _) ⟨wr.heap.size, 0, none⟩ 1 1 [.int .i64 ((x : Int) - (bw : Int))] rfl rfl ?c1d ?c2d ?c3d ?c4d ?c5d ?_)
          case c1d => exact cell_one_new _ _ _
          case c2d => intro u hu; simp at hu; subst hu; rfl
          case c3d => unfold maxLen; omega
          case c4d => omega
          case c5d => simp; omega
          · intro v' w1 hown' hgrow _
            have e1 : ((x : Int) - (bw : Int)) = ((x - bw : Nat) : Int) := by omega
            rw [e1] at hown'
            have hr : OwnB w1 w.heap.size v' (s ++ [x - bw]) := OwnB.ofRow hown' (by simp [i64s]) (wds_snocB hown.2 (by omega))
            have hb : Below w.heap.size w w1 := (hbel.alloc hsz _).grown hgrow (by simp; omega) (fun k hk => (hown.1.lt k hk).1)
            clear hown' hgrow hown hbel e1
            go_wp2
            go_roundw
            case rel => exact ⟨k + 1, s ++ [x - bw], 0, by omega, by go_num, rfl, by omega, by simp [HS.out], hr, minus_step HS.out HX.out (.inr ⟨by omega, rfl⟩) (by omega) HV.out, hb⟩
            case measure => simp [intOf]; omega
    · have HK : Hid (k = la.length) := by unfold Hid; omega
      go_wp2_with fail
      refine (trimB_any _ _ _ _ hown).mono ?_
      rintro e w' ⟨v', rfl, hown3, rfl⟩
      go_wp2
      go_ret
      refine ⟨v', _, rfl, hown3, trimL_canon _, ?_, ?_, hbel⟩
      · intro h1 h2
        have hv := HV.out
        have hs := HS.out
        rw [HK.out] at hv hs
        rw [trimL_valB, minus_end hown.2 hs h1 h2 hv]
      · exact Nat.le_trans (trimL_len _) (by have := HS.out; omega)

set_option maxRecDepth 5000 in
set_option maxHeartbeats 800000 in
theorem compareB_any (w : World) (va vb : Value) (la lb : List Nat) (ha : OwnB w 0 va la) (hb : OwnB w 0 vb lb) (ca : Canon la) (cb : Canon lb) (hla : la.length ≤ 1000000) :
    Calls Tryd.prog 38 #[va, vb] w fun e w' => e = .returned (.int .i64 (cmpI (valB la) (valB lb))) ∧ ∃ n, w' = w.drewN n := by
  obtain ⟨aa, capa, rfl, hlca, hcapa, hcella⟩ := ha.shape1
  obtain ⟨ab, capb, rfl, hlcb, hcapb, hcellb⟩ := hb.shape1
  have HA : Hid (∀ (i x : Nat), la[i]? = some x → x < 1000000000 ∧ ∃ g, aa = some ⟨g, 0, none⟩ ∧ 0 ≤ g ∧ g < w.heap.size ∧ w.cell? ⟨g, i, none⟩ = some (.int .i64 (x : Int))) := hcella
  have HB : Hid (∀ (i x : Nat), lb[i]? = some x → x < 1000000000 ∧ ∃ g, ab = some ⟨g, 0, none⟩ ∧ 0 ≤ g ∧ g < w.heap.size ∧ w.cell? ⟨g, i, none⟩ = some (.int .i64 (x : Int))) := hcellb
  clear hcella hcellb hcapa hcapb
  by_cases hlen : la.length = lb.length
  · have HL : Hid (la.length = lb.length) := hlen
    have hn : ((la.length : Int) != (lb.length : Int)) = false := by simp [hlen]
    clear hlen
    go_enter Tryd.func38, Tryd.ntmps38
    go_wp2
    go_loopw [5] (fun i wr => ∃ k : Nat, k ≤ la.length ∧ i = .int .i64 ((k : Int) - 1) ∧ la.drop k = lb.drop k ∧ ∃ nq, wr = w.drewN nq) (fun i _ => (intOf i + 1).toNat)
    case atStart => exact ⟨la.length, Nat.le_refl _, rfl, by rw [List.drop_length, HL.out, List.drop_length], 0, rfl⟩
    case round =>
      obtain ⟨k, hk, rfl, hd, nq, rfl⟩ := hrel
      have HD : Hid (la.drop k = lb.drop k) := hd
      clear hd
      cases k with
      | zero =>
        go_wp2
        go_ret
        refine ⟨ret_int ?_, nq, rfl⟩
        have hd := HD.out
        simp only [List.drop_zero] at hd
        rw [cmpI_eq (by rw [hd])]
      | succ k =>
        have e : ((k + 1 : Nat) : Int) - 1 = (k : Int) := by omega
        rw [e]
        obtain ⟨x, hx⟩ : ∃ x, la[k]? = some x := ⟨la[k], by simp⟩
        obtain ⟨y, hy⟩ : ∃ y, lb[k]? = some y := ⟨lb[k]'(by have := HL.out; omega), by simp⟩
        obtain ⟨hxl, g, rfl, _, hg, hc⟩ := HA.out k x hx
        obtain ⟨hyl, g2, rfl, _, hg2, hc2⟩ := HB.out k y hy
        have HX : Hid (la[k]? = some x) := hx
        have HY : Hid (lb[k]? = some y) := hy
        have hkb : (k : Int) < (lb.length : Int) := by have := HL.out; omega
        have hka : (k : Int) < (la.length : Int) := by omega
        clear hx hy e
        rcases Nat.lt_trichotomy x y with hxy | hxy | hxy
        · have hb1 : decide ((x : Int) < (y : Int)) = true := by simp; omega
          go_wp2
          go_quiet (fail)
          go_wp2
          go_ret
          refine ⟨ret_int ?_, _, by first | rfl | rw [World.drewN_drewN]⟩
          rw [cmpI_lt (by have := val_lt_ofB ha.2 HX.out HY.out HD.out hxy; omega)]
        · have hb1 : decide ((x : Int) < (y : Int)) = false := by simp; omega
          have hb2 : decide ((y : Int) < (x : Int)) = false := by simp; omega
          have HXY : Hid (x = y) := hxy
          have hi1 : x ≤ y := by omega
          have hi2 : y ≤ x := by omega
          clear hxy
          go_wp2
          go_quiet (fail)
          go_wp2
          go_quiet (fail)
          go_wp2
          go_roundw
          case rel =>
            refine ⟨k, by omega, rfl, ?_, _, by first | rfl | rw [World.drewN_drewN, World.drewN_drewN] | rw [World.drewN_drewN]⟩
            have h1 := List.drop_eq_getElem_cons (l := la) (i := k) (by omega)
            have h2 := List.drop_eq_getElem_cons (l := lb) (i := k) (by omega)
            rw [(List.getElem?_eq_some_iff.1 HX.out).2] at h1
            rw [(List.getElem?_eq_some_iff.1 HY.out).2] at h2
            rw [h1, h2, HD.out, HXY.out]
          case measure => simp [intOf]
        · have hb1 : decide ((x : Int) < (y : Int)) = false := by simp; omega
          have hb2 : decide ((y : Int) < (x : Int)) = true := by simp; omega
          go_wp2
          go_quiet (fail)
          go_wp2
          go_quiet (fail)
          go_wp2
          go_ret
          refine ⟨ret_int ?_, _, by first | rfl | rw [World.drewN_drewN, World.drewN_drewN] | rw [World.drewN_drewN]⟩
          rw [cmpI_gt (by have := val_lt_ofB hb.2 HY.out HX.out HD.out.symm hxy; omega)]
  · have hn : ((la.length : Int) != (lb.length : Int)) = true := by simp; omega
    rcases Nat.lt_or_gt_of_ne hlen with hh | hh
    · go_enter Tryd.func38, Tryd.ntmps38
      go_wp2
      go_ret
      refine ⟨ret_int ?_, 0, rfl⟩
      rw [cmpI_lt (by have := val_lt_lenB ha.2 cb hh; omega)]
    · go_enter Tryd.func38, Tryd.ntmps38
      go_wp2
      go_ret
      refine ⟨ret_int ?_, 0, rfl⟩
      rw [cmpI_gt (by have := val_lt_lenB hb.2 ca hh; omega)]

end Go.Proofs.YthdcceackfdbbaaDoor
