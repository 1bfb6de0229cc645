import Derived.Test.YthdcceackfdbbaaGreatDoorM06W
import Derived.Laws.BitsAllLaws
/- Walks over the reference: minus, compare. Own text. -/
namespace Go.Proofs.YthdcceackfdbbaaGreatDoor
open Go.RowKit

theorem minus_step {la lb s : List Nat} {k x y bw r b' : Nat} (hs : s.length = k) (hx : la[k]? = some x) (hy : lb[k]? = some y ∨ (lb.length ≤ k ∧ y = 0)) (e : x + 1000000000 * b' = r + y + bw)
    (h : valB (la.take k) + 1000000000 ^ k * bw = valB s + valB (lb.take k)) : valB (la.take (k + 1)) + 1000000000 ^ (k + 1) * b' = valB (s ++ [r]) + valB (lb.take (k + 1)) := by
  rw [val_snocB, val_take_succB (.inl hx), val_take_succB hy, hs]
  have e1 : 1000000000 ^ (k + 1) * b' = 1000000000 ^ k * (1000000000 * b') := by rw [Nat.pow_succ, Nat.mul_assoc]
  have e2 : 1000000000 ^ k * (x + 1000000000 * b') = 1000000000 ^ k * (r + y + bw) := by rw [e]
  rw [Nat.mul_add, Nat.mul_add, Nat.mul_add] at e2
  omega

theorem minus_end {la lb s : List Nat} {bw : Nat} (hw : WdsB s) (hs : s.length = la.length) (hlb : lb.length ≤ la.length) (hle : valB lb ≤ valB la) (h : valB (la.take la.length) + 1000000000 ^ la.length * bw = valB s + valB (lb.take la.length)) : valB s = valB la - valB lb := by
  have h1 := val_ltB hw
  rw [List.take_length, List.take_of_length_le hlb] at h
  rw [hs] at h1
  have : bw = 0 := by
    by_cases e : bw = 0
    · exact e
    · have : 1000000000 ^ la.length * 1 ≤ 1000000000 ^ la.length * bw := Nat.mul_le_mul_left _ (by omega)
      omega
  subst this
  omega

set_option maxRecDepth 5000 in
set_option maxHeartbeats 1600000 in
theorem minus_any (w : World) (va vb : Value) (la lb : List Nat) (ha : OwnB w 0 va la) (hb' : OwnB w 0 vb lb) (hla : la.length ≤ 1000000) :
    Calls Tryz.prog 128 #[va, vb] w fun e w' => ∃ v' l', e = .returned v' ∧ OwnB w' w.heap.size v' l' ∧ Canon l' ∧ (lb.length ≤ la.length → valB lb ≤ valB la → valB l' = valB la - valB lb) ∧ l'.length ≤ la.length ∧ Below w.heap.size w w' := by
  obtain ⟨aa, capa, rfl, hlca, hcapa, hcella⟩ := ha.shape1
  obtain ⟨ab, capb, rfl, hlcb, hcapb, hcellb⟩ := hb'.shape1
  have HA : Hid (∀ (i x : Nat), la[i]? = some x → x < 1000000000 ∧ ∃ g, aa = some ⟨g, 0, none⟩ ∧ 0 ≤ g ∧ g < w.heap.size ∧ w.cell? ⟨g, i, none⟩ = some (.int .i64 (x : Int))) := hcella
  have HB : Hid (∀ (i x : Nat), lb[i]? = some x → x < 1000000000 ∧ ∃ g, ab = some ⟨g, 0, none⟩ ∧ 0 ≤ g ∧ g < w.heap.size ∧ w.cell? ⟨g, i, none⟩ = some (.int .i64 (x : Int))) := hcellb
  unfold maxLen at hcapb
  clear hcella hcellb hcapa
  obtain ⟨i0, hi, hz0, hz1, hz2⟩ := info_parts Tryz.infoInt
  go_enter Tryz.func128, Tryz.ntmps128
  go_wp2
  go_loopw [5, 6, 7] (fun v c i wr => ∃ (k : Nat) (s : List Nat) (bw : Nat), k ≤ la.length ∧ i = .int .i64 k ∧ c = .int .i64 bw ∧ bw ≤ 1 ∧ s.length = k ∧ OwnB wr w.heap.size v s ∧
      valB (la.take k) + 1000000000 ^ k * bw = valB s + valB (lb.take k) ∧ Below w.heap.size w wr) (fun _ _ i _ => la.length - (intOf i).toNat)
  case atStart => exact ⟨0, [], 0, Nat.zero_le _, rfl, rfl, by omega, rfl, ownB_nil _ _, by simp [valB], Below.refl _ _⟩
  case round =>
    obtain ⟨k, s, bw, hk, rfl, rfl, hbw, hs, hown, hval, hbel⟩ := hrel
    have HV : Hid (valB (la.take k) + 1000000000 ^ k * bw = valB s + valB (lb.take k)) := hval
    have hsz := hbel.size
    have HS : Hid (s.length = k) := hs
    have hs2 : s.length ≤ 1000000 := by omega
    clear hval hs
    by_cases c1 : k < la.length
    · obtain ⟨x, hxx⟩ : ∃ x, la[k]? = some x := ⟨la[k], by simp [*]⟩
      obtain ⟨hlx, g, rfl, _, hgg, hcx⟩ := HA.out k x hxx
      have hcrx := hbel.cell (p := ⟨g, k, none⟩) hgg
      rw [hcx] at hcrx
      have HX : Hid (la[k]? = some x) := hxx
      clear hxx hcx
      by_cases c2 : k < lb.length
      · obtain ⟨y, hxy⟩ : ∃ y, lb[k]? = some y := ⟨lb[k], by simp [*]⟩
        obtain ⟨hly, g2, rfl, _, hgg2, hcy⟩ := HB.out k y hxy
        have hcry := hbel.cell (p := ⟨g2, k, none⟩) hgg2
        rw [hcy] at hcry
        have HY : Hid (lb[k]? = some y) := hxy
        clear hxy hcy
        by_cases c3 : x < bw + y
        · go_wp2_with (at_builtin; refine wpList_append_own _ rfl _ _ 138 rfl w.heap.size 3 i0 (.int .i64 0) 1 8 Tryz.underlying138 hi hz0 hz1 hz2 rfl (by decide) _ _ _ rfl (hown.1.alloc _) ⟨wr.heap.size, 0, none⟩ 1 1 [.int .i64 ((x : Int) - (bw : Int) - (y : Int) + 1000000000)] rfl rfl ?c1a ?c2a ?c3a ?c4a ?c5a ?_)
          case c1a => exact cell_one_new _ _ _
          case c2a => intro u hu; simp at hu; subst hu; rfl
          case c3a => unfold maxLen; omega
          case c4a => omega
          case c5a => simp; omega
          · intro v' w1 hown' hgrow _
            have e1 : ((x : Int) - (bw : Int) - (y : Int) + 1000000000) = ((x + 1000000000 - bw - y : Nat) : Int) := by omega
            rw [e1] at hown'
            have hr : OwnB w1 w.heap.size v' (s ++ [x + 1000000000 - bw - y]) := OwnB.ofRow hown' (by simp [i64s]) (wds_snocB hown.2 (by omega))
            have hb : Below w.heap.size w w1 := (hbel.alloc hsz _).grown hgrow (by simp; omega) (fun k hk => (hown.1.lt k hk).1)
            clear hown' hgrow hown hbel e1
            go_wp2
            go_roundw
            case rel => exact ⟨k + 1, s ++ [x + 1000000000 - bw - y], 1, by omega, by go_num, rfl, by omega, by simp [HS.out], hr, minus_step HS.out HX.out (.inl HY.out) (by omega) HV.out, hb⟩
            case measure => simp [intOf]; omega
        · go_wp2_with (at_builtin; refine wpList_append_own _ rfl _ _ 138 rfl w.heap.size 3 i0 (.int .i64 0) 1 8 Tryz.underlying138 hi hz0 hz1 hz2 rfl (by decide) _ _ _ rfl (hown.1.alloc _) ⟨wr.heap.size, 0, none⟩ 1 1 [.int .i64 ((x : Int) - (bw : Int) - (y : Int))] rfl rfl ?c1b ?c2b ?c3b ?c4b ?c5b ?_)
          case c1b => exact cell_one_new _ _ _
          case c2b => intro u hu; simp at hu; subst hu; rfl
          case c3b => unfold maxLen; omega
          case c4b => omega
          case c5b => simp; omega
          · intro v' w1 hown' hgrow _
            have e1 : ((x : Int) - (bw : Int) - (y : Int)) = ((x - bw - y : Nat) : Int) := by omega
            rw [e1] at hown'
            have hr : OwnB w1 w.heap.size v' (s ++ [x - bw - y]) := OwnB.ofRow hown' (by simp [i64s]) (wds_snocB hown.2 (by omega))
            have hb : Below w.heap.size w w1 := (hbel.alloc hsz _).grown hgrow (by simp; omega) (fun k hk => (hown.1.lt k hk).1)
            clear hown' hgrow hown hbel e1
            go_wp2
            go_roundw
            case rel => exact ⟨k + 1, s ++ [x - bw - y], 0, by omega, by go_num, rfl, by omega, by simp [HS.out], hr, minus_step HS.out HX.out (.inl HY.out) (by omega) HV.out, hb⟩
            case measure => simp [intOf]; omega
      · by_cases c3 : x < bw
        · go_wp2_with (at_builtin; refine wpList_append_own _ rfl _ _ 138 rfl w.heap.size 3 i0 (.int .i64 0) 1 8 Tryz.underlying138 hi hz0 hz1 hz2 rfl (by decide) _ _ _ rfl (hown.1.alloc _) ⟨wr.heap.size, 0, none⟩ 1 1 [.int .i64 ((x : Int) - (bw : Int) + 1000000000)] rfl rfl ?c1c ?c2c ?c3c ?c4c ?c5c ?_)
          case c1c => exact cell_one_new _ _ _
          case c2c => intro u hu; simp at hu; subst hu; rfl
          case c3c => unfold maxLen; omega
          case c4c => omega
          case c5c => simp; omega
          · intro v' w1 hown' hgrow _
            have e1 : ((x : Int) - (bw : Int) + 1000000000) = ((x + 1000000000 - bw : Nat) : Int) := by omega
            rw [e1] at hown'
            have hr : OwnB w1 w.heap.size v' (s ++ [x + 1000000000 - bw]) := OwnB.ofRow hown' (by simp [i64s]) (wds_snocB hown.2 (by omega))
            have hb : Below w.heap.size w w1 := (hbel.alloc hsz _).grown hgrow (by simp; omega) (fun k hk => (hown.1.lt k hk).1)
            clear hown' hgrow hown hbel e1
            go_wp2
            go_roundw
            case rel => exact ⟨k + 1, s ++ [x + 1000000000 - bw], 1, by omega, by go_num, rfl, by omega, by simp [HS.out], hr, minus_step HS.out HX.out (.inr ⟨by omega, rfl⟩) (by omega) HV.out, hb⟩
            case measure => simp [intOf]; omega
        · go_wp2_with (at_builtin; refine wpList_append_own _ rfl _ _ 138 rfl w.heap.size 3 i0 (.int .i64 0) 1 8 Tryz.underlying138 hi hz0 hz1 hz2 rfl (by decide) _ _ _ rfl (hown.1.alloc _) ⟨wr.heap.size, 0, none⟩ 1 1 [.int .i64 ((x : Int) - (bw : Int))] rfl rfl ?c1d ?c2d ?c3d ?c4d ?c5d ?_)
          case c1d => exact cell_one_new _ _ _
          case c2d => intro u hu; simp at hu; subst hu; rfl
          case c3d => unfold maxLen; omega
          case c4d => omega
          case c5d => simp; omega
          · intro v' w1 hown' hgrow _
            have e1 : ((x : Int) - (bw : Int)) = ((x - bw : Nat) : Int) := by omega
            rw [e1] at hown'
            have hr : OwnB w1 w.heap.size v' (s ++ [x - bw]) := OwnB.ofRow hown' (by simp [i64s]) (wds_snocB hown.2 (by omega))
            have hb : Below w.heap.size w w1 := (hbel.alloc hsz _).grown hgrow (by simp; omega) (fun k hk => (hown.1.lt k hk).1)
            clear hown' hgrow hown hbel e1
            go_wp2
            go_roundw
            case rel => exact ⟨k + 1, s ++ [x - bw], 0, by omega, by go_num, rfl, by omega, by simp [HS.out], hr, minus_step HS.out HX.out (.inr ⟨by omega, rfl⟩) (by omega) HV.out, hb⟩
            case measure => simp [intOf]; omega
    · have HK : Hid (k = la.length) := by unfold Hid; omega
      go_wp2_with fail
      refine (trimB_any _ _ _ _ hown).mono ?_
      rintro e w' ⟨v', rfl, hown3, rfl⟩
      go_wp2
      go_ret
      refine ⟨v', _, rfl, hown3, trimL_canon _, ?_, ?_, hbel⟩
      · intro h1 h2
        have hv := HV.out
        have hs := HS.out
        rw [HK.out] at hv hs
        rw [trimL_valB, minus_end hown.2 hs h1 h2 hv]
      · exact Nat.le_trans (trimL_len _) (by have := HS.out; omega)

set_option maxRecDepth 5000 in
set_option maxHeartbeats 800000 in
theorem compareB_any (w : World) (va vb : Value) (la lb : List Nat) (ha : OwnB w 0 va la) (hb : OwnB w 0 vb lb) (ca : Canon la) (cb : Canon lb) (hla : la.length ≤ 1000000) :
    Calls Tryz.prog 126 #[va, vb] w fun e w' => e = .returned (.int .i64 (cmpI (valB la) (valB lb))) ∧ ∃ n, w' = w.drewN n := by
  obtain ⟨aa, capa, rfl, hlca, hcapa, hcella⟩ := ha.shape1
  obtain ⟨ab, capb, rfl, hlcb, hcapb, hcellb⟩ := hb.shape1
  have HA : Hid (∀ (i x : Nat), la[i]? = some x → x < 1000000000 ∧ ∃ g, aa = some ⟨g, 0, none⟩ ∧ 0 ≤ g ∧ g < w.heap.size ∧ w.cell? ⟨g, i, none⟩ = some (.int .i64 (x : Int))) := hcella
  have HB : Hid (∀ (i x : Nat), lb[i]? = some x → x < 1000000000 ∧ ∃ g, ab = some ⟨g, 0, none⟩ ∧ 0 ≤ g ∧ g < w.heap.size ∧ w.cell? ⟨g, i, none⟩ = some (.int .i64 (x : Int))) := hcellb
  clear hcella hcellb hcapa hcapb
  by_cases hlen : la.length = lb.length
  · have HL : Hid (la.length = lb.length) := hlen
    have hn : ((la.length : Int) != (lb.length : Int)) = false := by simp [hlen]
    clear hlen
    go_enter Tryz.func126, Tryz.ntmps126
    go_wp2
    go_loopw [5] (fun i wr => ∃ k : Nat, k ≤ la.length ∧ i = .int .i64 ((k : Int) - 1) ∧ la.drop k = lb.drop k ∧ ∃ nq, wr = w.drewN nq) (fun i _ => (intOf i + 1).toNat)
    case atStart => exact ⟨la.length, Nat.le_refl _, rfl, by rw [List.drop_length, HL.out, List.drop_length], 0, rfl⟩
    case round =>
      obtain ⟨k, hk, rfl, hd, nq, rfl⟩ := hrel
      have HD : Hid (la.drop k = lb.drop k) := hd
      clear hd
      cases k with
      | zero =>
        go_wp2
        go_ret
        refine ⟨ret_int ?_, nq, rfl⟩
        have hd := HD.out
        simp only [List.drop_zero] at hd
        rw [cmpI_eq (by rw [hd])]
      | succ k =>
        have e : ((k + 1 : Nat) : Int) - 1 = (k : Int) := by omega
        rw [e]
        obtain ⟨x, hx⟩ : ∃ x, la[k]? = some x := ⟨la[k], by simp⟩
        obtain ⟨y, hy⟩ : ∃ y, lb[k]? = some y := ⟨lb[k]'(by have := HL.out; omega), by simp⟩
        obtain ⟨hxl, g, rfl, _, hg, hc⟩ := HA.out k x hx
        obtain ⟨hyl, g2, rfl, _, hg2, hc2⟩ := HB.out k y hy
        have HX : Hid (la[k]? = some x) := hx
        have HY : Hid (lb[k]? = some y) := hy
        have hkb : (k : Int) < (lb.length : Int) := by have := HL.out; omega
        have hka : (k : Int) < (la.length : Int) := by omega
        clear hx hy e
        rcases Nat.lt_trichotomy x y with hxy | hxy | hxy
        · have hb1 : decide ((x : Int) < (y : Int)) = true := by simp; omega
          go_wp2
          go_quiet (fail)
          go_wp2
          go_ret
          refine ⟨ret_int ?_, _, by first | rfl | rw [World.drewN_drewN]⟩
          rw [cmpI_lt (by have := val_lt_ofB ha.2 HX.out HY.out HD.out hxy; omega)]
        · have hb1 : decide ((x : Int) < (y : Int)) = false := by simp; omega
          have hb2 : decide ((y : Int) < (x : Int)) = false := by simp; omega
          have HXY : Hid (x = y) := hxy
          have hi1 : x ≤ y := by omega
          have hi2 : y ≤ x := by omega
          clear hxy
          go_wp2
          go_quiet (fail)
          go_wp2
          go_quiet (fail)
          go_wp2
          go_roundw
          case rel =>
            refine ⟨k, by omega, rfl, ?_, _, by first | rfl | rw [World.drewN_drewN, World.drewN_drewN] | rw [World.drewN_drewN]⟩
            have h1 := List.drop_eq_getElem_cons (l := la) (i := k) (by omega)
            have h2 := List.drop_eq_getElem_cons (l := lb) (i := k) (by omega)
            rw [(List.getElem?_eq_some_iff.1 HX.out).2] at h1
            rw [(List.getElem?_eq_some_iff.1 HY.out).2] at h2
            rw [h1, h2, HD.out, HXY.out]
          case measure => simp [intOf]
        · have hb1 : decide ((x : Int) < (y : Int)) = false := by simp; omega
          have hb2 : decide ((y : Int) < (x : Int)) = true := by simp; omega
          go_wp2
          go_quiet (fail)
          go_wp2
          go_quiet (fail)
          go_wp2
          go_ret
          refine ⟨ret_int ?_, _, by first | rfl | rw [World.drewN_drewN, World.drewN_drewN] | rw [World.drewN_drewN]⟩
          rw [cmpI_gt (by have := val_lt_ofB hb.2 HY.out HX.out HD.out.symm hxy; omega)]
  · have hn : ((la.length : Int) != (lb.length : Int)) = true := by simp; omega
    rcases Nat.lt_or_gt_of_ne hlen with hh | hh
    · go_enter Tryz.func126, Tryz.ntmps126
      go_wp2
      go_ret
      refine ⟨ret_int ?_, 0, rfl⟩
      rw [cmpI_lt (by have := val_lt_lenB ha.2 cb hh; omega)]
    · go_enter Tryz.func126, Tryz.ntmps126
      go_wp2
      go_ret
      refine ⟨ret_int ?_, 0, rfl⟩
      rw [cmpI_gt (by have := val_lt_lenB hb.2 ca hh; omega)]

end Go.Proofs.YthdcceackfdbbaaGreatDoor
/- Walks: Mul. Own text. -/
namespace Go.Proofs.YthdcceackfdbbaaGreatDoor
open Go.RowKit

set_option maxHeartbeats 800000 in
theorem mul_any (w : World) (va vb : Value) (la lb : List Nat) (ha : Own w 0 va la) (hb : Own w 0 vb lb) (hla : la.length ≤ 4096) (hlb : lb.length ≤ 4096) :
    Calls Tryz.prog 159 #[va, vb] w fun e w' => ∃ v' l', e = .returned v' ∧ Own w' w.heap.size v' l' ∧ Canon l' ∧ val l' = val la * val lb ∧ Below w.heap.size w w' := by
  obtain ⟨aa, capa, rfl, hlca, hcapa, hcella⟩ := ha.shape1
  obtain ⟨ab, capb, rfl, hlcb, hcapb, hcellb⟩ := hb.shape1
  have HA : Hid (∀ (i x : Nat), la[i]? = some x → x < 4294967296 ∧ ∃ g, aa = some ⟨g, 0, none⟩ ∧ 0 ≤ g ∧ g < w.heap.size ∧ w.cell? ⟨g, i, none⟩ = some (.int .u32 (x : Int))) := hcella
  have HB : Hid (∀ (i x : Nat), lb[i]? = some x → x < 4294967296 ∧ ∃ g, ab = some ⟨g, 0, none⟩ ∧ 0 ≤ g ∧ g < w.heap.size ∧ w.cell? ⟨g, i, none⟩ = some (.int .u32 (x : Int))) := hcellb
  clear hcella hcellb hcapa hcapb
  obtain ⟨i0, hi, hz0, hz1, hz2⟩ := info_parts Tryz.infoU32
  go_enter Tryz.func159, Tryz.ntmps159
  go_wp2_with (at_make; refine wpList_make_full _ rfl _ _ 225 rfl w.heap.size 124 i0 (.int .u32 0) 1 Tryz.underlying225 hi hz0 hz1 _ _ _ _ (la.length + lb.length) rfl rfl ?c1 ?c2 ?c3 ?c4 ?c5 ?c6)
  case c1 => omega
  case c2 => omega
  case c3 => rw [hz2]; omega
  case c4 => unfold maxLen; omega
  case c5 => exact Nat.le_refl _
  intro w1 hown hgrow
  have hown1 := own_made hown
  have hbel : Below w.heap.size w w1 := (Below.refl _ _).grown hgrow (Nat.le_refl _) (by intro k hk; cases hk)
  clear hown hgrow
  go_wp2
  go_loopw [19] (fun i wr => ∃ (k : Nat) (p : List Nat), k ≤ la.length ∧ i = .int .i64 k ∧ p.length = la.length + lb.length ∧
      Own wr w.heap.size (.slice (some ⟨w.heap.size, 0, none⟩) (la.length + lb.length) (la.length + lb.length)) p ∧ val (p.take (k + lb.length)) = val (la.take k) * val lb ∧ Below w.heap.size w wr)
    (fun i _ => la.length - (intOf i).toNat)
  case atStart => exact ⟨0, _, Nat.zero_le _, rfl, by simp, hown1, by rw [List.take_replicate, val_zeros]; simp [val], hbel⟩
  case round =>
    clear hown1 hbel
    obtain ⟨k, p0, hk, rfl, hp0, hown, hval, hbel⟩ := hrel
    have HV0 : Hid (val (p0.take (k + lb.length)) = val (la.take k) * val lb) := hval
    have HP0 : Hid (p0.length = la.length + lb.length) := hp0
    clear hval hp0
    by_cases hlt : k < la.length
    · obtain ⟨x, hx⟩ : ∃ x, la[k]? = some x := ⟨la[k], by simp [hlt]⟩
      obtain ⟨hxl, g, rfl, _, hg, hc⟩ := HA.out k x hx
      have hcr := hbel.cell (p := ⟨g, k, none⟩) hg
      rw [hc] at hcr
      have HX : Hid (la[k]? = some x) := hx
      clear hx hc
      go_wp2
      go_loopw [8, 26] (fun c i wr => ∃ (j : Nat) (p : List Nat) (cy : Nat), j ≤ lb.length ∧ i = .int .i64 j ∧ c = .int .u64 cy ∧ cy < 4294967296 ∧ p.length = la.length + lb.length ∧
          Own wr w.heap.size (.slice (some ⟨w.heap.size, 0, none⟩) (la.length + lb.length) (la.length + lb.length)) p ∧
          val (p.take (k + j)) + 4294967296 ^ (k + j) * cy = val (p0.take (k + j)) + 4294967296 ^ k * (x * val (lb.take j)) ∧ p.drop (k + j) = p0.drop (k + j) ∧ Below w.heap.size w wr)
        (fun _ i _ => lb.length - (intOf i).toNat)
      case atStart => exact ⟨0, p0, 0, Nat.zero_le _, rfl, rfl, by omega, HP0.out, hown, by simp [val], rfl, hbel⟩
      case round =>
        clear hown hbel hcr
        obtain ⟨j, p, cy, hj, rfl, rfl, hcy, hp, hown, hval, hdrop, hbel⟩ := hrel
        have HV : Hid (val (p.take (k + j)) + 4294967296 ^ (k + j) * cy = val (p0.take (k + j)) + 4294967296 ^ k * (x * val (lb.take j))) := hval
        have HP : Hid (p.length = la.length + lb.length) := hp
        have HD : Hid (p.drop (k + j) = p0.drop (k + j)) := hdrop
        clear hval hp hdrop
        by_cases hlt2 : j < lb.length
        · obtain ⟨y, hy⟩ : ∃ y, lb[j]? = some y := ⟨lb[j], by simp [hlt2]⟩
          obtain ⟨hyl, g2, rfl, _, hg2, hc⟩ := HB.out j y hy
          have hcr := hbel.cell (p := ⟨g2, j, none⟩) hg2
          rw [hc] at hcr
          obtain ⟨z, hz, hzl, hold⟩ := hown.at (j := k + j) (by omega)
          have hfr := hown.frozenW (k + j)
          have HY : Hid (lb[j]? = some y) := hy
          have HZ : Hid (p[k + j]? = some z) := hz
          obtain ⟨hb1, hb2⟩ := mul_carry hcy hxl hyl hzl
          clear hy hc hz
          go_wp2_with (go_at_call 193; refine (width_any _).mono ?_; rintro e w' ⟨rfl, rfl⟩)
          go_roundw
          case rel =>
            have e1 : ((cy : Int) + ((x : Int) * (y : Int) + (z : Int))) % 4294967296 = (((cy + (x * y + z)) % 4294967296 : Nat) : Int) := by simp
            have e2 : ((cy : Int) + ((x : Int) * (y : Int) + (z : Int))) / 4294967296 = (((cy + (x * y + z)) / 4294967296 : Nat) : Int) := by simp
            rw [e1, e2]
            exact ⟨j + 1, p.set (k + j) ((cy + (x * y + z)) % 4294967296), _, by omega, by go_num, rfl, hb2, by simp [HP.out], hown.stored (by simp [HP.out]) (k + j) (Nat.mod_lt _ (by omega)),
              mul_step (by rw [HP.out]; omega) (get_of_drop HD.out HZ.out) HY.out (by omega) HV.out, drop_step HD.out, hbel.setCell (Nat.le_refl _) _⟩
          case measure => simp [intOf]; omega
        · have HJ : Hid (j = lb.length) := by unfold Hid; omega
          obtain ⟨z, hz, hzl, hold⟩ := hown.at (j := k + lb.length) (by omega)
          have hfr := hown.frozenW (k + lb.length)
          clear hz
          go_wp2
          go_roundw
          case rel =>
            have hv := HV.out
            rw [HJ.out] at hv
            exact ⟨k + 1, p.set (k + lb.length) cy, by omega, by go_num, by simp [HP.out], hown.stored (by simp [HP.out]) (k + lb.length) hcy, mul_row (by rw [HP.out]; omega) HX.out HV0.out hv, hbel.setCell (Nat.le_refl _) _⟩
          case measure => simp [intOf]; omega
    · have HK : Hid (k = la.length) := by unfold Hid; omega
      go_wp2_with fail
      refine (trim_any _ _ _ _ hown).mono ?_
      rintro e w' ⟨v', rfl, hown3, rfl⟩
      go_wp2
      go_ret
      refine ⟨v', _, rfl, hown3, trimL_canon _, ?_, hbel⟩
      have hv := HV0.out
      rw [HK.out, List.take_length, List.take_of_length_le (by rw [HP0.out]; omega)] at hv
      rw [trimL_val, hv]

end Go.Proofs.YthdcceackfdbbaaGreatDoor
/- Walks: Shift. Own text. -/
namespace Go.Proofs.YthdcceackfdbbaaGreatDoor
open Go.RowKit

theorem or_shl {cy x od : Nat} (hc : cy < 2 ^ od) (hx : x < 4294967296) (ho : od < 32) : bits .or .u64 (cy : Int) (IntKind.u64.wrap ((x : Int) * 2 ^ od)) = ((cy + x * 2 ^ od : Nat) : Int) := by
  have h1 : 2 ^ od ≤ 2 ^ 31 := Nat.pow_le_pow_right (by omega) (by omega)
  have h2 : x * 2 ^ od ≤ 4294967295 * 2 ^ 31 := Nat.mul_le_mul (by omega) h1
  have e : (x : Int) * 2 ^ od = ((x * 2 ^ od : Nat) : Int) := by simp
  rw [e, IntKind.wrap_u64, show ((x * 2 ^ od : Nat) : Int) % 18446744073709551616 = ((x * 2 ^ od : Nat) : Int) from by omega]
  rw [u64_or_nat _ _ (by omega) (by omega), Nat.or_comm, nat_join od _ _ (Nat.mul_mod_left _ _) hc, Nat.add_comm]

theorem shl_carry {cy x od : Nat} (hc : cy < 2 ^ od) (hx : x < 4294967296) : (cy + x * 2 ^ od) / 4294967296 < 2 ^ od := by
  refine Nat.div_lt_of_lt_mul ?_
  have h2 : (x + 1) * 2 ^ od ≤ 4294967296 * 2 ^ od := Nat.mul_le_mul_right _ (by omega)
  rw [Nat.add_mul] at h2
  omega

theorem shift_step {p la : List Nat} {wd k x cy od r c' : Nat} (hp : wd + k < p.length) (hx : la[k]? = some x) (ht : r + 4294967296 * c' = cy + x * 2 ^ od)
    (h : val (p.take (wd + k)) + 4294967296 ^ (wd + k) * cy = 4294967296 ^ wd * (val (la.take k) * 2 ^ od)) :
    val ((p.set (wd + k) r).take (wd + (k + 1))) + 4294967296 ^ (wd + (k + 1)) * c' = 4294967296 ^ wd * (val (la.take (k + 1)) * 2 ^ od) := by
  rw [show wd + (k + 1) = (wd + k) + 1 from by omega, set_take_succ hp, val_snoc, take_len (by omega), val_take_succ (.inl hx)]
  have e1 : 4294967296 ^ (wd + k + 1) * c' = 4294967296 ^ (wd + k) * (4294967296 * c') := by rw [Nat.pow_succ, Nat.mul_assoc]
  have e2 : 4294967296 ^ (wd + k) * (r + 4294967296 * c') = 4294967296 ^ (wd + k) * (cy + x * 2 ^ od) := by rw [ht]
  have e3 : 4294967296 ^ wd * ((val (la.take k) + 4294967296 ^ k * x) * 2 ^ od) = 4294967296 ^ wd * (val (la.take k) * 2 ^ od) + 4294967296 ^ (wd + k) * (x * 2 ^ od) := by
    rw [Nat.add_mul, Nat.mul_add, Nat.pow_add, Nat.mul_assoc (4294967296 ^ k), Nat.mul_assoc (4294967296 ^ wd)]
  rw [Nat.mul_add, Nat.mul_add] at e2
  rw [e1, e3]
  omega

theorem shift_end {p la : List Nat} {wd cy od n : Nat} (hw : wd = n / 32) (ho : od = n % 32) (hp : p.length = wd + la.length + 1)
    (h : val (p.take (wd + la.length)) + 4294967296 ^ (wd + la.length) * cy = 4294967296 ^ wd * (val (la.take la.length) * 2 ^ od)) : val (p.set (wd + la.length) cy) = val la * 2 ^ n := by
  rw [val_set_last hp, h, List.take_length, pow_word, Nat.mul_left_comm, ← Nat.pow_add, show 32 * wd + od = n from by omega]

set_option maxHeartbeats 800000 in
theorem shift_any (w : World) (va : Value) (la : List Nat) (n : Nat) (ha : Own w 0 va la) (hla : la.length ≤ 4096) (hn : n ≤ 100000) :
    Calls Tryz.prog 196 #[va, .int .i64 n] w fun e w' => ∃ v' l', e = .returned v' ∧ Own w' w.heap.size v' l' ∧ Canon l' ∧ val l' = val la * 2 ^ n ∧ Below w.heap.size w w' := by
  obtain ⟨aa, capa, rfl, hlca, hcapa, hcella⟩ := ha.shape1
  have HA : Hid (∀ (i x : Nat), la[i]? = some x → x < 4294967296 ∧ ∃ g, aa = some ⟨g, 0, none⟩ ∧ 0 ≤ g ∧ g < w.heap.size ∧ w.cell? ⟨g, i, none⟩ = some (.int .u32 (x : Int))) := hcella
  clear hcella hcapa
  obtain ⟨i0, hi, hz0, hz1, hz2⟩ := info_parts Tryz.infoU32
  go_enter Tryz.func196, Tryz.ntmps196
  go_wp2
  go_quiet ((go_at_call 193; exact Calls.quiet_of_same (width_any _)))
  obtain ⟨wd, hwd⟩ : ∃ wd, wd = n / 32 := ⟨_, rfl⟩
  obtain ⟨od, hod⟩ : ∃ od, od = n % 32 := ⟨_, rfl⟩
  have hod2 : od < 32 := by omega
  have hwd2 : wd ≤ 4000 := by omega
  have e1 : (n : Int) / 32 = (wd : Int) := by omega
  have e2 : (n : Int) % 32 = (od : Int) := by omega
  rw [e1, e2]
  have HW : Hid (wd = n / 32) := hwd
  have HO : Hid (od = n % 32) := hod
  clear hwd hod e1 e2
  go_wp2_with (at_make; refine wpList_make_full _ rfl _ _ 225 rfl w.heap.size 124 i0 (.int .u32 0) 1 Tryz.underlying225 hi hz0 hz1 _ _ _ _ (wd + la.length + 1) rfl rfl ?c1 ?c2 ?c3 ?c4 ?c5 ?c6)
  case c1 => omega
  case c2 => omega
  case c3 => rw [hz2]; omega
  case c4 => unfold maxLen; omega
  case c5 => simp
  intro w1 hown hgrow
  have hown1 := own_made hown
  have hbel : Below w.heap.size w w1 := ((below_drewN (Below.refl _ _) _)).grown hgrow (by simp) (by intro k hk; cases hk)
  clear hown hgrow
  go_wp2
  go_loopw [8, 25] (fun c i wr => ∃ (k : Nat) (p : List Nat) (cy : Nat), k ≤ la.length ∧ i = .int .i64 k ∧ c = .int .u64 cy ∧ cy < 2 ^ od ∧ p.length = wd + la.length + 1 ∧
      Own wr w.heap.size (.slice (some ⟨w.heap.size, 0, none⟩) (wd + la.length + 1) (wd + la.length + 1)) p ∧ val (p.take (wd + k)) + 4294967296 ^ (wd + k) * cy = 4294967296 ^ wd * (val (la.take k) * 2 ^ od) ∧ Below w.heap.size w wr)
    (fun _ i _ => la.length - (intOf i).toNat)
  case atStart => exact ⟨0, _, 0, Nat.zero_le _, rfl, rfl, Nat.pow_pos (by omega), by simp, hown1, by rw [List.take_replicate, val_zeros]; simp [val], hbel⟩
  case round =>
    clear hown1 hbel
    obtain ⟨k, p, cy, hk, rfl, rfl, hcy, hp, hown, hval, hbel⟩ := hrel
    have HV : Hid (val (p.take (wd + k)) + 4294967296 ^ (wd + k) * cy = 4294967296 ^ wd * (val (la.take k) * 2 ^ od)) := hval
    have HP : Hid (p.length = wd + la.length + 1) := hp
    have HC : Hid (cy < 2 ^ od) := hcy
    have hcy2 : cy < 4294967296 := by have : 2 ^ od ≤ 2 ^ 31 := Nat.pow_le_pow_right (by omega) (by omega); omega
    clear hval hp hcy
    by_cases hlt : k < la.length
    · obtain ⟨x, hx⟩ : ∃ x, la[k]? = some x := ⟨la[k], by simp [hlt]⟩
      obtain ⟨hxl, g, rfl, _, hg, hc⟩ := HA.out k x hx
      have hcr := hbel.cell (p := ⟨g, k, none⟩) hg
      rw [hc] at hcr
      have HX : Hid (la[k]? = some x) := hx
      obtain ⟨z, hz, hzl, hold⟩ := hown.at (j := wd + k) (by omega)
      have hfr := hown.frozenW (wd + k)
      clear hx hc hz
      go_wp2_with (go_at_call 193; refine (width_any _).mono ?_; rintro e w' ⟨rfl, rfl⟩)
      go_roundw
      case rel =>
        rw [or_shl HC.out hxl hod2]
        have e1 : ((cy + x * 2 ^ od : Nat) : Int) % 4294967296 = (((cy + x * 2 ^ od) % 4294967296 : Nat) : Int) := by omega
        have e2 : ((cy + x * 2 ^ od : Nat) : Int) / 4294967296 = (((cy + x * 2 ^ od) / 4294967296 : Nat) : Int) := by omega
        rw [e1, e2]
        exact ⟨k + 1, p.set (wd + k) ((cy + x * 2 ^ od) % 4294967296), _, by omega, by go_num, rfl, shl_carry HC.out hxl, by simp [HP.out], hown.stored (by simp [HP.out]) (wd + k) (Nat.mod_lt _ (by omega)),
          shift_step (by rw [HP.out]; omega) HX.out (by omega) HV.out, hbel.setCell (Nat.le_refl _) _⟩
      case measure => simp [intOf]; omega
    · have HK : Hid (k = la.length) := by unfold Hid; omega
      obtain ⟨z, hz, hzl, hold⟩ := hown.at (j := wd + la.length) (by omega)
      have hfr := hown.frozenW (wd + la.length)
      clear hz
      go_wp2_with fail
      have hown2 := hown.stored (by simp [HP.out]) (wd + la.length) hcy2
      refine (trim_any _ _ _ _ hown2).mono ?_
      rintro e w' ⟨v', rfl, hown3, rfl⟩
      go_wp2
      go_ret
      refine ⟨v', _, rfl, hown3, trimL_canon _, ?_, hbel.setCell (Nat.le_refl _) _⟩
      have hv := HV.out
      rw [HK.out] at hv
      rw [trimL_val, shift_end HW.out HO.out HP.out hv]

end Go.Proofs.YthdcceackfdbbaaGreatDoor
/- Numbers: the walks said of Rep; Digit, Sub, Power. Own text. -/
namespace Go.Proofs.YthdcceackfdbbaaGreatDoor
open Go.RowKit

theorem Rep.len {w : World} {B : Nat} {v : Value} {l : List Nat} {n : Nat} (_h : Own w B v l) (hc : Canon l) (hv : val l = n) (hn : Small n) : l.length ≤ 4096 := by
  have := canon_len_small hc (by rw [hv]; exact hn); omega

theorem Own.drewN {w : World} {B : Nat} {v : Value} {l : List Nat} (h : Own w B v l) (n : Nat) : Own (w.drewN n) B v l := h.below (below_drewN (Below.refl _ _) n)
theorem Rep.drewN {w : World} {B : Nat} {v : Value} {a : Nat} (h : Rep w B v a) (n : Nat) : Rep (w.drewN n) B v a := h.below (below_drewN (Below.refl _ _) n)

theorem mulAdd_rep (w : World) (v : Value) (a f m : Nat) (h : Rep w 0 v a) (ha : Small a) (hf : f < 4294967296) (hm : m < 4294967296) :
    Calls Tryz.prog 157 #[v, .int .u32 f, .int .u32 m] w fun e w' => ∃ v', e = .returned v' ∧ Rep w' w.heap.size v' (a * f + m) ∧ Below w.heap.size w w' := by
  obtain ⟨l, h1, h2, h3⟩ := h
  refine (mulAdd_any w v l f m h1 (Rep.len h1 h2 h3 ha) hf hm).mono ?_
  rintro e w' ⟨v', l', he, ho, hc, hv, hb⟩
  exact ⟨v', he, ⟨l', ho, hc, by rw [hv, h3]⟩, hb⟩

theorem mul_rep (w : World) (va vb : Value) (a b : Nat) (ha : Rep w 0 va a) (hb : Rep w 0 vb b) (la : Small a) (lb : Small b) :
    Calls Tryz.prog 159 #[va, vb] w fun e w' => ∃ v', e = .returned v' ∧ Rep w' w.heap.size v' (a * b) ∧ Below w.heap.size w w' := by
  obtain ⟨l, h1, h2, h3⟩ := ha
  obtain ⟨k, k1, k2, k3⟩ := hb
  refine (mul_any w va vb l k h1 k1 (Rep.len h1 h2 h3 la) (Rep.len k1 k2 k3 lb)).mono ?_
  rintro e w' ⟨v', l', he, ho, hc, hv, hb⟩
  exact ⟨v', he, ⟨l', ho, hc, by rw [hv, h3, k3]⟩, hb⟩

theorem shift_rep (w : World) (va : Value) (a n : Nat) (ha : Rep w 0 va a) (la : Small a) (hn : n ≤ 100000) :
    Calls Tryz.prog 196 #[va, .int .i64 n] w fun e w' => ∃ v', e = .returned v' ∧ Rep w' w.heap.size v' (a * 2 ^ n) ∧ Below w.heap.size w w' := by
  obtain ⟨l, h1, h2, h3⟩ := ha
  refine (shift_any w va l n h1 (Rep.len h1 h2 h3 la) hn).mono ?_
  rintro e w' ⟨v', l', he, ho, hc, hv, hb⟩
  exact ⟨v', he, ⟨l', ho, hc, by rw [hv, h3]⟩, hb⟩

theorem compare_rep (w : World) (va vb : Value) (a b : Nat) (ha : Rep w 0 va a) (hb : Rep w 0 vb b) (la : Small a) :
    Calls Tryz.prog 197 #[va, vb] w fun e w' => e = .returned (.int .i64 (cmpI a b)) ∧ ∃ n, w' = w.drewN n := by
  obtain ⟨l, h1, h2, h3⟩ := ha
  obtain ⟨k, k1, k2, k3⟩ := hb
  have := compare_any w va vb l k h1 k1 h2 k2 (Rep.len h1 h2 h3 la)
  rw [h3, k3] at this
  exact this

theorem bitlen_rep (w : World) (va : Value) (a : Nat) (ha : Rep w 0 va a) (la : Small a) :
    Calls Tryz.prog 222 #[va] w fun e w' => e = .returned (.int .i64 (bl a)) ∧ ∃ n, w' = w.drewN n := by
  obtain ⟨l, h1, h2, h3⟩ := ha
  have := bitlen_any w va l h1 h2 (Rep.len h1 h2 h3 la)
  rw [h3] at this
  exact this

theorem div_of {a b d r : Nat} (h : r + d * b = a) (hr : r < b) : a / b = d ∧ a % b = r := by
  subst h
  have hb : 0 < b := by omega
  rw [Nat.add_mul_div_right _ _ hb, Nat.add_mul_mod_self_right, Nat.div_eq_of_lt hr, Nat.mod_eq_of_lt hr]
  omega

theorem digit_le {a b d r : Nat} (h : r + d * b = a) (hb : b ≠ 0) (hr : b ≤ r) : d + 1 ≤ a / b := by
  rw [Nat.le_div_iff_mul_le (by omega), Nat.add_mul]; omega

theorem canon_le_len {la lb : List Nat} (hw : Wds la) (hc : Canon lb) (h : val lb ≤ val la) : lb.length ≤ la.length := by
  by_cases hh : lb.length ≤ la.length
  · exact hh
  · have := val_lt_len hw hc (by omega); omega

/-- take, then trim: r less b. -/
theorem Own.nonnil {w : World} {B : Nat} {v : Value} {l : List Nat} (h : Own w B v l) (hne : l ≠ []) : ∃ g cap, v = .slice (some ⟨g, 0, none⟩) l.length cap ∧ B ≤ g ∧ g < w.heap.size := by
  rcases h.shape with ⟨_, rfl⟩ | ⟨g, cap, rfl, h1, h2, _⟩
  · exact absurd rfl hne
  · exact ⟨g, cap, rfl, h1, h2⟩

theorem Own.blockLt {w : World} {B : Nat} {v : Value} {l : List Nat} (h : Own w B v l) {k : Nat} (hk : v.ownBlock = some k) : k < w.heap.size := (h.1.lt k hk).2

set_option maxHeartbeats 800000 in
theorem digit_any (w : World) (va vb : Value) (a b : Nat) (ha : Rep w 0 va a) (hb : Rep w 0 vb b) (hb0 : b ≠ 0) (la : Small a) (hq : a / b ≤ 1000000) :
    Calls Tryz.prog 167 #[va, vb] w fun e w' => ∃ v', e = .returned (.tuple #[.int .i64 ((a / b : Nat) : Int), v']) ∧ Rep w' w.heap.size v' (a % b) ∧ Below w.heap.size w w' := by
  obtain ⟨l, h1, h2, h3⟩ := ha
  obtain ⟨k, k1, k2, k3⟩ := hb
  have hll := Rep.len h1 h2 h3 la
  have HQ : Hid (a / b ≤ 1000000) := hq
  have HK3 : Hid (val k = b) := k3
  have HH3 : Hid (val l = a) := h3
  clear hq k3 h3
  go_enter Tryz.func167, Tryz.ntmps167
  go_wp2_with fail
  refine (clone_any _ _ _ h1 hll).mono ?_
  rintro e w1 ⟨v1, rfl, ho1, hb1⟩
  go_wp2_with fail
  go_loopw [6, 7] (fun s v wr => ∃ (d r : Nat) (l' : List Nat), s = .int .i64 d ∧ Own wr w.heap.size v l' ∧ Canon l' ∧ val l' = r ∧ r + d * b = a ∧ Below w.heap.size w wr) (fun s _ _ => a - (intOf s).toNat)
  case atStart => exact ⟨0, a, l, rfl, ho1, h2, HH3.out, by simp, hb1⟩
  case round =>
    clear ho1 hb1
    obtain ⟨d, r, l', rfl, ho, hc, hv, he, hbel⟩ := hrel
    have HE : Hid (r + d * b = a) := he
    have HV : Hid (val l' = r) := hv
    have hra : Small r := la.le (by omega)
    have hl' := Rep.len ho hc hv hra
    have k1r : Own wr 0 vb k := k1.below hbel
    clear he hv
    go_wp2_with fail
    refine (compare_rep wr u7 vb r b ⟨l', ho.base (Nat.zero_le _), hc, HV.out⟩ ⟨k, k1r, k2, HK3.out⟩ hra).mono ?_
    rintro e w2 ⟨rfl, nq, rfl⟩
    by_cases hge : b ≤ r
    · have hd := digit_le HE.out hb0 hge
      have hd2 : d + 1 ≤ 1000000 := Nat.le_trans hd HQ.out
      have hda : d < a := by have := Nat.div_le_self a b; omega
      have hcm : (0 : Int) ≤ cmpI (r : Int) (b : Int) := by unfold cmpI; split <;> (try split) <;> omega
      generalize cmpI (r : Int) (b : Int) = cm at hcm ⊢
      have hne : l' ≠ [] := by intro e; have := HV.out; rw [e] at this; simp [val] at this; omega
      obtain ⟨g, cap, hu, hg1, hg2⟩ := ho.nonnil hne
      subst hu
      clear hd hne
      go_wp2_with fail
      have hlek : k.length ≤ l'.length := canon_le_len ho.2 k2 (by rw [HV.out, HK3.out]; exact hge)
      refine (take_any _ w.heap.size g l'.length cap vb l' k (ho.drewN nq) (k1r.drewN nq) (by intro e; have := k1.blockLt e; omega) hl' hlek (by rw [HV.out, HK3.out]; exact hge)).mono ?_
      rintro e w3 ⟨rfl, ⟨p, hp1, hp2, hp3⟩, hgr⟩
      have HP2 : Hid (val p = val l' - val k) := hp2
      have hb3 : Below w.heap.size w w3 := (below_drewN hbel nq).grown hgr (by have := hbel.size; simpa using this) (by intro q hq; cases hq; exact hg1)
      clear hp2
      go_wp2_with fail
      refine (trim_any _ _ _ _ hp1).mono ?_
      rintro e w4 ⟨v4, rfl, ho4, rfl⟩
      go_wp2
      go_roundw
      case rel =>
        refine ⟨d + 1, r - b, _, by go_num, ho4, trimL_canon _, ?_, ?_, hb3⟩
        · rw [trimL_val, HP2.out, HV.out, HK3.out]
        · have := HE.out; rw [Nat.add_mul]; omega
      case measure => simp [intOf]; omega
    · have hcm : cmpI (r : Int) (b : Int) = -1 := cmpI_lt (by omega)
      rw [hcm]
      obtain ⟨q1, q2⟩ := div_of HE.out (by omega)
      have Q1 : Hid (a / b = d) := q1
      have Q2 : Hid (a % b = r) := q2
      clear q1 q2 hcm
      go_wp2
      go_ret2
      refine ⟨u7, by rw [Q1.out]; rfl, ⟨l', ho.drewN nq, hc, by rw [Q2.out, HV.out]⟩, below_drewN hbel nq⟩

set_option maxHeartbeats 800000 in
theorem sub_any (w : World) (va vb : Value) (a b : Nat) (ha : Rep w 0 va a) (hb : Rep w 0 vb b) (hle : b ≤ a) (ha0 : a ≠ 0) (la : Small a) :
    Calls Tryz.prog 168 #[va, vb] w fun e w' => ∃ v', e = .returned v' ∧ Rep w' w.heap.size v' (a - b) ∧ Below w.heap.size w w' := by
  obtain ⟨l, h1, h2, h3⟩ := ha
  obtain ⟨k, k1, k2, k3⟩ := hb
  have hll := Rep.len h1 h2 h3 la
  have hlek : k.length ≤ l.length := canon_le_len h1.2 k2 (by rw [h3, k3]; exact hle)
  have HK3 : Hid (val k = b) := k3
  have HH3 : Hid (val l = a) := h3
  clear k3 h3
  have hne : l ≠ [] := by intro e; have := HH3.out; rw [e] at this; simp [val] at this; omega
  go_enter Tryz.func168, Tryz.ntmps168
  go_wp2_with fail
  refine (clone_any _ _ _ h1 hll).mono ?_
  rintro e w1 ⟨v1, rfl, ho1, hb1⟩
  obtain ⟨g, cap, hu, hg1, hg2⟩ := ho1.nonnil hne
  subst hu
  clear hne
  go_wp2_with fail
  refine (take_any _ w.heap.size g l.length cap vb l k ho1 (k1.below hb1) (by intro e; have := k1.blockLt e; omega) hll hlek (by rw [HH3.out, HK3.out]; exact hle)).mono ?_
  rintro e w3 ⟨rfl, ⟨p, hp1, hp2, hp3⟩, hgr⟩
  have HP2 : Hid (val p = val l - val k) := hp2
  have hb3 : Below w.heap.size w w3 := hb1.grown hgr hb1.size (by intro q hq; cases hq; exact hg1)
  clear hp2
  go_wp2_with fail
  refine (trim_any _ _ _ _ hp1).mono ?_
  rintro e w4 ⟨v4, rfl, ho4, rfl⟩
  go_wp2
  go_ret
  exact ⟨v4, rfl, ⟨_, ho4, trimL_canon _, by rw [trimL_val, HP2.out, HH3.out, HK3.out]⟩, hb3⟩

theorem and_one_i64 (i : Nat) (hi : i < 9223372036854775808) : bits BinOp.and IntKind.i64 (i : Int) 1 = ((i % 2 : Nat) : Int) := by
  have two63 : (2 : Int) ^ 63 = 9223372036854775808 := by decide
  have h := bits_mask .i64 63 (by decide) (fun n h0 h1 => by rw [two63] at h1; rw [IntKind.wrap_i64]; omega) 1 (by decide) (i : Int) (by omega) (by rw [two63]; omega)
  have e : ((2 : Int) ^ 1 - 1) = 1 := by decide
  rw [e] at h
  rw [h]
  omega

theorem pow_half (b n j : Nat) : b ^ (n / 2 ^ j) = b ^ (n / 2 ^ (j + 1)) * b ^ (n / 2 ^ (j + 1)) * b ^ (n / 2 ^ j % 2) := by
  rw [← Nat.pow_add, ← Nat.pow_add]
  congr 1
  rw [Nat.pow_succ, ← Nat.div_div_eq_div_mul]
  omega

theorem pow_le_n {b n m : Nat} (hb : 1 ≤ b) (h : Small (b ^ n)) (hm : m ≤ n) : Small (b ^ m) := h.le (Nat.pow_le_pow_right hb hm)

set_option maxHeartbeats 800000 in
theorem power_any (w : World) (b n : Nat) (hb : 1 ≤ b) (hb2 : b < 4294967296) (hn : n ≤ 100000) (hL : Small (b ^ n)) :
    Calls Tryz.prog 198 #[.int .u32 b, .int .i64 n] w fun e w' => ∃ v', e = .returned v' ∧ Rep w' w.heap.size v' (b ^ n) ∧ Below w.heap.size w w' := by
  have hbits : Lib.bitLen n ≤ 64 := Lib.bitLen_le n 64 (by omega) (by omega)
  have hz : n / 2 ^ Lib.bitLen n = 0 := by rw [bitLen_bl (by omega)]; exact Nat.div_eq_of_lt (bl_hi n)
  have HZ : Hid (n / 2 ^ Lib.bitLen n = 0) := hz
  clear hz
  go_enter Tryz.func198, Tryz.ntmps198
  go_wp2_with fail
  refine (of_any _ 1 (by omega)).mono ?_
  rintro e w1 ⟨v1, rfl, ho1, hb1⟩
  go_wp2_with fail
  refine (Tryz.bits_Len _ _ (by omega) (by omega)).mono ?_
  rintro e w2 ⟨rfl, rfl⟩
  rw [Int.toNat_natCast]
  generalize hbt : Lib.bitLen n = t at *
  have HT : Hid (Lib.bitLen n = t) := hbt
  clear hbt
  go_wp2_with fail
  go_loopw [5, 6] (fun v i wr => ∃ (k : Nat), k ≤ t ∧ i = .int .i64 ((k : Int) - 1) ∧ Rep wr w.heap.size v (b ^ (n / 2 ^ k)) ∧ Below w.heap.size w wr) (fun _ i _ => (intOf i + 1).toNat)
  case atStart => exact ⟨t, Nat.le_refl _, rfl, by rw [HZ.out]; exact ho1, hb1⟩
  case round =>
    clear ho1 hb1
    obtain ⟨k, hk, rfl, ho, hbel⟩ := hrel
    cases k with
    | zero =>
      go_wp2
      go_ret
      exact ⟨u5, rfl, by simpa using ho, hbel⟩
    | succ j =>
      have e : ((j + 1 : Nat) : Int) - 1 = (j : Int) := by omega
      rw [e]
      clear e
      go_wp2_with fail
      have hl1 : Small (b ^ (n / 2 ^ (j + 1))) := pow_le_n hb hL (Nat.div_le_self _ _)
      refine (mul_rep _ u5 u5 _ _ (ho.base (Nat.zero_le _)) (ho.base (Nat.zero_le _)) hl1 hl1).mono ?_
      rintro e w3 ⟨v3, rfl, ho3, hb3⟩
      clear hl1
      have hj : j < 64 := by omega
      have hq : n / 2 ^ j < 9223372036854775808 := Nat.lt_of_le_of_lt (Nat.div_le_self _ _) (by omega)
      have eb : bits BinOp.and IntKind.i64 ((n : Int) / 2 ^ j) 1 = ((n / 2 ^ j % 2 : Nat) : Int) := by
        rw [show (n : Int) / 2 ^ j = ((n / 2 ^ j : Nat) : Int) from by simp]
        exact and_one_i64 _ hq
      have EB : Hid (bits BinOp.and IntKind.i64 ((n : Int) / 2 ^ j) 1 = ((n / 2 ^ j % 2 : Nat) : Int)) := eb
      have hl2 : Small (b ^ (n / 2 ^ (j + 1)) * b ^ (n / 2 ^ (j + 1))) := by
        refine Small.le (pow_le_n hb hL (Nat.div_le_self n (2 ^ j))) ?_
        rw [pow_half b n j]
        exact Nat.le_mul_of_pos_right _ (Nat.pow_pos hb)
      have hb4 : Below w.heap.size w w3 := hbel.trans (hb3.mono hbel.size)
      have ho4 := ho3.base hbel.size
      have hph := pow_half b n j
      have HPH : Hid (b ^ (n / 2 ^ j) = b ^ (n / 2 ^ (j + 1)) * b ^ (n / 2 ^ (j + 1)) * b ^ (n / 2 ^ j % 2)) := hph
      clear hph hq eb
      rcases Nat.mod_two_eq_zero_or_one (n / 2 ^ j) with hbit | hbit
      rotate_left
      · have hbt : (bits BinOp.and IntKind.i64 ((n : Int) / 2 ^ j) 1 == 1) = true := by rw [EB.out, hbit]; rfl
        have HBIT : Hid (n / 2 ^ j % 2 = 1) := hbit
        clear hbit
        go_wp2_with fail
        refine (mulAdd_rep _ v3 _ b 0 (ho3.base (Nat.zero_le _)) hl2 hb2 (by omega)).mono ?_
        rintro e w5 ⟨v5, rfl, ho5, hb5⟩
        go_wp2
        go_roundw
        case rel =>
          refine ⟨j, by omega, rfl, ?_, hb4.trans (hb5.mono hb4.size)⟩
          rw [HPH.out, HBIT.out]
          simpa using ho5.base hb4.size
        case measure => simp [intOf]
      · have hbt : (bits BinOp.and IntKind.i64 ((n : Int) / 2 ^ j) 1 == 1) = false := by rw [EB.out, hbit]; rfl
        have HBIT : Hid (n / 2 ^ j % 2 = 0) := hbit
        clear hbit
        go_wp2
        go_roundw
        case rel =>
          refine ⟨j, by omega, rfl, ?_, hb4⟩
          rw [HPH.out, HBIT.out]
          simpa using ho4
        case measure => simp [intOf]

end Go.Proofs.YthdcceackfdbbaaGreatDoor
