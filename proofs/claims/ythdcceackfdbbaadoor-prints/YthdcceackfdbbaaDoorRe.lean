/- Walks over the reference: product. Own text. -/
import Derived.Test.YthdcceackfdbbaaDoorRd
import Derived.Laws.AppendOwnNone
namespace Go.Proofs.YthdcceackfdbbaaDoor
open Go.RowKit

theorem cells_of {w : World} {g cap : Nat} {l : List Nat} {B : Nat} (h : OwnB w B (.slice (some ⟨g, 0, none⟩) l.length cap) l) : ∀ j u, (i64s l)[j]? = some u → w.cell? ((⟨g, 0, none⟩ : Addr).add j) = some u := by
  intro j u hj
  rw [Addr.add_lit, Nat.zero_add]
  simp only [i64s, List.getElem?_map, Option.map_eq_some_iff] at hj
  obtain ⟨x, hx, rfl⟩ := hj
  exact h.cellW hx

theorem one_of (l : List Nat) : ∀ u ∈ i64s l, u.oneCell' = true := by
  intro u hu; obtain ⟨x, _, rfl⟩ := List.mem_map.1 hu; rfl

theorem i64s_append (a b : List Nat) : i64s (a ++ b) = i64s a ++ i64s b := by simp [i64s]

theorem wds_appendB {a b : List Nat} (ha : WdsB a) (hb : WdsB b) : WdsB (a ++ b) := by
  intro x hx
  rcases List.mem_append.1 hx with h | h
  · exact ha x h
  · exact hb x h

theorem prod_step {la lb s : List Nat} {k y : Nat} (hy : lb[k]? = some y) (h : valB s = valB la * valB (lb.drop (k + 1))) : 1000000000 * valB s + valB la * y = valB la * valB (lb.drop k) := by
  have h1 := List.drop_eq_getElem_cons (l := lb) (i := k) (List.getElem?_eq_some_iff.1 hy).1
  rw [(List.getElem?_eq_some_iff.1 hy).2] at h1
  rw [h1, h]
  simp only [valB]
  rw [Nat.mul_add, Nat.mul_left_comm]
  omega

set_option maxRecDepth 5000 in
set_option maxHeartbeats 1600000 in
theorem product_any (w : World) (va vb : Value) (la lb : List Nat) (ha : OwnB w 0 va la) (hb' : OwnB w 0 vb lb) (hla : la.length ≤ 310) (hlb : lb.length ≤ 310) :
    Calls Tryd.prog 46 #[va, vb] w fun e w' => ∃ v', e = .returned v' ∧ RepB w' w.heap.size v' (valB la * valB lb) ∧ Below w.heap.size w w' := by
  obtain ⟨ab, capb, rfl, hlcb, hcapb, hcellb⟩ := hb'.shape1
  have HB : Hid (∀ (i x : Nat), lb[i]? = some x → x < 1000000000 ∧ ∃ g, ab = some ⟨g, 0, none⟩ ∧ 0 ≤ g ∧ g < w.heap.size ∧ w.cell? ⟨g, i, none⟩ = some (.int .i64 (x : Int))) := hcellb
  clear hcellb hcapb
  obtain ⟨i0, hi, hz0, hz1, hz2⟩ := info_parts Tryd.infoInt
  go_enter Tryd.func46, Tryd.ntmps46
  go_wp2
  go_loopw [5, 6] (fun v i wr => ∃ (k : Nat) (s : List Nat), k ≤ lb.length ∧ i = .int .i64 ((k : Int) - 1) ∧ OwnB wr w.heap.size v s ∧ s.length + 320 * k ≤ 320 * lb.length ∧ valB s = valB la * valB (lb.drop k) ∧ Below w.heap.size w wr) (fun _ i _ => (intOf i + 1).toNat)
  case atStart => exact ⟨lb.length, [], Nat.le_refl _, rfl, ownB_nil _ _, by simp, by rw [List.drop_length]; simp [valB], Below.refl _ _⟩
  case round =>
    obtain ⟨k, s, hk, rfl, hown, hsl, hval, hbel⟩ := hrel
    have HV : Hid (valB s = valB la * valB (lb.drop k)) := hval
    have hsz := hbel.size
    clear hval
    cases k with
    | zero =>
      go_wp2_with fail
      refine (trimB_any _ _ _ _ hown).mono ?_
      rintro e w' ⟨v', rfl, hown3, rfl⟩
      go_wp2
      go_ret
      exact ⟨v', rfl, ⟨_, hown3, trimL_canon _, by rw [trimL_valB]; simpa using HV.out⟩, hbel⟩
    | succ k =>
      have e : ((k + 1 : Nat) : Int) - 1 = (k : Int) := by omega
      rw [e]
      obtain ⟨y, hy⟩ : ∃ y, lb[k]? = some y := ⟨lb[k], by simp⟩
      obtain ⟨hyl, g2, rfl, _, hg2, hc⟩ := HB.out k y hy
      have hcr := hbel.cell (p := ⟨g2, k, none⟩) hg2
      rw [hc] at hcr
      have HY : Hid (lb[k]? = some y) := hy
      clear hy hc e
      rcases hown.shape with ⟨hu, hs0⟩ | ⟨g, cap, hu, hgB, hg, hlc, hcp, _, _⟩
      · rw [hu, hs0] at hown
        have HS0 : Hid (s = []) := hs0
        rw [hu]
        clear hs0 hu
        go_wp2_with fail
        refine (times_any _ va la y ((ha.below hbel)) (by omega) (by omega)).mono ?_
        rintro e w3 ⟨v3, l3, rfl, o3, c3, hv3, b3⟩
        have hl3 : l3.length ≤ la.length + 1 := by
          refine canon_lenB c3 ?_
          rw [hv3, Nat.pow_succ]
          exact Nat.mul_lt_mul_of_lt_of_le (val_ltB ha.2) (by omega) (by omega)
        have HV3 : Hid (valB l3 = valB la * y) := hv3
        clear hv3
        go_wp2_with fail
        refine (plus_any _ (.slice none 0 0) v3 [] l3 ((ownB_nil wr 0).below b3) (o3.base (Nat.zero_le _)) (by simp) (by omega)).mono ?_
        rintro e w4 ⟨v4, l4, rfl, o4, hv4, hl4, b4⟩
        have HV4 : Hid (valB l4 = valB ([]) + valB l3) := hv4
        have hb4 : Below w.heap.size w w4 := (hbel).trans ((b3.mono (hbel).size).trans (b4.mono (Nat.le_trans (hbel).size b3.size)))
        have ho4 := o4.base (Nat.le_trans (hbel).size b3.size)
        simp only [List.length_nil] at hl4
        clear hv4 o4 b4 b3
        go_wp2
        go_roundw
        case rel =>
          refine ⟨k, l4, by omega, rfl, ho4, by omega, ?_, hb4⟩
          rw [HV4.out, HV3.out, ← prod_step HY.out HV.out]
          rw [HS0.out]; simp [valB]
        case measure => simp [intOf]
      · rw [hu] at hown
        rw [hu]
        clear hu
        by_cases hs0 : s.length = 0
        · have HS0 : Hid (s = []) := List.length_eq_zero_iff.1 hs0
          have hz : ((s.length : Int)) ≤ 0 := by omega
          go_wp2_with (at_builtin; refine wpList_append_own _ rfl _ _ 41 rfl w.heap.size 3 i0 (.int .i64 0) 1 8 Tryd.underlying41 hi hz0 hz1 hz2 rfl (by decide) _ _ _ rfl (World.ownsRow_nil wr w.heap.size _ _) ⟨g, 0, none⟩ s.length cap (i64s s) rfl ?x1a ?x2a ?x3a ?x4a ?x5a ?x6a ?_)
          case x1a => simp [i64s]
          case x2a => exact cells_of hown
          case x3a => exact one_of s
          case x4a => unfold maxLen; omega
          case x5a => omega
          case x6a => exact hsz
          intro v1 w1 hown1 hgrow hnil
          clear hnil
          have ho1 : OwnB w1 w.heap.size v1 s := OwnB.ofRow hown1 (by simp) hown.2
          have hb1 : Below w.heap.size w w1 := hbel.grown hgrow hsz (by intro q hq; simp [Value.ownBlock] at hq)
          have hcr1 : w1.cell? ⟨g2, k, none⟩ = some (.int .i64 (y : Int)) := (hb1.cell (p := ⟨g2, k, none⟩) hg2).trans ((hbel.cell (p := ⟨g2, k, none⟩) hg2).symm.trans hcr)
          clear hown1 hgrow
          go_wp2_with fail
          refine (times_any _ va la y ((ha.below hb1)) (by omega) (by omega)).mono ?_
          rintro e w3 ⟨v3, l3, rfl, o3, c3, hv3, b3⟩
          have hl3 : l3.length ≤ la.length + 1 := by
            refine canon_lenB c3 ?_
            rw [hv3, Nat.pow_succ]
            exact Nat.mul_lt_mul_of_lt_of_le (val_ltB ha.2) (by omega) (by omega)
          have HV3 : Hid (valB l3 = valB la * y) := hv3
          clear hv3
          go_wp2_with fail
          refine (plus_any _ v1 v3 s l3 ((ho1.base (Nat.zero_le _)).below b3) (o3.base (Nat.zero_le _)) (by omega) (by omega)).mono ?_
          rintro e w4 ⟨v4, l4, rfl, o4, hv4, hl4, b4⟩
          have HV4 : Hid (valB l4 = valB (s) + valB l3) := hv4
          have hb4 : Below w.heap.size w w4 := (hb1).trans ((b3.mono (hb1).size).trans (b4.mono (Nat.le_trans (hb1).size b3.size)))
          have ho4 := o4.base (Nat.le_trans (hb1).size b3.size)
          clear hv4 o4 b4 b3
          go_wp2
          go_roundw
          case rel =>
            refine ⟨k, l4, by omega, rfl, ho4, by omega, ?_, hb4⟩
            rw [HV4.out, HV3.out, ← prod_step HY.out HV.out]
            rw [HS0.out]; simp [valB]
          case measure => simp [intOf]
        · have hz : (0 : Int) < (s.length : Int) := by omega
          go_wp2_with ((at_builtin; refine wpList_append_own _ rfl _ _ 41 rfl w.heap.size 3 i0 (.int .i64 0) 1 8 Tryd.underlying41 hi hz0 hz1 hz2 rfl (by decide) _ _ _ rfl ((World.ownsRow_nil wr w.heap.size _ _).alloc _) ⟨wr.heap.size, 0, none⟩ 1 1 [.int .i64 0] rfl rfl ?c1 ?c2 ?c3 ?c4 ?c5 ?_))
          case c1 => exact cell_one_new _ _ _
          case c2 => intro u hu; simp at hu; subst hu; rfl
          case c3 => unfold maxLen; omega
          case c4 => omega
          case c5 => simp; omega
          intro v1 w1 hown1 hgrow hnil
          clear hnil
          have hb1 : Below w.heap.size w w1 := (hbel.alloc hsz _).grown hgrow (by simp; omega) (by intro q hq; simp [Value.ownBlock] at hq)
          have hos : OwnB w1 w.heap.size (.slice (some ⟨g, 0, none⟩) s.length cap) s := (hown.below ((Below.refl wr.heap.size wr).alloc (Nat.le_refl _) _)).below ((Below.refl _ _).grown hgrow (Nat.le_refl _) (by intro q hq; simp [Value.ownBlock] at hq))
          have ho1 : OwnB w1 w.heap.size v1 [0] := OwnB.ofRow hown1 (by simp [i64s]) (by intro x hx; simp at hx; omega)
          have hsz1 := hb1.size
          clear hgrow hown1
          go_wp2_with (at_builtin; refine wpList_append_own _ rfl _ _ 41 rfl w.heap.size 3 i0 (.int .i64 0) 1 8 Tryd.underlying41 hi hz0 hz1 hz2 rfl (by decide) _ _ _ rfl (ho1.1) ⟨g, 0, none⟩ s.length cap (i64s s) rfl ?x1c ?x2c ?x3c ?x4c ?x5c ?x6c ?_)
          case x1c => simp [i64s]
          case x2c => exact cells_of hos
          case x3c => exact one_of s
          case x4c => unfold maxLen; simp; omega
          case x5c => simp; omega
          case x6c => exact hsz1
          intro v2 w2 hown2 hgrow2 hnil
          clear hnil
          have ho2 : OwnB w2 w.heap.size v2 (0 :: s) := OwnB.ofRow hown2 (by rw [← i64s_append]; rfl) (wds_appendB ho1.2 hown.2)
          have hb2 : Below w.heap.size w w2 := hb1.grown hgrow2 hsz1 (fun q hq => (ho1.1.lt q hq).1)
          have hcr1 : w2.cell? ⟨g2, k, none⟩ = some (.int .i64 (y : Int)) := (hb2.cell (p := ⟨g2, k, none⟩) hg2).trans ((hbel.cell (p := ⟨g2, k, none⟩) hg2).symm.trans hcr)
          clear hown2 hgrow2
          go_wp2_with fail
          refine (times_any _ va la y ((ha.below hb2)) (by omega) (by omega)).mono ?_
          rintro e w3 ⟨v3, l3, rfl, o3, c3, hv3, b3⟩
          have hl3 : l3.length ≤ la.length + 1 := by
            refine canon_lenB c3 ?_
            rw [hv3, Nat.pow_succ]
            exact Nat.mul_lt_mul_of_lt_of_le (val_ltB ha.2) (by omega) (by omega)
          have HV3 : Hid (valB l3 = valB la * y) := hv3
          clear hv3
          go_wp2_with fail
          refine (plus_any _ v2 v3 (0 :: s) l3 ((ho2.base (Nat.zero_le _)).below b3) (o3.base (Nat.zero_le _)) (by simp; omega) (by omega)).mono ?_
          rintro e w4 ⟨v4, l4, rfl, o4, hv4, hl4, b4⟩
          have HV4 : Hid (valB l4 = valB ((0 :: s)) + valB l3) := hv4
          have hb4 : Below w.heap.size w w4 := (hb2).trans ((b3.mono (hb2).size).trans (b4.mono (Nat.le_trans (hb2).size b3.size)))
          have ho4 := o4.base (Nat.le_trans (hb2).size b3.size)
          simp only [List.length_cons] at hl4
          clear hv4 o4 b4 b3
          go_wp2
          go_roundw
          case rel =>
            refine ⟨k, l4, by omega, rfl, ho4, by omega, ?_, hb4⟩
            rw [HV4.out, HV3.out, ← prod_step HY.out HV.out]
            simp [valB]
          case measure => simp [intOf]

end Go.Proofs.YthdcceackfdbbaaDoor
