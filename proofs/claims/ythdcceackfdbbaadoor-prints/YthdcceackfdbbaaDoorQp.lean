/- Walk: plus, of numbers without noughts above. Own text. -/
import Derived.Test.YthdcceackfdbbaaDoorRs
import Derived.Test.YthdcceackfdbbaaDoorMc
namespace Go.Proofs.YthdcceackfdbbaaDoor
open Go.RowKit

def LastOk (la lb s : List Nat) (k cy : Nat) : Prop := ∀ z, s.getLast? = some z → z = 0 → cy ≠ 0 ∨ k < la.length ∨ k < lb.length

theorem lastok_canon {la lb s : List Nat} {k : Nat} (h : LastOk la lb s k 0) (h1 : ¬ k < la.length) (h2 : ¬ k < lb.length) : Canon s := by
  intro z hz h0
  rcases h z hz h0 with h | h | h
  · exact h rfl
  · exact h1 h
  · exact h2 h

theorem top_ne {l : List Nat} {k x : Nat} (hc : Canon l) (hx : l[k]? = some x ∨ (l.length ≤ k ∧ x = 0)) (hk : k < l.length) (hk1 : ¬ k + 1 < l.length) : x ≠ 0 := by
  rcases hx with hx | ⟨h, _⟩
  · apply hc
    rw [List.getLast?_eq_getElem?, show l.length - 1 = k by omega]
    exact hx
  · omega

theorem last_new {la lb s : List Nat} {k x y r c' cy : Nat} (ca : Canon la) (cb : Canon lb) (hx : la[k]? = some x ∨ (la.length ≤ k ∧ x = 0)) (hy : lb[k]? = some y ∨ (lb.length ≤ k ∧ y = 0)) (hc : k < la.length ∨ k < lb.length ∨ 0 < cy) (ht : r + 1000000000 * c' = cy + x + y) : LastOk la lb (s ++ [r]) (k + 1) c' := by
  intro z hz h0
  rw [List.getLast?_append] at hz
  simp at hz
  subst hz
  by_cases h1 : k + 1 < la.length
  · exact .inr (.inl h1)
  · by_cases h2 : k + 1 < lb.length
    · exact .inr (.inr h2)
    · left
      intro hc0
      rcases hc with h | h | h
      · have := top_ne ca hx h h1; omega
      · have := top_ne cb hy h h2; omega
      · omega

set_option maxRecDepth 5000 in
set_option maxHeartbeats 1600000 in
theorem plusC_any (w : World) (va vb : Value) (la lb : List Nat) (ha : OwnB w 0 va la) (hb' : OwnB w 0 vb lb) (hla : la.length ≤ 1000000) (hlb : lb.length ≤ 1000000) (ca : Canon la) (cb : Canon lb) :
    Calls Tryd.prog 36 #[va, vb] w fun e w' => ∃ v' l', e = .returned v' ∧ OwnB w' w.heap.size v' l' ∧ valB l' = valB la + valB lb ∧ Canon l' ∧ Below w.heap.size w w' := by
  obtain ⟨aa, capa, rfl, hlca, hcapa, hcella⟩ := ha.shape1
  obtain ⟨ab, capb, rfl, hlcb, hcapb, hcellb⟩ := hb'.shape1
  have HA : Hid (∀ (i x : Nat), la[i]? = some x → x < 1000000000 ∧ ∃ g, aa = some ⟨g, 0, none⟩ ∧ 0 ≤ g ∧ g < w.heap.size ∧ w.cell? ⟨g, i, none⟩ = some (.int .i64 (x : Int))) := hcella
  have HB : Hid (∀ (i x : Nat), lb[i]? = some x → x < 1000000000 ∧ ∃ g, ab = some ⟨g, 0, none⟩ ∧ 0 ≤ g ∧ g < w.heap.size ∧ w.cell? ⟨g, i, none⟩ = some (.int .i64 (x : Int))) := hcellb
  clear hcella hcellb hcapa hcapb
  obtain ⟨i0, hi, hz0, hz1, hz2⟩ := info_parts Tryd.infoInt
  have HCA := Hid.mk' ca
  have HCB := Hid.mk' cb
  clear ca cb
  go_enter Tryd.func36, Tryd.ntmps36
  go_wp2
  go_loopw [5, 6, 7] (fun v c i wr => ∃ (k : Nat) (s : List Nat) (cy : Nat), i = .int .i64 k ∧ c = .int .i64 cy ∧ cy ≤ 1 ∧ s.length = k ∧ k + cy ≤ la.length + lb.length + 1 ∧ OwnB wr w.heap.size v s ∧
      valB s + 1000000000 ^ k * cy = valB (la.take k) + valB (lb.take k) ∧ LastOk la lb s k cy ∧ Below w.heap.size w wr) (fun _ _ i _ => la.length + lb.length + 2 - (intOf i).toNat)
  case atStart => exact ⟨0, [], 0, rfl, rfl, by omega, rfl, by simp, ownB_nil _ _, by simp [valB], (by intro z hz; simp at hz), Below.refl _ _⟩
  case round =>
    obtain ⟨k, s, cy, rfl, rfl, hcy, hs, hk, hown, hval, hlk, hbel⟩ := hrel
    have HLK := Hid.mk' hlk
    clear hlk
    have HV : Hid (valB s + 1000000000 ^ k * cy = valB (la.take k) + valB (lb.take k)) := hval
    have hsz := hbel.size
    have HS : Hid (s.length = k) := hs
    have hs2 : s.length ≤ 2000001 := by omega
    clear hval hs
    by_cases c1 : k < la.length
    · obtain ⟨x, hxx⟩ : ∃ x, la[k]? = some x := ⟨la[k], by simp [*]⟩
      obtain ⟨hlx, g, rfl, _, hgg, hcx⟩ := HA.out k x hxx
      have hcrx := hbel.cell (p := ⟨g, k, none⟩) hgg
      rw [hcx] at hcrx
      have HX : Hid (la[k]? = some x) := hxx
      clear hxx hcx
      by_cases c2 : k < lb.length
      · obtain ⟨y, hxy⟩ : ∃ y, lb[k]? = some y := ⟨lb[k], by simp [*]⟩
        obtain ⟨hly, g2, rfl, _, hgg2, hcy⟩ := HB.out k y hxy
        have hcry := hbel.cell (p := ⟨g2, k, none⟩) hgg2
        rw [hcy] at hcry
        have HY : Hid (lb[k]? = some y) := hxy
        clear hxy hcy
        go_wp2_with (at_builtin; refine wpList_append_own _ rfl _ _ 41 rfl w.heap.size 3 i0 (.int .i64 0) 1 8 Tryd.underlying41 hi hz0 hz1 hz2 rfl (by decide) _ _ _ rfl (hown.1.alloc _) ⟨wr.heap.size, 0, none⟩ 1 1 [.int .i64 (((cy : Int) + (x : Int) + (y : Int)) % 1000000000)] rfl rfl ?c1a ?c2a ?c3a ?c4a ?c5a ?_)
        case c1a => exact cell_one_new _ _ _
        case c2a => intro u hu; simp at hu; subst hu; rfl
        case c3a => unfold maxLen; omega
        case c4a => omega
        case c5a => simp; omega
        · intro v' w1 hown' hgrow _
          have hr : OwnB w1 w.heap.size v' (s ++ [(cy + x + y) % 1000000000]) := OwnB.ofRow hown' (by simp [i64s]) (wds_snocB hown.2 (by first | exact Nat.mod_lt _ (by omega) | omega))
          have hb : Below w.heap.size w w1 := (hbel.alloc hsz _).grown hgrow (by simp; omega) (fun k hk => (hown.1.lt k hk).1)
          clear hown' hgrow hown hbel
          go_wp2
          go_roundw
          case rel =>
            have e2 : ((cy : Int) + (x : Int) + (y : Int)) / 1000000000 = ((((cy + x + y)) / 1000000000 : Nat) : Int) := by simp
            rw [e2]
            exact ⟨k + 1, s ++ [((cy + x + y)) % 1000000000], _, by go_num, rfl, by omega, by simp [HS.out], by omega, hr, plus_step HS.out (.inl HX.out) (.inl HY.out) (by omega) HV.out, last_new (cy := cy) HCA.out HCB.out (.inl HX.out) (.inl HY.out) (by omega) (by omega), hb⟩
          case measure => simp [intOf]; omega
      · go_wp2_with (at_builtin; refine wpList_append_own _ rfl _ _ 41 rfl w.heap.size 3 i0 (.int .i64 0) 1 8 Tryd.underlying41 hi hz0 hz1 hz2 rfl (by decide) _ _ _ rfl (hown.1.alloc _) ⟨wr.heap.size, 0, none⟩ 1 1 [.int .i64 (((cy : Int) + (x : Int)) % 1000000000)] rfl rfl ?c1b ?c2b ?c3b ?c4b ?c5b ?_)
        case c1b => exact cell_one_new _ _ _
        case c2b => intro u hu; simp at hu; subst hu; rfl
        case c3b => unfold maxLen; omega
        case c4b => omega
        case c5b => simp; omega
        · intro v' w1 hown' hgrow _
          have hr : OwnB w1 w.heap.size v' (s ++ [(cy + x) % 1000000000]) := OwnB.ofRow hown' (by simp [i64s]) (wds_snocB hown.2 (by first | exact Nat.mod_lt _ (by omega) | omega))
          have hb : Below w.heap.size w w1 := (hbel.alloc hsz _).grown hgrow (by simp; omega) (fun k hk => (hown.1.lt k hk).1)
          clear hown' hgrow hown hbel
          go_wp2
          go_roundw
          case rel =>
            have e2 : ((cy : Int) + (x : Int)) / 1000000000 = ((((cy + x)) / 1000000000 : Nat) : Int) := by simp
            rw [e2]
            exact ⟨k + 1, s ++ [((cy + x)) % 1000000000], _, by go_num, rfl, by omega, by simp [HS.out], by omega, hr, plus_step HS.out (.inl HX.out) (.inr ⟨by omega, rfl⟩) (by omega) HV.out, last_new (cy := cy) HCA.out HCB.out (.inl HX.out) (.inr ⟨by omega, rfl⟩) (by omega) (by omega), hb⟩
          case measure => simp [intOf]; omega
    · by_cases c2 : k < lb.length
      · obtain ⟨y, hxy⟩ : ∃ y, lb[k]? = some y := ⟨lb[k], by simp [*]⟩
        obtain ⟨hly, g2, rfl, _, hgg2, hcy⟩ := HB.out k y hxy
        have hcry := hbel.cell (p := ⟨g2, k, none⟩) hgg2
        rw [hcy] at hcry
        have HY : Hid (lb[k]? = some y) := hxy
        clear hxy hcy
        go_wp2_with (at_builtin; refine wpList_append_own _ rfl _ _ 41 rfl w.heap.size 3 i0 (.int .i64 0) 1 8 Tryd.underlying41 hi hz0 hz1 hz2 rfl (by decide) _ _ _ rfl (hown.1.alloc _) ⟨wr.heap.size, 0, none⟩ 1 1 [.int .i64 (((cy : Int) + (y : Int)) % 1000000000)] rfl rfl ?c1c ?c2c ?c3c ?c4c ?c5c ?_)
        case c1c => exact cell_one_new _ _ _
        case c2c => intro u hu; simp at hu; subst hu; rfl
        case c3c => unfold maxLen; omega
        case c4c => omega
        case c5c => simp; omega
        · intro v' w1 hown' hgrow _
          have hr : OwnB w1 w.heap.size v' (s ++ [(cy + y) % 1000000000]) := OwnB.ofRow hown' (by simp [i64s]) (wds_snocB hown.2 (by first | exact Nat.mod_lt _ (by omega) | omega))
          have hb : Below w.heap.size w w1 := (hbel.alloc hsz _).grown hgrow (by simp; omega) (fun k hk => (hown.1.lt k hk).1)
          clear hown' hgrow hown hbel
          go_wp2
          go_roundw
          case rel =>
            have e2 : ((cy : Int) + (y : Int)) / 1000000000 = ((((cy + y)) / 1000000000 : Nat) : Int) := by simp
            rw [e2]
            exact ⟨k + 1, s ++ [((cy + y)) % 1000000000], _, by go_num, rfl, by omega, by simp [HS.out], by omega, hr, plus_step HS.out (.inr ⟨by omega, rfl⟩) (.inl HY.out) (by omega) HV.out, last_new (cy := cy) HCA.out HCB.out (.inr ⟨by omega, rfl⟩) (.inl HY.out) (by omega) (by omega), hb⟩
          case measure => simp [intOf]; omega
      · by_cases c3 : cy = 0
        · subst c3
          go_wp2
          go_ret
          refine ⟨_, s, rfl, hown, ?_, ?_, hbel⟩
          · have hv := HV.out
            rw [List.take_of_length_le (by omega), List.take_of_length_le (by omega)] at hv
            simpa using hv
          · exact lastok_canon HLK.out (by omega) (by omega)
        · have hpos : 0 < cy := by omega
          go_wp2_with (at_builtin; refine wpList_append_own _ rfl _ _ 41 rfl w.heap.size 3 i0 (.int .i64 0) 1 8 Tryd.underlying41 hi hz0 hz1 hz2 rfl (by decide) _ _ _ rfl (hown.1.alloc _) ⟨wr.heap.size, 0, none⟩ 1 1 [.int .i64 (((cy : Int)) % 1000000000)] rfl rfl ?c1d ?c2d ?c3d ?c4d ?c5d ?_)
          case c1d => exact cell_one_new _ _ _
          case c2d => intro u hu; simp at hu; subst hu; rfl
          case c3d => unfold maxLen; omega
          case c4d => omega
          case c5d => simp; omega
          · intro v' w1 hown' hgrow _
            have hr : OwnB w1 w.heap.size v' (s ++ [(cy) % 1000000000]) := OwnB.ofRow hown' (by simp [i64s]) (wds_snocB hown.2 (by first | exact Nat.mod_lt _ (by omega) | omega))
            have hb : Below w.heap.size w w1 := (hbel.alloc hsz _).grown hgrow (by simp; omega) (fun k hk => (hown.1.lt k hk).1)
            clear hown' hgrow hown hbel
            go_wp2
            go_roundw
            case rel =>
              have e2 : ((cy : Int)) / 1000000000 = ((((cy)) / 1000000000 : Nat) : Int) := by simp
              rw [e2]
              exact ⟨k + 1, s ++ [((cy)) % 1000000000], _, by go_num, rfl, by omega, by simp [HS.out], by omega, hr, plus_step HS.out (.inr ⟨by omega, rfl⟩) (.inr ⟨by omega, rfl⟩) (by omega) HV.out, last_new (cy := cy) HCA.out HCB.out (.inr ⟨by omega, rfl⟩) (.inr ⟨by omega, rfl⟩) (by omega) (by omega), hb⟩
            case measure => simp [intOf]; omega

theorem plusOne_rep (w : World) (va vb : Value) (a b : Nat) (ha : RepB w 0 va a) (hb : RepB w 0 vb b) (sa : SmallB a) (sb : SmallB b) :
    Calls Tryd.prog 36 #[va, vb] w fun e w' => ∃ v', e = .returned v' ∧ RepB w' w.heap.size v' (a + b) ∧ Below w.heap.size w w' := by
  obtain ⟨la, a1, a2, a3, a4⟩ := ha.own sa
  obtain ⟨lb, b1, b2, b3, b4⟩ := hb.own sb
  refine (plusC_any w va vb la lb a1 b1 (by omega) (by omega) a2 b2).mono ?_
  rintro e w' ⟨v', l', rfl, h1, h2, h3, h4⟩
  exact ⟨v', rfl, ⟨l', h1, h3, by rw [h2, a3, b3]⟩, h4⟩

end Go.Proofs.YthdcceackfdbbaaDoor
