/- Walks: Mul. Own text. -/
import Derived.Test.YthdcceackfdbbaaDoorWd
namespace Go.Proofs.YthdcceackfdbbaaDoor
open Go.RowKit

set_option maxHeartbeats 800000 in
theorem mul_any (w : World) (va vb : Value) (la lb : List Nat) (ha : Own w 0 va la) (hb : Own w 0 vb lb) (hla : la.length ≤ 4096) (hlb : lb.length ≤ 4096) :
    Calls Tryd.prog 66 #[va, vb] w fun e w' => ∃ v' l', e = .returned v' ∧ Own w' w.heap.size v' l' ∧ Canon l' ∧ val l' = val la * val lb ∧ Below w.heap.size w w' := by
  obtain ⟨aa, capa, rfl, hlca, hcapa, hcella⟩ := ha.shape1
  obtain ⟨ab, capb, rfl, hlcb, hcapb, hcellb⟩ := hb.shape1
  have HA : Hid (∀ (i x : Nat), la[i]? = some x → x < 4294967296 ∧ ∃ g, aa = some ⟨g, 0, none⟩ ∧ 0 ≤ g ∧ g < w.heap.size ∧ w.cell? ⟨g, i, none⟩ = some (.int .u32 (x : Int))) := hcella
  have HB : Hid (∀ (i x : Nat), lb[i]? = some x → x < 4294967296 ∧ ∃ g, ab = some ⟨g, 0, none⟩ ∧ 0 ≤ g ∧ g < w.heap.size ∧ w.cell? ⟨g, i, none⟩ = some (.int .u32 (x : Int))) := hcellb
  clear hcella hcellb hcapa hcapb
  obtain ⟨i0, hi, hz0, hz1, hz2⟩ := info_parts Tryd.infoU32
  go_enter Tryd.func66, Tryd.ntmps66
  go_wp2_with (at_make; refine wpList_make_full _ rfl _ _ 76 rfl w.heap.size 84 i0 (.int .u32 0) 1 Tryd.underlying76 hi hz0 hz1 _ _ _ _ (la.length + lb.length) rfl rfl ?c1 ?c2 ?c3 ?c4 ?c5 ?c6)
  case c1 => omega
  case c2 => omega
  case c3 => rw [hz2]; omega
  case c4 => unfold maxLen; omega
  case c5 => exact Nat.le_refl _
  intro w1 hown hgrow
  have hown1 := own_made hown
  have hbel : Below w.heap.size w w1 := (Below.refl _ _).grown hgrow (Nat.le_refl _) (by intro k hk; cases hk)
  clear hown hgrow
  go_wp2
  go_loopw [19] (fun i wr => ∃ (k : Nat) (p : List Nat), k ≤ la.length ∧ i = .int .i64 k ∧ p.length = la.length + lb.length ∧
      Own wr w.heap.size (.slice (some ⟨w.heap.size, 0, none⟩) (la.length + lb.length) (la.length + lb.length)) p ∧ val (p.take (k + lb.length)) = val (la.take k) * val lb ∧ Below w.heap.size w wr)
    (fun i _ => la.length - (intOf i).toNat)
  case atStart => exact ⟨0, _, Nat.zero_le _, rfl, by simp, hown1, by rw [List.take_replicate, val_zeros]; simp [val], hbel⟩
  case round =>
    clear hown1 hbel
    obtain ⟨k, p0, hk, rfl, hp0, hown, hval, hbel⟩ := hrel
    have HV0 : Hid (val (p0.take (k + lb.length)) = val (la.take k) * val lb) := hval
    have HP0 : Hid (p0.length = la.length + lb.length) := hp0
    clear hval hp0
    by_cases hlt : k < la.length
    · obtain ⟨x, hx⟩ : ∃ x, la[k]? = some x := ⟨la[k], by simp [hlt]⟩
      obtain ⟨hxl, g, rfl, _, hg, hc⟩ := HA.out k x hx
      have hcr := hbel.cell (p := ⟨g, k, none⟩) hg
      rw [hc] at hcr
      have HX : Hid (la[k]? = some x) := hx
      clear hx hc
      go_wp2
      go_loopw [8, 26] (fun c i wr => ∃ (j : Nat) (p : List Nat) (cy : Nat), j ≤ lb.length ∧ i = .int .i64 j ∧ c = .int .u64 cy ∧ cy < 4294967296 ∧ p.length = la.length + lb.length ∧
          Own wr w.heap.size (.slice (some ⟨w.heap.size, 0, none⟩) (la.length + lb.length) (la.length + lb.length)) p ∧
          val (p.take (k + j)) + 4294967296 ^ (k + j) * cy = val (p0.take (k + j)) + 4294967296 ^ k * (x * val (lb.take j)) ∧ p.drop (k + j) = p0.drop (k + j) ∧ Below w.heap.size w wr)
        (fun _ i _ => lb.length - (intOf i).toNat)
      case atStart => exact ⟨0, p0, 0, Nat.zero_le _, rfl, rfl, by omega, HP0.out, hown, by simp [val], rfl, hbel⟩
      case round =>
        clear hown hbel hcr
        obtain ⟨j, p, cy, hj, rfl, rfl, hcy, hp, hown, hval, hdrop, hbel⟩ := hrel
        have HV : Hid (val (p.take (k + j)) + 4294967296 ^ (k + j) * cy = val (p0.take (k + j)) + 4294967296 ^ k * (x * val (lb.take j))) := hval
        have HP : Hid (p.length = la.length + lb.length) := hp
        have HD : Hid (p.drop (k + j) = p0.drop (k + j)) := hdrop
        clear hval hp hdrop
        by_cases hlt2 : j < lb.length
        · obtain ⟨y, hy⟩ : ∃ y, lb[j]? = some y := ⟨lb[j], by simp [hlt2]⟩
          obtain ⟨hyl, g2, rfl, _, hg2, hc⟩ := HB.out j y hy
          have hcr := hbel.cell (p := ⟨g2, j, none⟩) hg2
          rw [hc] at hcr
          obtain ⟨z, hz, hzl, hold⟩ := hown.at (j := k + j) (by omega)
          have hfr := hown.frozenW (k + j)
          have HY : Hid (lb[j]? = some y) := hy
          have HZ : Hid (p[k + j]? = some z) := hz
          obtain ⟨hb1, hb2⟩ := mul_carry hcy hxl hyl hzl
          clear hy hc hz
          go_wp2_with (go_at_call 91; refine (width_any _).mono ?_; rintro e w' ⟨rfl, rfl⟩)
          go_roundw
          case rel =>
            have e1 : ((cy : Int) + ((x : Int) * (y : Int) + (z : Int))) % 4294967296 = (((cy + (x * y + z)) % 4294967296 : Nat) : Int) := by simp
            have e2 : ((cy : Int) + ((x : Int) * (y : Int) + (z : Int))) / 4294967296 = (((cy + (x * y + z)) / 4294967296 : Nat) : Int) := by simp
            rw [e1, e2]
            exact ⟨j + 1, p.set (k + j) ((cy + (x * y + z)) % 4294967296), _, by omega, by go_num, rfl, hb2, by simp [HP.out], hown.stored (by simp [HP.out]) (k + j) (Nat.mod_lt _ (by omega)),
              mul_step (by rw [HP.out]; omega) (get_of_drop HD.out HZ.out) HY.out (by omega) HV.out, drop_step HD.out, hbel.setCell (Nat.le_refl _) _⟩
          case measure => simp [intOf]; omega
        · have HJ : Hid (j = lb.length) := by unfold Hid; omega
          obtain ⟨z, hz, hzl, hold⟩ := hown.at (j := k + lb.length) (by omega)
          have hfr := hown.frozenW (k + lb.length)
          clear hz
          go_wp2
          go_roundw
          case rel =>
            have hv := HV.out
            rw [HJ.out] at hv
            exact ⟨k + 1, p.set (k + lb.length) cy, by omega, by go_num, by simp [HP.out], hown.stored (by simp [HP.out]) (k + lb.length) hcy, mul_row (by rw [HP.out]; omega) HX.out HV0.out hv, hbel.setCell (Nat.le_refl _) _⟩
          case measure => simp [intOf]; omega
    · have HK : Hid (k = la.length) := by unfold Hid; omega
      go_wp2_with fail
      refine (trim_any _ _ _ _ hown).mono ?_
      rintro e w' ⟨v', rfl, hown3, rfl⟩
      go_wp2
      go_ret
      refine ⟨v', _, rfl, hown3, trimL_canon _, ?_, hbel⟩
      have hv := HV0.out
      rw [HK.out, List.take_length, List.take_of_length_le (by rw [HP0.out]; omega)] at hv
      rw [trimL_val, hv]

end Go.Proofs.YthdcceackfdbbaaDoor
