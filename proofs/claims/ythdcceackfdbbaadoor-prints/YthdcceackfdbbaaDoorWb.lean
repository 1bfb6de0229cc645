/- Walks: MulAdd. Own text. -/
import Derived.Test.YthdcceackfdbbaaDoorWa
namespace Go.Proofs.YthdcceackfdbbaaDoor
open Go.RowKit

theorem Tryd.infoU32 : (Tryd.prog.info? 84).map (fun i => (i.zero, i.size, i.bytes)) = some (some (.int .u32 0), 1, 4) := by kernel_rfl

set_option maxRecDepth 20000 in
set_option maxHeartbeats 400000 in
theorem mulAdd_any (w : World) (v : Value) (l : List Nat) (f m : Nat) (h : Own w 0 v l) (hl : l.length ≤ 4096) (hf : f < 4294967296) (hm : m < 4294967296) :
    Calls Tryd.prog 64 #[v, .int .u32 f, .int .u32 m] w fun e w' => ∃ v' l', e = .returned v' ∧ Own w' w.heap.size v' l' ∧ Canon l' ∧ val l' = val l * f + m ∧ Below w.heap.size w w' := by
  obtain ⟨ao, cap, rfl, hlc, hcap, hcell⟩ := h.shape1
  unfold maxLen at hcap
  obtain ⟨i0, hi, hz0, hz1, hz2⟩ := info_parts Tryd.infoU32
  go_enter Tryd.func64, Tryd.ntmps64
  go_wp2_with (at_make; refine wpList_make_full _ rfl _ _ 76 rfl w.heap.size 84 i0 (.int .u32 0) 1 Tryd.underlying76 hi hz0 hz1 _ _ _ _ (l.length + 1) rfl rfl ?c1 ?c2 ?c3 ?c4 ?c5 ?c6)
  case c1 => omega
  case c2 => omega
  case c3 => rw [hz2]; omega
  case c4 => unfold maxLen; omega
  case c5 => exact Nat.le_refl _
  intro w1 hown hgrow
  have hown1 := own_made hown
  have hbel : Below w.heap.size w w1 := (Below.refl _ _).grown hgrow (Nat.le_refl _) (by intro k hk; cases hk)
  clear hown hgrow
  go_wp2
  go_loopw [8, 19] (fun c i wr => ∃ (k : Nat) (p : List Nat) (cy : Nat), k ≤ l.length ∧ i = .int .i64 k ∧ c = .int .u64 cy ∧ cy < 4294967296 ∧ p.length = l.length + 1 ∧
      Own wr w.heap.size (.slice (some ⟨w.heap.size, 0, none⟩) (l.length + 1) (l.length + 1)) p ∧ val (p.take k) + 4294967296 ^ k * cy = val (l.take k) * f + m ∧ Below w.heap.size w wr)
    (fun _ i _ => l.length - (intOf i).toNat)
  case atStart => exact ⟨0, _, m, Nat.zero_le _, rfl, rfl, hm, by simp, hown1, by simp [val], hbel⟩
  case round =>
    clear hown1 hbel
    obtain ⟨k, p, cy, hk, rfl, rfl, hcy, hp, hown, hval, hbel⟩ := hrel
    have HV := hval
    have HVV : Hid (val (p.take k) + 4294967296 ^ k * cy = val (l.take k) * f + m) := hval
    have HP : Hid (p.length = l.length + 1) := hp
    clear hval HV hp
    by_cases hlt : k < l.length
    · obtain ⟨x, hx⟩ : ∃ x, l[k]? = some x := ⟨l[k], by simp [hlt]⟩
      obtain ⟨hxl, g, rfl, _, hg, hc⟩ := hcell k x hx
      have hcr := hbel.cell (p := ⟨g, k, none⟩) hg
      rw [hc] at hcr
      have HX : Hid (l[k]? = some x) := hx
      have hfr := hown.frozenW k
      obtain ⟨y0, _, _, hold⟩ := hown.at (j := k) (by omega)
      obtain ⟨hb1, hb2⟩ := mulAdd_carry hcy hxl hf
      clear hx hc hcell
      go_wp2_with (go_at_call 91; refine (width_any _).mono ?_; rintro e w' ⟨rfl, rfl⟩)
      go_roundw
      case rel =>
        have e1 : ((cy : Int) + (x : Int) * (f : Int)) % 4294967296 = (((cy + x * f) % 4294967296 : Nat) : Int) := by simp
        have e2 : ((cy : Int) + (x : Int) * (f : Int)) / 4294967296 = (((cy + x * f) / 4294967296 : Nat) : Int) := by simp
        rw [e1, e2]
        exact ⟨k + 1, p.set k ((cy + x * f) % 4294967296), (cy + x * f) / 4294967296, by omega, by go_num, rfl, hb2, by simp [HP.out], hown.stored (by simp [HP.out]) k (Nat.mod_lt _ (by omega)),
          mulAdd_step (by rw [HP.out]; omega) HX.out (by omega) HVV.out, hbel.setCell (Nat.le_refl _) _⟩
      case measure => simp [intOf]; omega
    · have hfr := hown.frozenW l.length
      obtain ⟨y0, hy0, _, hold⟩ := hown.at (j := l.length) (by omega)
      have HK : Hid (k = l.length) := by unfold Hid; omega
      clear hcell hy0
      go_wp2_with fail
      have hown2 := hown.stored (by simp [HP.out]) l.length hcy
      refine (trim_any _ _ _ _ hown2).mono ?_
      rintro e w' ⟨v', rfl, hown3, rfl⟩
      go_wp2
      go_ret
      refine ⟨v', _, rfl, hown3, trimL_canon _, ?_, hbel.setCell (Nat.le_refl _) _⟩
      have hv := HVV.out
      rw [HK.out, List.take_length] at hv
      rw [trimL_val, val_set_last HP.out, hv]

end Go.Proofs.YthdcceackfdbbaaDoor
