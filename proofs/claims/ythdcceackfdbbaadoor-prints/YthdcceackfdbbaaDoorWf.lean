/- Walks: Shift. Own text. -/
import Derived.Test.YthdcceackfdbbaaDoorWe
import Derived.Laws.BitsAllLaws
namespace Go.Proofs.YthdcceackfdbbaaDoor
open Go.RowKit

theorem or_shl {cy x od : Nat} (hc : cy < 2 ^ od) (hx : x < 4294967296) (ho : od < 32) : bits .or .u64 (cy : Int) (IntKind.u64.wrap ((x : Int) * 2 ^ od)) = ((cy + x * 2 ^ od : Nat) : Int) := by
  have h1 : 2 ^ od ≤ 2 ^ 31 := Nat.pow_le_pow_right (by omega) (by omega)
  have h2 : x * 2 ^ od ≤ 4294967295 * 2 ^ 31 := Nat.mul_le_mul (by omega) h1
  have e : (x : Int) * 2 ^ od = ((x * 2 ^ od : Nat) : Int) := by simp
  rw [e, IntKind.wrap_u64, show ((x * 2 ^ od : Nat) : Int) % 18446744073709551616 = ((x * 2 ^ od : Nat) : Int) from by omega]
  rw [u64_or_nat _ _ (by omega) (by omega), Nat.or_comm, nat_join od _ _ (Nat.mul_mod_left _ _) hc, Nat.add_comm]

theorem shl_carry {cy x od : Nat} (hc : cy < 2 ^ od) (hx : x < 4294967296) : (cy + x * 2 ^ od) / 4294967296 < 2 ^ od := by
  refine Nat.div_lt_of_lt_mul ?_
  have h2 : (x + 1) * 2 ^ od ≤ 4294967296 * 2 ^ od := Nat.mul_le_mul_right _ (by omega)
  rw [Nat.add_mul] at h2
  omega

theorem shift_step {p la : List Nat} {wd k x cy od r c' : Nat} (hp : wd + k < p.length) (hx : la[k]? = some x) (ht : r + 4294967296 * c' = cy + x * 2 ^ od)
    (h : val (p.take (wd + k)) + 4294967296 ^ (wd + k) * cy = 4294967296 ^ wd * (val (la.take k) * 2 ^ od)) :
    val ((p.set (wd + k) r).take (wd + (k + 1))) + 4294967296 ^ (wd + (k + 1)) * c' = 4294967296 ^ wd * (val (la.take (k + 1)) * 2 ^ od) := by
  rw [show wd + (k + 1) = (wd + k) + 1 from by omega, set_take_succ hp, val_snoc, take_len (by omega), val_take_succ (.inl hx)]
  have e1 : 4294967296 ^ (wd + k + 1) * c' = 4294967296 ^ (wd + k) * (4294967296 * c') := by rw [Nat.pow_succ, Nat.mul_assoc]
  have e2 : 4294967296 ^ (wd + k) * (r + 4294967296 * c') = 4294967296 ^ (wd + k) * (cy + x * 2 ^ od) := by rw [ht]
  have e3 : 4294967296 ^ wd * ((val (la.take k) + 4294967296 ^ k * x) * 2 ^ od) = 4294967296 ^ wd * (val (la.take k) * 2 ^ od) + 4294967296 ^ (wd + k) * (x * 2 ^ od) := by
    rw [Nat.add_mul, Nat.mul_add, Nat.pow_add, Nat.mul_assoc (4294967296 ^ k), Nat.mul_assoc (4294967296 ^ wd)]
  rw [Nat.mul_add, Nat.mul_add] at e2
  rw [e1, e3]
  omega

theorem shift_end {p la : List Nat} {wd cy od n : Nat} (hw : wd = n / 32) (ho : od = n % 32) (hp : p.length = wd + la.length + 1)
    (h : val (p.take (wd + la.length)) + 4294967296 ^ (wd + la.length) * cy = 4294967296 ^ wd * (val (la.take la.length) * 2 ^ od)) : val (p.set (wd + la.length) cy) = val la * 2 ^ n := by
  rw [val_set_last hp, h, List.take_length, pow_word, Nat.mul_left_comm, ← Nat.pow_add, show 32 * wd + od = n from by omega]

set_option maxHeartbeats 800000 in
theorem shift_any (w : World) (va : Value) (la : List Nat) (n : Nat) (ha : Own w 0 va la) (hla : la.length ≤ 4096) (hn : n ≤ 100000) :
    Calls Tryd.prog 79 #[va, .int .i64 n] w fun e w' => ∃ v' l', e = .returned v' ∧ Own w' w.heap.size v' l' ∧ Canon l' ∧ val l' = val la * 2 ^ n ∧ Below w.heap.size w w' := by
  obtain ⟨aa, capa, rfl, hlca, hcapa, hcella⟩ := ha.shape1
  have HA : Hid (∀ (i x : Nat), la[i]? = some x → x < 4294967296 ∧ ∃ g, aa = some ⟨g, 0, none⟩ ∧ 0 ≤ g ∧ g < w.heap.size ∧ w.cell? ⟨g, i, none⟩ = some (.int .u32 (x : Int))) := hcella
  clear hcella hcapa
  obtain ⟨i0, hi, hz0, hz1, hz2⟩ := info_parts Tryd.infoU32
  go_enter Tryd.func79, Tryd.ntmps79
  go_wp2
  go_quiet ((go_at_call 91; exact Calls.quiet_of_same (width_any _)))
  obtain ⟨wd, hwd⟩ : ∃ wd, wd = n / 32 := ⟨_, rfl⟩
  obtain ⟨od, hod⟩ : ∃ od, od = n % 32 := ⟨_, rfl⟩
  have hod2 : od < 32 := by omega
  have hwd2 : wd ≤ 4000 := by omega
  have e1 : (n : Int) / 32 = (wd : Int) := by omega
  have e2 : (n : Int) % 32 = (od : Int) := by omega
  rw [e1, e2]
  have HW : Hid (wd = n / 32) := hwd
  have HO : Hid (od = n % 32) := hod
  clear hwd hod e1 e2
  go_wp2_with (at_make; refine wpList_make_full _ rfl _ _ 76 rfl w.heap.size 84 i0 (.int .u32 0) 1 Tryd.underlying76 hi hz0 hz1 _ _ _ _ (wd + la.length + 1) rfl rfl ?c1 ?c2 ?c3 ?c4 ?c5 ?c6)
  case c1 => omega
  case c2 => omega
  case c3 => rw [hz2]; omega
  case c4 => unfold maxLen; omega
  case c5 => simp
  intro w1 hown hgrow
  have hown1 := own_made hown
  have hbel : Below w.heap.size w w1 := ((below_drewN (Below.refl _ _) _)).grown hgrow (by simp) (by intro k hk; cases hk)
  clear hown hgrow
  go_wp2
  go_loopw [8, 25] (fun c i wr => ∃ (k : Nat) (p : List Nat) (cy : Nat), k ≤ la.length ∧ i = .int .i64 k ∧ c = .int .u64 cy ∧ cy < 2 ^ od ∧ p.length = wd + la.length + 1 ∧
      Own wr w.heap.size (.slice (some ⟨w.heap.size, 0, none⟩) (wd + la.length + 1) (wd + la.length + 1)) p ∧ val (p.take (wd + k)) + 4294967296 ^ (wd + k) * cy = 4294967296 ^ wd * (val (la.take k) * 2 ^ od) ∧ Below w.heap.size w wr)
    (fun _ i _ => la.length - (intOf i).toNat)
  case atStart => exact ⟨0, _, 0, Nat.zero_le _, rfl, rfl, Nat.pow_pos (by omega), by simp, hown1, by rw [List.take_replicate, val_zeros]; simp [val], hbel⟩
  case round =>
    clear hown1 hbel
    obtain ⟨k, p, cy, hk, rfl, rfl, hcy, hp, hown, hval, hbel⟩ := hrel
    have HV : Hid (val (p.take (wd + k)) + 4294967296 ^ (wd + k) * cy = 4294967296 ^ wd * (val (la.take k) * 2 ^ od)) := hval
    have HP : Hid (p.length = wd + la.length + 1) := hp
    have HC : Hid (cy < 2 ^ od) := hcy
    have hcy2 : cy < 4294967296 := by have : 2 ^ od ≤ 2 ^ 31 := Nat.pow_le_pow_right (by omega) (by omega); omega
    clear hval hp hcy
    by_cases hlt : k < la.length
    · obtain ⟨x, hx⟩ : ∃ x, la[k]? = some x := ⟨la[k], by simp [hlt]⟩
      obtain ⟨hxl, g, rfl, _, hg, hc⟩ := HA.out k x hx
      have hcr := hbel.cell (p := ⟨g, k, none⟩) hg
      rw [hc] at hcr
      have HX : Hid (la[k]? = some x) := hx
      obtain ⟨z, hz, hzl, hold⟩ := hown.at (j := wd + k) (by omega)
      have hfr := hown.frozenW (wd + k)
      clear hx hc hz
      go_wp2_with (go_at_call 91; refine (width_any _).mono ?_; rintro e w' ⟨rfl, rfl⟩)
      go_roundw
      case rel =>
        rw [or_shl HC.out hxl hod2]
        have e1 : ((cy + x * 2 ^ od : Nat) : Int) % 4294967296 = (((cy + x * 2 ^ od) % 4294967296 : Nat) : Int) := by omega
        have e2 : ((cy + x * 2 ^ od : Nat) : Int) / 4294967296 = (((cy + x * 2 ^ od) / 4294967296 : Nat) : Int) := by omega
        rw [e1, e2]
        exact ⟨k + 1, p.set (wd + k) ((cy + x * 2 ^ od) % 4294967296), _, by omega, by go_num, rfl, shl_carry HC.out hxl, by simp [HP.out], hown.stored (by simp [HP.out]) (wd + k) (Nat.mod_lt _ (by omega)),
          shift_step (by rw [HP.out]; omega) HX.out (by omega) HV.out, hbel.setCell (Nat.le_refl _) _⟩
      case measure => simp [intOf]; omega
    · have HK : Hid (k = la.length) := by unfold Hid; omega
      obtain ⟨z, hz, hzl, hold⟩ := hown.at (j := wd + la.length) (by omega)
      have hfr := hown.frozenW (wd + la.length)
      clear hz
      go_wp2_with fail
      have hown2 := hown.stored (by simp [HP.out]) (wd + la.length) hcy2
      refine (trim_any _ _ _ _ hown2).mono ?_
      rintro e w' ⟨v', rfl, hown3, rfl⟩
      go_wp2
      go_ret
      refine ⟨v', _, rfl, hown3, trimL_canon _, ?_, hbel.setCell (Nat.le_refl _) _⟩
      have hv := HV.out
      rw [HK.out] at hv
      rw [trimL_val, shift_end HW.out HO.out HP.out hv]

end Go.Proofs.YthdcceackfdbbaaDoor
