/- Walks over the reference: small, trim, times. Own text. -/
import Derived.Test.YthdcceackfdbbaaDoorOwnB
import Derived.Test.YthdcceackfdbbaaDoorWd
namespace Go.Proofs.YthdcceackfdbbaaDoor
open Go.RowKit

theorem of_stepB {l : List Nat} {x y : Nat} (h : valB l + 1000000000 ^ l.length * y = x) : valB (l ++ [y % 1000000000]) + 1000000000 ^ (l ++ [y % 1000000000]).length * (y / 1000000000) = x := by
  rw [val_snocB]
  simp only [List.length_append, List.length_cons, List.length_nil, Nat.zero_add, Nat.pow_succ]
  rw [← h, Nat.mul_assoc, Nat.add_assoc, ← Nat.mul_add, Nat.mod_add_div]

theorem of_canonB {l : List Nat} {y : Nat} (hy : y ≠ 0) : y / 1000000000 = 0 → Canon (l ++ [y % 1000000000]) := by
  intro h
  exact canon_snoc (by omega)

theorem of_lenB {l : List Nat} {x y : Nat} (h : valB l + 1000000000 ^ l.length * y = x) (hy : y ≠ 0) (hx : x < 9223372036854775808) : l.length < 3 := by
  by_cases h2 : l.length < 3
  · exact h2
  · have h1 : 1000000000 ^ 3 ≤ 1000000000 ^ l.length := Nat.pow_le_pow_right (by omega) (by omega)
    have h3 : 1000000000 ^ 3 * 1 ≤ 1000000000 ^ l.length * y := Nat.mul_le_mul h1 (by omega)
    omega

set_option maxRecDepth 5000 in
set_option maxHeartbeats 400000 in
theorem small_any (w : World) (x : Nat) (hx : x < 9223372036854775808) :
    Calls Tryd.prog 25 #[.int .i64 x] w fun e w' => ∃ v', e = .returned v' ∧ RepB w' w.heap.size v' x ∧ Below w.heap.size w w' := by
  obtain ⟨i0, hi, hz0, hz1, hz2⟩ := info_parts Tryd.infoInt
  go_enter Tryd.func25, Tryd.ntmps25
  go_wp2
  go_loopw [0, 3] (fun s v wr => ∃ (y : Nat) (l : List Nat), s = .int .i64 y ∧ y < 9223372036854775808 ∧ OwnB wr w.heap.size v l ∧ valB l + 1000000000 ^ l.length * y = x ∧ (y = 0 → Canon l) ∧ Below w.heap.size w wr)
    (fun s _ _ => (intOf s).toNat)
  case atStart => exact ⟨x, [], rfl, hx, ownB_nil _ _, by simp [valB], fun _ => canon_nil, Below.refl _ _⟩
  case round =>
    obtain ⟨y, l, rfl, hy, hown, hval, hcan, hbel⟩ := hrel
    have HV : Hid (valB l + 1000000000 ^ l.length * y = x) := hval
    have HC : Hid (y = 0 → Canon l) := hcan
    clear hval hcan
    by_cases hy0 : y = 0
    · subst hy0
      go_wp2
      go_ret
      refine ⟨u3, rfl, ⟨l, hown, HC.out (by simp), ?_⟩, hbel⟩
      have := HV.out; simpa using this
    · have hll := of_lenB HV.out hy0 hx
      have hsz := hbel.size
      have hpos : 0 < y := by omega
      go_wp2_with (at_builtin; refine wpList_append_own _ rfl _ _ 41 rfl w.heap.size 3 i0 (.int .i64 0) 1 8 Tryd.underlying41 hi hz0 hz1 hz2 rfl (by decide) _ _ _ rfl (hown.1.alloc _) ⟨wr.heap.size, 0, none⟩ 1 1 [.int .i64 ((y : Int) % 1000000000)] rfl rfl ?c1 ?c2 ?c3 ?c4 ?c5 ?_)
      case c1 => exact cell_one_new _ _ _
      case c2 => intro u hu; simp at hu; subst hu; rfl
      case c3 => unfold maxLen; omega
      case c4 => omega
      case c5 => simp; omega
      · intro v' w1 hown' hgrow _
        have hr : OwnB w1 w.heap.size v' (l ++ [y % 1000000000]) := OwnB.ofRow hown' (by simp [i64s]) (wds_snocB hown.2 (by first | exact Nat.mod_lt _ (by omega) | omega))
        have hb : Below w.heap.size w w1 := (hbel.alloc hsz _).grown hgrow (by simp; omega) (fun k hk => (hown.1.lt k hk).1)
        clear hown' hgrow hown hbel
        go_wp2
        go_roundw
        case rel => exact ⟨y / 1000000000, _, by simp, by omega, hr, of_stepB HV.out, of_canonB hy0, hb⟩
        case measure => simp [intOf]; omega

set_option maxHeartbeats 400000 in
theorem trimB_any (w : World) (B : Nat) (v : Value) (l : List Nat) (h : OwnB w B v l) :
    Calls Tryd.prog 44 #[v] w fun e w' => ∃ v', e = .returned v' ∧ OwnB w B v' (trimL l) ∧ w' = w := by
  have hlen := h.len
  unfold maxLen at hlen
  rcases h.shape with ⟨rfl, rfl⟩ | ⟨g, cap, rfl, hB, hg, hlc, hcap, hcell, hfr⟩
  · go_enter Tryd.func44, Tryd.ntmps44
    go_wp2
    go_loop [3] (fun v => v = .int .i64 0) (fun _ => 0)
    case atStart => rfl
    case round =>
      subst hrel
      go_wp2
      go_ret
      exact ⟨_, rfl, by simpa [trimL] using h, rfl⟩
  · unfold maxLen at hcap
    go_enter Tryd.func44, Tryd.ntmps44
    go_wp2
    go_loop [3] (fun v => ∃ k : Nat, k ≤ l.length ∧ v = .int .i64 k ∧ trimL (l.take k) = trimL l) (fun v => (intOf v).toNat)
    case atStart => exact ⟨l.length, Nat.le_refl _, rfl, by rw [List.take_length]⟩
    case round =>
      obtain ⟨k, hk, rfl, ht⟩ := hrel
      have HT : Hid (trimL (l.take k) = trimL l) := ht
      clear ht
      cases k with
      | zero =>
        clear hcell hfr
        go_wp2
        go_ret
        exact ⟨_, rfl, by have := h.take rfl (k := 0) (by omega); rw [← HT.out]; simpa [trimL] using this, rfl⟩
      | succ k =>
        obtain ⟨x, hx⟩ : ∃ x, l[k]? = some x := ⟨l[k], by simp⟩
        have hc := hcell k x hx
        have hts := take_snoc_get hx
        have HX : Hid (l.take (k + 1) = l.take k ++ [x]) := hts
        clear hts hcell hx
        by_cases hx0 : x = 0
        · subst hx0
          go_wp2
          go_round
          case rel => exact ⟨k, by omega, by simp, by rw [← HT.out, HX.out, trimL_snoc_zero]⟩
          case measure => simp [intOf]; try omega
        · have hx1 : ((x : Int) == 0) = false := by simpa using hx0
          go_wp2
          go_ret
          exact ⟨_, rfl, by have := h.take rfl (k := k + 1) (by omega); rw [← HT.out, HX.out, trimL_snoc_ne _ hx0, ← HX.out]; exact this, rfl⟩

theorem times_step {lb l : List Nat} {k x cy n y c' : Nat} (hlb : lb.length = k) (hx : l[k]? = some x) (ht : y + 1000000000 * c' = cy + x * n)
    (h : valB lb + 1000000000 ^ k * cy = valB (l.take k) * n) : valB (lb ++ [y]) + 1000000000 ^ (k + 1) * c' = valB (l.take (k + 1)) * n := by
  rw [val_snocB, val_take_succB (.inl hx), hlb]
  have e1 : 1000000000 ^ (k + 1) * c' = 1000000000 ^ k * (1000000000 * c') := by rw [Nat.pow_succ, Nat.mul_assoc]
  have e2 : 1000000000 ^ k * (y + 1000000000 * c') = 1000000000 ^ k * (cy + x * n) := by rw [ht]
  rw [Nat.mul_add, Nat.mul_add] at e2
  rw [e1, Nat.add_mul, Nat.mul_assoc]
  omega

theorem times_bd {cy x n : Nat} (hc : cy ≤ n) (hx : x < 1000000000) (hn : n ≤ 1000000000) : x * n ≤ 999999999 * 1000000000 ∧ (cy + x * n) / 1000000000 ≤ n := by
  have h1 : x * n ≤ 999999999 * 1000000000 := Nat.mul_le_mul (by omega) hn
  refine ⟨h1, ?_⟩
  have h2 : cy + x * n ≤ 1000000000 * n := by
    have : x * n ≤ 999999999 * n := Nat.mul_le_mul_right _ (by omega)
    omega
  exact Nat.div_le_of_le_mul h2

set_option maxRecDepth 5000 in
set_option maxHeartbeats 800000 in
theorem times_any (w : World) (v : Value) (l : List Nat) (n : Nat) (h : OwnB w 0 v l) (hl : l.length ≤ 1000000) (hn : n ≤ 1000000000) :
    Calls Tryd.prog 45 #[v, .int .i64 n] w fun e w' => ∃ v' l', e = .returned v' ∧ OwnB w' w.heap.size v' l' ∧ Canon l' ∧ valB l' = valB l * n ∧ Below w.heap.size w w' := by
  obtain ⟨ao, cap, rfl, hlc, hcap, hcell⟩ := h.shape1
  have HA : Hid (∀ (i x : Nat), l[i]? = some x → x < 1000000000 ∧ ∃ g, ao = some ⟨g, 0, none⟩ ∧ 0 ≤ g ∧ g < w.heap.size ∧ w.cell? ⟨g, i, none⟩ = some (.int .i64 (x : Int))) := hcell
  clear hcell hcap
  obtain ⟨i0, hi, hz0, hz1, hz2⟩ := info_parts Tryd.infoInt
  go_enter Tryd.func45, Tryd.ntmps45
  go_wp2
  go_loopw [5, 6, 7] (fun v c i wr => ∃ (k : Nat) (lb : List Nat) (cy : Nat), k ≤ l.length ∧ i = .int .i64 k ∧ c = .int .i64 cy ∧ cy ≤ n ∧ lb.length = k ∧ OwnB wr w.heap.size v lb ∧
      valB lb + 1000000000 ^ k * cy = valB (l.take k) * n ∧ Below w.heap.size w wr) (fun _ _ i _ => l.length - (intOf i).toNat)
  case atStart => exact ⟨0, [], 0, Nat.zero_le _, rfl, rfl, by omega, rfl, ownB_nil _ _, by simp [valB], Below.refl _ _⟩
  case round =>
    obtain ⟨k, lb, cy, hk, rfl, rfl, hcy, hlb, hown, hval, hbel⟩ := hrel
    have HV : Hid (valB lb + 1000000000 ^ k * cy = valB (l.take k) * n) := hval
    have hsz := hbel.size
    have HLB : Hid (lb.length = k) := hlb
    have hlb2 : lb.length ≤ 1000000 := by omega
    clear hval hlb
    by_cases hlt : k < l.length
    · obtain ⟨x, hx⟩ : ∃ x, l[k]? = some x := ⟨l[k], by simp [hlt]⟩
      obtain ⟨hxl, g, rfl, _, hg, hc⟩ := HA.out k x hx
      have hcr := hbel.cell (p := ⟨g, k, none⟩) hg
      rw [hc] at hcr
      have HX : Hid (l[k]? = some x) := hx
      obtain ⟨hb1, hb2⟩ := times_bd hcy hxl hn
      clear hx hc
      go_wp2_with (at_builtin; refine wpList_append_own _ rfl _ _ 41 rfl w.heap.size 3 i0 (.int .i64 0) 1 8 Tryd.underlying41 hi hz0 hz1 hz2 rfl (by decide) _ _ _ rfl (hown.1.alloc _) ⟨wr.heap.size, 0, none⟩ 1 1 [.int .i64 (((cy : Int) + (x : Int) * (n : Int)) % 1000000000)] rfl rfl ?c1 ?c2 ?c3 ?c4 ?c5 ?_)
      case c1 => exact cell_one_new _ _ _
      case c2 => intro u hu; simp at hu; subst hu; rfl
      case c3 => unfold maxLen; omega
      case c4 => omega
      case c5 => simp; omega
      · intro v' w1 hown' hgrow _
        have hr : OwnB w1 w.heap.size v' (lb ++ [(cy + x * n) % 1000000000]) := OwnB.ofRow hown' (by simp [i64s]) (wds_snocB hown.2 (by first | exact Nat.mod_lt _ (by omega) | omega))
        have hb : Below w.heap.size w w1 := (hbel.alloc hsz _).grown hgrow (by simp; omega) (fun k hk => (hown.1.lt k hk).1)
        clear hown' hgrow hown hbel
        go_wp2
        go_roundw
        case rel =>
          have e2 : ((cy : Int) + (x : Int) * (n : Int)) / 1000000000 = (((cy + x * n) / 1000000000 : Nat) : Int) := by simp
          rw [e2]
          exact ⟨k + 1, lb ++ [(cy + x * n) % 1000000000], _, by omega, by go_num, rfl, hb2, by simp [HLB.out], hr, times_step HLB.out HX.out (by omega) HV.out, hb⟩
        case measure => simp [intOf]; omega
    · have hv0 : valB lb + 1000000000 ^ lb.length * cy = valB l * n := by
        have e := HV.out
        rw [List.take_of_length_le (by omega)] at e
        rw [HLB.out]; exact e
      have HV0 : Hid (valB lb + 1000000000 ^ lb.length * cy = valB l * n) := hv0
      clear hv0 HV HA
      go_wp2
      go_loopw [5, 6] (fun v c wr => ∃ (lb : List Nat) (cy : Nat), c = .int .i64 cy ∧ cy ≤ n ∧ lb.length + cy ≤ 1000000 + n ∧ OwnB wr w.heap.size v lb ∧ valB lb + 1000000000 ^ lb.length * cy = valB l * n ∧ Below w.heap.size w wr) (fun _ c _ => (intOf c).toNat)
      case atStart => exact ⟨lb, cy, rfl, hcy, by omega, hown, HV0.out, hbel⟩
      case round =>
        clear HV0 hown hbel hsz hlb2 HLB
        obtain ⟨lb, cy, rfl, hcy, hlb2, hown, hval, hbel⟩ := hrel
        have HV : Hid (valB lb + 1000000000 ^ lb.length * cy = valB l * n) := hval
        have hsz := hbel.size
        clear hval
        by_cases hc0 : cy = 0
        · subst hc0
          go_wp2_with fail
          refine (trimB_any _ _ _ _ hown).mono ?_
          rintro e w' ⟨v', rfl, hown3, rfl⟩
          go_wp2
          go_ret
          refine ⟨v', _, rfl, hown3, trimL_canon _, ?_, hbel⟩
          have := HV.out
          rw [trimL_valB]; simpa using this
        · have hpos : 0 < cy := by omega
          go_wp2_with (at_builtin; refine wpList_append_own _ rfl _ _ 41 rfl w.heap.size 3 i0 (.int .i64 0) 1 8 Tryd.underlying41 hi hz0 hz1 hz2 rfl (by decide) _ _ _ rfl (hown.1.alloc _) ⟨wr.heap.size, 0, none⟩ 1 1 [.int .i64 ((cy : Int) % 1000000000)] rfl rfl ?d1 ?d2 ?d3 ?d4 ?d5 ?_)
          case d1 => exact cell_one_new _ _ _
          case d2 => intro u hu; simp at hu; subst hu; rfl
          case d3 => unfold maxLen; omega
          case d4 => omega
          case d5 => simp; omega
          · intro v' w1 hown' hgrow _
            have hr : OwnB w1 w.heap.size v' (lb ++ [cy % 1000000000]) := OwnB.ofRow hown' (by simp [i64s]) (wds_snocB hown.2 (by first | exact Nat.mod_lt _ (by omega) | omega))
            have hb : Below w.heap.size w w1 := (hbel.alloc hsz _).grown hgrow (by simp; omega) (fun k hk => (hown.1.lt k hk).1)
            clear hown' hgrow hown hbel
            go_wp2
            go_roundw
            case rel => exact ⟨lb ++ [cy % 1000000000], cy / 1000000000, by simp, by omega, by simp; omega, hr, of_stepB HV.out, hb⟩
            case measure => simp [intOf]; omega

end Go.Proofs.YthdcceackfdbbaaDoor
