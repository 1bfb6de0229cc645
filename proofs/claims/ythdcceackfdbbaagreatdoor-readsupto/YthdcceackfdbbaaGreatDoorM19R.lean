import Derived.Test.YthdcceackfdbbaaGreatDoorM18R
import Derived.Test.YthdcceackfdbbaaGreatDoorM03R
import Derived.Deep.QuietTactic
import Derived.BigQuiet
namespace Go.Proofs.YthdcceackfdbbaaGreatDoor
open Go.RowKit
theorem of_stepB {l : List Nat} {x y : Nat} (h : valB l + 1000000000 ^ l.length * y = x) : valB (l ++ [y % 1000000000]) + 1000000000 ^ (l ++ [y % 1000000000]).length * (y / 1000000000) = x := by
  rw [val_snocB]
  simp only [List.length_append, List.length_cons, List.length_nil, Nat.zero_add, Nat.pow_succ]
  rw [← h, Nat.mul_assoc, Nat.add_assoc, ← Nat.mul_add, Nat.mod_add_div]
theorem of_canonB {l : List Nat} {y : Nat} (hy : y ≠ 0) : y / 1000000000 = 0 → Canon (l ++ [y % 1000000000]) := by
  intro h
  exact canon_snoc (by omega)
theorem of_lenB {l : List Nat} {x y : Nat} (h : valB l + 1000000000 ^ l.length * y = x) (hy : y ≠ 0) (hx : x < 9223372036854775808) : l.length < 3 := by
  by_cases h2 : l.length < 3
  · exact h2
  · have h1 : 1000000000 ^ 3 ≤ 1000000000 ^ l.length := Nat.pow_le_pow_right (by omega) (by omega)
    have h3 : 1000000000 ^ 3 * 1 ≤ 1000000000 ^ l.length * y := Nat.mul_le_mul h1 (by omega)
    omega
set_option maxRecDepth 5000 in
set_option maxHeartbeats 400000 in
theorem small_any (w : World) (x : Nat) (hx : x < 9223372036854775808) :
    Calls Tryz.prog 90 #[.int .i64 x] w fun e w' => ∃ v', e = .returned v' ∧ RepB w' w.heap.size v' x ∧ Below w.heap.size w w' := by
  obtain ⟨i0, hi, hz0, hz1, hz2⟩ := info_parts Tryz.infoInt
  go_enter Tryz.func90, Tryz.ntmps90
  go_wp2
  go_loopw [0, 3] (fun s v wr => ∃ (y : Nat) (l : List Nat), s = .int .i64 y ∧ y < 9223372036854775808 ∧ OwnB wr w.heap.size v l ∧ valB l + 1000000000 ^ l.length * y = x ∧ (y = 0 → Canon l) ∧ Below w.heap.size w wr)
    (fun s _ _ => (intOf s).toNat)
  case atStart => exact ⟨x, [], rfl, hx, ownB_nil _ _, by simp [valB], fun _ => canon_nil, Below.refl _ _⟩
  case round =>
    obtain ⟨y, l, rfl, hy, hown, hval, hcan, hbel⟩ := hrel
    have HV : Hid (valB l + 1000000000 ^ l.length * y = x) := hval
    have HC : Hid (y = 0 → Canon l) := hcan
    clear hval hcan
    by_cases hy0 : y = 0
    · subst hy0
      go_wp2
      go_ret
      refine ⟨u3, rfl, ⟨l, hown, HC.out (by simp), ?_⟩, hbel⟩
      have := HV.out; simpa using this
    · have hll := of_lenB HV.out hy0 hx
      have hsz := hbel.size
      have hpos : 0 < y := by omega
      go_wp2_with (at_builtin; refine wpList_append_own _ rfl _ _ 138 rfl w.heap.size 3 i0 (.int .i64 0) 1 8 Tryz.underlying138 hi hz0 hz1 hz2 rfl (by decide) _ _ _ rfl (hown.1.alloc _) ⟨wr.heap.size, 0, none⟩ 1 1 [.int .i64 ((y : Int) % 1000000000)] rfl rfl ?c1 ?c2 ?c3 ?c4 ?c5 ?_)
      case c1 => exact cell_one_new _ _ _
      case c2 => intro u hu; simp at hu; subst hu; rfl
      case c3 => unfold maxLen; omega
      case c4 => omega
      case c5 => simp; omega
      · intro v' w1 hown' hgrow _
        have hr : OwnB w1 w.heap.size v' (l ++ [y % 1000000000]) := OwnB.ofRow hown' (by simp [i64s]) (wds_snocB hown.2 (by first | exact Nat.mod_lt _ (by omega) | omega))
        have hb : Below w.heap.size w w1 := (hbel.alloc hsz _).grown hgrow (by simp; omega) (fun k hk => (hown.1.lt k hk).1)
        clear hown' hgrow hown hbel
        go_wp2
        go_roundw
        case rel => exact ⟨y / 1000000000, _, by simp, by omega, hr, of_stepB HV.out, of_canonB hy0, hb⟩
        case measure => simp [intOf]; omega
set_option maxHeartbeats 400000 in
theorem trimB_any (w : World) (B : Nat) (v : Value) (l : List Nat) (h : OwnB w B v l) :
    Calls Tryz.prog 123 #[v] w fun e w' => ∃ v', e = .returned v' ∧ OwnB w B v' (trimL l) ∧ w' = w := by
  have hlen := h.len
  unfold maxLen at hlen
  rcases h.shape with ⟨rfl, rfl⟩ | ⟨g, cap, rfl, hB, hg, hlc, hcap, hcell, hfr⟩
  · go_enter Tryz.func123, Tryz.ntmps123
    go_wp2
    go_loop [3] (fun v => v = .int .i64 0) (fun _ => 0)
    case atStart => rfl
    case round =>
      subst hrel
      go_wp2
      go_ret
      exact ⟨_, rfl, by simpa [trimL] using h, rfl⟩
  · unfold maxLen at hcap
    go_enter Tryz.func123, Tryz.ntmps123
    go_wp2
    go_loop [3] (fun v => ∃ k : Nat, k ≤ l.length ∧ v = .int .i64 k ∧ trimL (l.take k) = trimL l) (fun v => (intOf v).toNat)
    case atStart => exact ⟨l.length, Nat.le_refl _, rfl, by rw [List.take_length]⟩
    case round =>
      obtain ⟨k, hk, rfl, ht⟩ := hrel
      have HT : Hid (trimL (l.take k) = trimL l) := ht
      clear ht
      cases k with
      | zero =>
        clear hcell hfr
        go_wp2
        go_ret
        exact ⟨_, rfl, by have := h.take rfl (k := 0) (by omega); rw [← HT.out]; simpa [trimL] using this, rfl⟩
      | succ k =>
        obtain ⟨x, hx⟩ : ∃ x, l[k]? = some x := ⟨l[k], by simp⟩
        have hc := hcell k x hx
        have hts := take_snoc_get hx
        have HX : Hid (l.take (k + 1) = l.take k ++ [x]) := hts
        clear hts hcell hx
        by_cases hx0 : x = 0
        · subst hx0
          go_wp2
          go_round
          case rel => exact ⟨k, by omega, by simp, by rw [← HT.out, HX.out, trimL_snoc_zero]⟩
          case measure => simp [intOf]; try omega
        · have hx1 : ((x : Int) == 0) = false := by simpa using hx0
          go_wp2
          go_ret
          exact ⟨_, rfl, by have := h.take rfl (k := k + 1) (by omega); rw [← HT.out, HX.out, trimL_snoc_ne _ hx0, ← HX.out]; exact this, rfl⟩
theorem times_step {lb l : List Nat} {k x cy n y c' : Nat} (hlb : lb.length = k) (hx : l[k]? = some x) (ht : y + 1000000000 * c' = cy + x * n)
    (h : valB lb + 1000000000 ^ k * cy = valB (l.take k) * n) : valB (lb ++ [y]) + 1000000000 ^ (k + 1) * c' = valB (l.take (k + 1)) * n := by
  rw [val_snocB, val_take_succB (.inl hx), hlb]
  have e1 : 1000000000 ^ (k + 1) * c' = 1000000000 ^ k * (1000000000 * c') := by rw [Nat.pow_succ, Nat.mul_assoc]
  have e2 : 1000000000 ^ k * (y + 1000000000 * c') = 1000000000 ^ k * (cy + x * n) := by rw [ht]
  rw [Nat.mul_add, Nat.mul_add] at e2
  rw [e1, Nat.add_mul, Nat.mul_assoc]
  omega
theorem times_bd {cy x n : Nat} (hc : cy ≤ n) (hx : x < 1000000000) (hn : n ≤ 1000000000) : x * n ≤ 999999999 * 1000000000 ∧ (cy + x * n) / 1000000000 ≤ n := by
  have h1 : x * n ≤ 999999999 * 1000000000 := Nat.mul_le_mul (by omega) hn
  refine ⟨h1, ?_⟩
  have h2 : cy + x * n ≤ 1000000000 * n := by
    have : x * n ≤ 999999999 * n := Nat.mul_le_mul_right _ (by omega)
    omega
  exact Nat.div_le_of_le_mul h2
set_option maxRecDepth 5000 in
set_option maxHeartbeats 800000 in
theorem times_any (w : World) (v : Value) (l : List Nat) (n : Nat) (h : OwnB w 0 v l) (hl : l.length ≤ 1000000) (hn : n ≤ 1000000000) :
    Calls Tryz.prog 124 #[v, .int .i64 n] w fun e w' => ∃ v' l', e = .returned v' ∧ OwnB w' w.heap.size v' l' ∧ Canon l' ∧ valB l' = valB l * n ∧ Below w.heap.size w w' := by
  obtain ⟨ao, cap, rfl, hlc, hcap, hcell⟩ := h.shape1
  have HA : Hid (∀ (i x : Nat), l[i]? = some x → x < 1000000000 ∧ ∃ g, ao = some ⟨g, 0, none⟩ ∧ 0 ≤ g ∧ g < w.heap.size ∧ w.cell? ⟨g, i, none⟩ = some (.int .i64 (x : Int))) := hcell
  clear hcell hcap
  obtain ⟨i0, hi, hz0, hz1, hz2⟩ := info_parts Tryz.infoInt
  go_enter Tryz.func124, Tryz.ntmps124
  go_wp2
  go_loopw [5, 6, 7] (fun v c i wr => ∃ (k : Nat) (lb : List Nat) (cy : Nat), k ≤ l.length ∧ i = .int .i64 k ∧ c = .int .i64 cy ∧ cy ≤ n ∧ lb.length = k ∧ OwnB wr w.heap.size v lb ∧
      valB lb + 1000000000 ^ k * cy = valB (l.take k) * n ∧ Below w.heap.size w wr) (fun _ _ i _ => l.length - (intOf i).toNat)
  case atStart => exact ⟨0, [], 0, Nat.zero_le _, rfl, rfl, by omega, rfl, ownB_nil _ _, by simp [valB], Below.refl _ _⟩
  case round =>
    obtain ⟨k, lb, cy, hk, rfl, rfl, hcy, hlb, hown, hval, hbel⟩ := hrel
    have HV : Hid (valB lb + 1000000000 ^ k * cy = valB (l.take k) * n) := hval
    have hsz := hbel.size
    have HLB : Hid (lb.length = k) := hlb
    have hlb2 : lb.length ≤ 1000000 := by omega
    clear hval hlb
    by_cases hlt : k < l.length
    · obtain ⟨x, hx⟩ : ∃ x, l[k]? = some x := ⟨l[k], by simp [hlt]⟩
      obtain ⟨hxl, g, rfl, _, hg, hc⟩ := HA.out k x hx
      have hcr := hbel.cell (p := ⟨g, k, none⟩) hg
      rw [hc] at hcr
      have HX : Hid (l[k]? = some x) := hx
      obtain ⟨hb1, hb2⟩ := times_bd hcy hxl hn
      clear hx hc
      go_wp2_with (at_builtin; refine wpList_append_own _ rfl _ _ 138 rfl w.heap.size 3 i0 (.int .i64 0) 1 8 Tryz.underlying138 hi hz0 hz1 hz2 rfl (by decide) _ _ _ rfl (hown.1.alloc _) ⟨wr.heap.size, 0, none⟩ 1 1 [.int .i64 (((cy : Int) + (x : Int) * (n : Int)) % 1000000000)] rfl rfl ?c1 ?c2 ?c3 ?c4 ?c5 ?_)
      case c1 => exact cell_one_new _ _ _
      case c2 => intro u hu; simp at hu; subst hu; rfl
      case c3 => unfold maxLen; omega
      case c4 => omega
      case c5 => simp; omega
      · intro v' w1 hown' hgrow _
        have hr : OwnB w1 w.heap.size v' (lb ++ [(cy + x * n) % 1000000000]) := OwnB.ofRow hown' (by simp [i64s]) (wds_snocB hown.2 (by first | exact Nat.mod_lt _ (by omega) | omega))
        have hb : Below w.heap.size w w1 := (hbel.alloc hsz _).grown hgrow (by simp; omega) (fun k hk => (hown.1.lt k hk).1)
        clear hown' hgrow hown hbel
        go_wp2
        go_roundw
        case rel =>
          have e2 : ((cy : Int) + (x : Int) * (n : Int)) / 1000000000 = (((cy + x * n) / 1000000000 : Nat) : Int) := by simp
          rw [e2]
          exact ⟨k + 1, lb ++ [(cy + x * n) % 1000000000], _, by omega, by go_num, rfl, hb2, by simp [HLB.out], hr, times_step HLB.out HX.out (by omega) HV.out, hb⟩
        case measure => simp [intOf]; omega
    · have hv0 : valB lb + 1000000000 ^ lb.length * cy = valB l * n := by
        have e := HV.out
        rw [List.take_of_length_le (by omega)] at e
        rw [HLB.out]; exact e
      have HV0 : Hid (valB lb + 1000000000 ^ lb.length * cy = valB l * n) := hv0
      clear hv0 HV HA
      go_wp2
      go_loopw [5, 6] (fun v c wr => ∃ (lb : List Nat) (cy : Nat), c = .int .i64 cy ∧ cy ≤ n ∧ lb.length + cy ≤ 1000000 + n ∧ OwnB wr w.heap.size v lb ∧ valB lb + 1000000000 ^ lb.length * cy = valB l * n ∧ Below w.heap.size w wr) (fun _ c _ => (intOf c).toNat)
      case atStart => exact ⟨lb, cy, rfl, hcy, by omega, hown, HV0.out, hbel⟩
      case round =>
        clear HV0 hown hbel hsz hlb2 HLB
        obtain ⟨lb, cy, rfl, hcy, hlb2, hown, hval, hbel⟩ := hrel
        have HV : Hid (valB lb + 1000000000 ^ lb.length * cy = valB l * n) := hval
        have hsz := hbel.size
        clear hval
        by_cases hc0 : cy = 0
        · subst hc0
          go_wp2_with fail
          refine (trimB_any _ _ _ _ hown).mono ?_
          rintro e w' ⟨v', rfl, hown3, rfl⟩
          go_wp2
          go_ret
          refine ⟨v', _, rfl, hown3, trimL_canon _, ?_, hbel⟩
          have := HV.out
          rw [trimL_valB]; simpa using this
        · have hpos : 0 < cy := by omega
          go_wp2_with (at_builtin; refine wpList_append_own _ rfl _ _ 138 rfl w.heap.size 3 i0 (.int .i64 0) 1 8 Tryz.underlying138 hi hz0 hz1 hz2 rfl (by decide) _ _ _ rfl (hown.1.alloc _) ⟨wr.heap.size, 0, none⟩ 1 1 [.int .i64 ((cy : Int) % 1000000000)] rfl rfl ?d1 ?d2 ?d3 ?d4 ?d5 ?_)
          case d1 => exact cell_one_new _ _ _
          case d2 => intro u hu; simp at hu; subst hu; rfl
          case d3 => unfold maxLen; omega
          case d4 => omega
          case d5 => simp; omega
          · intro v' w1 hown' hgrow _
            have hr : OwnB w1 w.heap.size v' (lb ++ [cy % 1000000000]) := OwnB.ofRow hown' (by simp [i64s]) (wds_snocB hown.2 (by first | exact Nat.mod_lt _ (by omega) | omega))
            have hb : Below w.heap.size w w1 := (hbel.alloc hsz _).grown hgrow (by simp; omega) (fun k hk => (hown.1.lt k hk).1)
            clear hown' hgrow hown hbel
            go_wp2
            go_roundw
            case rel => exact ⟨lb ++ [cy % 1000000000], cy / 1000000000, by simp, by omega, by simp; omega, hr, of_stepB HV.out, hb⟩
            case measure => simp [intOf]; omega
end Go.Proofs.YthdcceackfdbbaaGreatDoor
namespace Go.Proofs.YthdcceackfdbbaaGreatDoor
open Go.RowKit
theorem plus_step {la lb s : List Nat} {k x y c r c' : Nat} (hs : s.length = k) (hx : la[k]? = some x ∨ (la.length ≤ k ∧ x = 0)) (hy : lb[k]? = some y ∨ (lb.length ≤ k ∧ y = 0)) (ht : r + 1000000000 * c' = c + x + y)
    (h : valB s + 1000000000 ^ k * c = valB (la.take k) + valB (lb.take k)) : valB (s ++ [r]) + 1000000000 ^ (k + 1) * c' = valB (la.take (k + 1)) + valB (lb.take (k + 1)) := by
  rw [val_snocB, val_take_succB hx, val_take_succB hy, hs]
  have e1 : 1000000000 ^ (k + 1) * c' = 1000000000 ^ k * (1000000000 * c') := by rw [Nat.pow_succ, Nat.mul_assoc]
  have e2 : 1000000000 ^ k * (r + 1000000000 * c') = 1000000000 ^ k * (c + x + y) := by rw [ht]
  rw [Nat.mul_add, Nat.mul_add, Nat.mul_add] at e2
  omega
set_option maxRecDepth 5000 in
set_option maxHeartbeats 1600000 in
theorem plus_any (w : World) (va vb : Value) (la lb : List Nat) (ha : OwnB w 0 va la) (hb' : OwnB w 0 vb lb) (hla : la.length ≤ 1000000) (hlb : lb.length ≤ 1000000) :
    Calls Tryz.prog 135 #[va, vb] w fun e w' => ∃ v' l', e = .returned v' ∧ OwnB w' w.heap.size v' l' ∧ valB l' = valB la + valB lb ∧ l'.length ≤ la.length + lb.length + 1 ∧ Below w.heap.size w w' := by
  obtain ⟨aa, capa, rfl, hlca, hcapa, hcella⟩ := ha.shape1
  obtain ⟨ab, capb, rfl, hlcb, hcapb, hcellb⟩ := hb'.shape1
  have HA : Hid (∀ (i x : Nat), la[i]? = some x → x < 1000000000 ∧ ∃ g, aa = some ⟨g, 0, none⟩ ∧ 0 ≤ g ∧ g < w.heap.size ∧ w.cell? ⟨g, i, none⟩ = some (.int .i64 (x : Int))) := hcella
  have HB : Hid (∀ (i x : Nat), lb[i]? = some x → x < 1000000000 ∧ ∃ g, ab = some ⟨g, 0, none⟩ ∧ 0 ≤ g ∧ g < w.heap.size ∧ w.cell? ⟨g, i, none⟩ = some (.int .i64 (x : Int))) := hcellb
  clear hcella hcellb hcapa hcapb
  obtain ⟨i0, hi, hz0, hz1, hz2⟩ := info_parts Tryz.infoInt
  go_enter Tryz.func135, Tryz.ntmps135
  go_wp2
  go_loopw [5, 6, 7] (fun v c i wr => ∃ (k : Nat) (s : List Nat) (cy : Nat), i = .int .i64 k ∧ c = .int .i64 cy ∧ cy ≤ 1 ∧ s.length = k ∧ k + cy ≤ la.length + lb.length + 1 ∧ OwnB wr w.heap.size v s ∧
      valB s + 1000000000 ^ k * cy = valB (la.take k) + valB (lb.take k) ∧ Below w.heap.size w wr) (fun _ _ i _ => la.length + lb.length + 2 - (intOf i).toNat)
  case atStart => exact ⟨0, [], 0, rfl, rfl, by omega, rfl, by simp, ownB_nil _ _, by simp [valB], Below.refl _ _⟩
  case round =>
    obtain ⟨k, s, cy, rfl, rfl, hcy, hs, hk, hown, hval, hbel⟩ := hrel
    have HV : Hid (valB s + 1000000000 ^ k * cy = valB (la.take k) + valB (lb.take k)) := hval
    have hsz := hbel.size
    have HS : Hid (s.length = k) := hs
    have hs2 : s.length ≤ 2000001 := by omega
    clear hval hs
    by_cases c1 : k < la.length
    · obtain ⟨x, hxx⟩ : ∃ x, la[k]? = some x := ⟨la[k], by simp [*]⟩
      obtain ⟨hlx, g, rfl, _, hgg, hcx⟩ := HA.out k x hxx
      have hcrx := hbel.cell (p := ⟨g, k, none⟩) hgg
      rw [hcx] at hcrx
      have HX : Hid (la[k]? = some x) := hxx
      clear hxx hcx
      by_cases c2 : k < lb.length
      · obtain ⟨y, hxy⟩ : ∃ y, lb[k]? = some y := ⟨lb[k], by simp [*]⟩
        obtain ⟨hly, g2, rfl, _, hgg2, hcy⟩ := HB.out k y hxy
        have hcry := hbel.cell (p := ⟨g2, k, none⟩) hgg2
        rw [hcy] at hcry
        have HY : Hid (lb[k]? = some y) := hxy
        clear hxy hcy
        go_wp2_with (at_builtin; refine wpList_append_own _ rfl _ _ 138 rfl w.heap.size 3 i0 (.int .i64 0) 1 8 Tryz.underlying138 hi hz0 hz1 hz2 rfl (by decide) _ _ _ rfl (hown.1.alloc _) ⟨wr.heap.size, 0, none⟩ 1 1 [.int .i64 (((cy : Int) + (x : Int) + (y : Int)) % 1000000000)] rfl rfl ?c1a ?c2a ?c3a ?c4a ?c5a ?_)
        case c1a => exact cell_one_new _ _ _
        case c2a => intro u hu; simp at hu; subst hu; rfl
        case c3a => unfold maxLen; omega
        case c4a => omega
        case c5a => simp; omega
        · intro v' w1 hown' hgrow _
          have hr : OwnB w1 w.heap.size v' (s ++ [(cy + x + y) % 1000000000]) := OwnB.ofRow hown' (by simp [i64s]) (wds_snocB hown.2 (by first | exact Nat.mod_lt _ (by omega) | omega))
          have hb : Below w.heap.size w w1 := (hbel.alloc hsz _).grown hgrow (by simp; omega) (fun k hk => (hown.1.lt k hk).1)
          clear hown' hgrow hown hbel
          go_wp2
          go_roundw
          case rel =>
            have e2 : ((cy : Int) + (x : Int) + (y : Int)) / 1000000000 = ((((cy + x + y)) / 1000000000 : Nat) : Int) := by simp
            rw [e2]
            exact ⟨k + 1, s ++ [((cy + x + y)) % 1000000000], _, by go_num, rfl, by omega, by simp [HS.out], by omega, hr, plus_step HS.out (.inl HX.out) (.inl HY.out) (by omega) HV.out, hb⟩
          case measure => simp [intOf]; omega
      · go_wp2_with (at_builtin; refine wpList_append_own _ rfl _ _ 138 rfl w.heap.size 3 i0 (.int .i64 0) 1 8 Tryz.underlying138 hi hz0 hz1 hz2 rfl (by decide) _ _ _ rfl (hown.1.alloc _) ⟨wr.heap.size, 0, none⟩ 1 1 [.int .i64 (((cy : Int) + (x : Int)) % 1000000000)] rfl rfl ?c1b ?c2b ?c3b ?c4b ?c5b ?_)
        case c1b => exact cell_one_new _ _ _
        case c2b => intro u hu; simp at hu; subst hu; rfl
        case c3b => unfold maxLen; omega
        case c4b => omega
        case c5b => simp; omega
        · intro v' w1 hown' hgrow _
          have hr : OwnB w1 w.heap.size v' (s ++ [(cy + x) % 1000000000]) := OwnB.ofRow hown' (by simp [i64s]) (wds_snocB hown.2 (by first | exact Nat.mod_lt _ (by omega) | omega))
          have hb : Below w.heap.size w w1 := (hbel.alloc hsz _).grown hgrow (by simp; omega) (fun k hk => (hown.1.lt k hk).1)
          clear hown' hgrow hown hbel
          go_wp2
          go_roundw
          case rel =>
            have e2 : ((cy : Int) + (x : Int)) / 1000000000 = ((((cy + x)) / 1000000000 : Nat) : Int) := by simp
            rw [e2]
            exact ⟨k + 1, s ++ [((cy + x)) % 1000000000], _, by go_num, rfl, by omega, by simp [HS.out], by omega, hr, plus_step HS.out (.inl HX.out) (.inr ⟨by omega, rfl⟩) (by omega) HV.out, hb⟩
          case measure => simp [intOf]; omega
    · by_cases c2 : k < lb.length
      · obtain ⟨y, hxy⟩ : ∃ y, lb[k]? = some y := ⟨lb[k], by simp [*]⟩
        obtain ⟨hly, g2, rfl, _, hgg2, hcy⟩ := HB.out k y hxy
        have hcry := hbel.cell (p := ⟨g2, k, none⟩) hgg2
        rw [hcy] at hcry
        have HY : Hid (lb[k]? = some y) := hxy
        clear hxy hcy
        go_wp2_with (at_builtin; refine wpList_append_own _ rfl _ _ 138 rfl w.heap.size 3 i0 (.int .i64 0) 1 8 Tryz.underlying138 hi hz0 hz1 hz2 rfl (by decide) _ _ _ rfl (hown.1.alloc _) ⟨wr.heap.size, 0, none⟩ 1 1 [.int .i64 (((cy : Int) + (y : Int)) % 1000000000)] rfl rfl ?c1c ?c2c ?c3c ?c4c ?c5c ?_)
        case c1c => exact cell_one_new _ _ _
        case c2c => intro u hu; simp at hu; subst hu; rfl
        case c3c => unfold maxLen; omega
        case c4c => omega
        case c5c => simp; omega
        · intro v' w1 hown' hgrow _
          have hr : OwnB w1 w.heap.size v' (s ++ [(cy + y) % 1000000000]) := OwnB.ofRow hown' (by simp [i64s]) (wds_snocB hown.2 (by first | exact Nat.mod_lt _ (by omega) | omega))
          have hb : Below w.heap.size w w1 := (hbel.alloc hsz _).grown hgrow (by simp; omega) (fun k hk => (hown.1.lt k hk).1)
          clear hown' hgrow hown hbel
          go_wp2
          go_roundw
          case rel =>
            have e2 : ((cy : Int) + (y : Int)) / 1000000000 = ((((cy + y)) / 1000000000 : Nat) : Int) := by simp
            rw [e2]
            exact ⟨k + 1, s ++ [((cy + y)) % 1000000000], _, by go_num, rfl, by omega, by simp [HS.out], by omega, hr, plus_step HS.out (.inr ⟨by omega, rfl⟩) (.inl HY.out) (by omega) HV.out, hb⟩
          case measure => simp [intOf]; omega
      · by_cases c3 : cy = 0
        · subst c3
          go_wp2
          go_ret
          refine ⟨_, s, rfl, hown, ?_, by have := HS.out; omega, hbel⟩
          have hv := HV.out
          rw [List.take_of_length_le (by omega), List.take_of_length_le (by omega)] at hv
          simpa using hv
        · have hpos : 0 < cy := by omega
          go_wp2_with (at_builtin; refine wpList_append_own _ rfl _ _ 138 rfl w.heap.size 3 i0 (.int .i64 0) 1 8 Tryz.underlying138 hi hz0 hz1 hz2 rfl (by decide) _ _ _ rfl (hown.1.alloc _) ⟨wr.heap.size, 0, none⟩ 1 1 [.int .i64 (((cy : Int)) % 1000000000)] rfl rfl ?c1d ?c2d ?c3d ?c4d ?c5d ?_)
          case c1d => exact cell_one_new _ _ _
          case c2d => intro u hu; simp at hu; subst hu; rfl
          case c3d => unfold maxLen; omega
          case c4d => omega
          case c5d => simp; omega
          · intro v' w1 hown' hgrow _
            have hr : OwnB w1 w.heap.size v' (s ++ [(cy) % 1000000000]) := OwnB.ofRow hown' (by simp [i64s]) (wds_snocB hown.2 (by first | exact Nat.mod_lt _ (by omega) | omega))
            have hb : Below w.heap.size w w1 := (hbel.alloc hsz _).grown hgrow (by simp; omega) (fun k hk => (hown.1.lt k hk).1)
            clear hown' hgrow hown hbel
            go_wp2
            go_roundw
            case rel =>
              have e2 : ((cy : Int)) / 1000000000 = ((((cy)) / 1000000000 : Nat) : Int) := by simp
              rw [e2]
              exact ⟨k + 1, s ++ [((cy)) % 1000000000], _, by go_num, rfl, by omega, by simp [HS.out], by omega, hr, plus_step HS.out (.inr ⟨by omega, rfl⟩) (.inr ⟨by omega, rfl⟩) (by omega) HV.out, hb⟩
            case measure => simp [intOf]; omega
end Go.Proofs.YthdcceackfdbbaaGreatDoor
namespace Go.Proofs.YthdcceackfdbbaaGreatDoor
open Go.RowKit
theorem minus_step {la lb s : List Nat} {k x y bw r b' : Nat} (hs : s.length = k) (hx : la[k]? = some x) (hy : lb[k]? = some y ∨ (lb.length ≤ k ∧ y = 0)) (e : x + 1000000000 * b' = r + y + bw)
    (h : valB (la.take k) + 1000000000 ^ k * bw = valB s + valB (lb.take k)) : valB (la.take (k + 1)) + 1000000000 ^ (k + 1) * b' = valB (s ++ [r]) + valB (lb.take (k + 1)) := by
  rw [val_snocB, val_take_succB (.inl hx), val_take_succB hy, hs]
  have e1 : 1000000000 ^ (k + 1) * b' = 1000000000 ^ k * (1000000000 * b') := by rw [Nat.pow_succ, Nat.mul_assoc]
  have e2 : 1000000000 ^ k * (x + 1000000000 * b') = 1000000000 ^ k * (r + y + bw) := by rw [e]
  rw [Nat.mul_add, Nat.mul_add, Nat.mul_add] at e2
  omega
theorem minus_end {la lb s : List Nat} {bw : Nat} (hw : WdsB s) (hs : s.length = la.length) (hlb : lb.length ≤ la.length) (hle : valB lb ≤ valB la) (h : valB (la.take la.length) + 1000000000 ^ la.length * bw = valB s + valB (lb.take la.length)) : valB s = valB la - valB lb := by
  have h1 := val_ltB hw
  rw [List.take_length, List.take_of_length_le hlb] at h
  rw [hs] at h1
  have : bw = 0 := by
    by_cases e : bw = 0
    · exact e
    · have : 1000000000 ^ la.length * 1 ≤ 1000000000 ^ la.length * bw := Nat.mul_le_mul_left _ (by omega)
      omega
  subst this
  omega
set_option maxRecDepth 5000 in
set_option maxHeartbeats 1600000 in
theorem minus_any (w : World) (va vb : Value) (la lb : List Nat) (ha : OwnB w 0 va la) (hb' : OwnB w 0 vb lb) (hla : la.length ≤ 1000000) :
    Calls Tryz.prog 128 #[va, vb] w fun e w' => ∃ v' l', e = .returned v' ∧ OwnB w' w.heap.size v' l' ∧ Canon l' ∧ (lb.length ≤ la.length → valB lb ≤ valB la → valB l' = valB la - valB lb) ∧ l'.length ≤ la.length ∧ Below w.heap.size w w' := by
  obtain ⟨aa, capa, rfl, hlca, hcapa, hcella⟩ := ha.shape1
  obtain ⟨ab, capb, rfl, hlcb, hcapb, hcellb⟩ := hb'.shape1
  have HA : Hid (∀ (i x : Nat), la[i]? = some x → x < 1000000000 ∧ ∃ g, aa = some ⟨g, 0, none⟩ ∧ 0 ≤ g ∧ g < w.heap.size ∧ w.cell? ⟨g, i, none⟩ = some (.int .i64 (x : Int))) := hcella
  have HB : Hid (∀ (i x : Nat), lb[i]? = some x → x < 1000000000 ∧ ∃ g, ab = some ⟨g, 0, none⟩ ∧ 0 ≤ g ∧ g < w.heap.size ∧ w.cell? ⟨g, i, none⟩ = some (.int .i64 (x : Int))) := hcellb
  unfold maxLen at hcapb
  clear hcella hcellb hcapa
  obtain ⟨i0, hi, hz0, hz1, hz2⟩ := info_parts Tryz.infoInt
  go_enter Tryz.func128, Tryz.ntmps128
  go_wp2
  go_loopw [5, 6, 7] (fun v c i wr => ∃ (k : Nat) (s : List Nat) (bw : Nat), k ≤ la.length ∧ i = .int .i64 k ∧ c = .int .i64 bw ∧ bw ≤ 1 ∧ s.length = k ∧ OwnB wr w.heap.size v s ∧
      valB (la.take k) + 1000000000 ^ k * bw = valB s + valB (lb.take k) ∧ Below w.heap.size w wr) (fun _ _ i _ => la.length - (intOf i).toNat)
  case atStart => exact ⟨0, [], 0, Nat.zero_le _, rfl, rfl, by omega, rfl, ownB_nil _ _, by simp [valB], Below.refl _ _⟩
  case round =>
    obtain ⟨k, s, bw, hk, rfl, rfl, hbw, hs, hown, hval, hbel⟩ := hrel
    have HV : Hid (valB (la.take k) + 1000000000 ^ k * bw = valB s + valB (lb.take k)) := hval
    have hsz := hbel.size
    have HS : Hid (s.length = k) := hs
    have hs2 : s.length ≤ 1000000 := by omega
    clear hval hs
    by_cases c1 : k < la.length
    · obtain ⟨x, hxx⟩ : ∃ x, la[k]? = some x := ⟨la[k], by simp [*]⟩
      obtain ⟨hlx, g, rfl, _, hgg, hcx⟩ := HA.out k x hxx
      have hcrx := hbel.cell (p := ⟨g, k, none⟩) hgg
      rw [hcx] at hcrx
      have HX : Hid (la[k]? = some x) := hxx
      clear hxx hcx
      by_cases c2 : k < lb.length
      · obtain ⟨y, hxy⟩ : ∃ y, lb[k]? = some y := ⟨lb[k], by simp [*]⟩
        obtain ⟨hly, g2, rfl, _, hgg2, hcy⟩ := HB.out k y hxy
        have hcry := hbel.cell (p := ⟨g2, k, none⟩) hgg2
        rw [hcy] at hcry
        have HY : Hid (lb[k]? = some y) := hxy
        clear hxy hcy
        by_cases c3 : x < bw + y
        · go_wp2_with (at_builtin; refine wpList_append_own _ rfl _ _ 138 rfl w.heap.size 3 i0 (.int .i64 0) 1 8 Tryz.underlying138 hi hz0 hz1 hz2 rfl (by decide) _ _ _ rfl (hown.1.alloc _) ⟨wr.heap.size, 0, none⟩ 1 1 [.int .i64 ((x : Int) - (bw : Int) - (y : Int) + 1000000000)] rfl rfl ?c1a ?c2a ?c3a ?c4a ?c5a ?_)
          case c1a => exact cell_one_new _ _ _
          case c2a => intro u hu; simp at hu; subst hu; rfl
          case c3a => unfold maxLen; omega
          case c4a => omega
          case c5a => simp; omega
          · intro v' w1 hown' hgrow _
            have e1 : ((x : Int) - (bw : Int) - (y : Int) + 1000000000) = ((x + 1000000000 - bw - y : Nat) : Int) := by omega
            rw [e1] at hown'
            have hr : OwnB w1 w.heap.size v' (s ++ [x + 1000000000 - bw - y]) := OwnB.ofRow hown' (by simp [i64s]) (wds_snocB hown.2 (by omega))
            have hb : Below w.heap.size w w1 := (hbel.alloc hsz _).grown hgrow (by simp; omega) (fun k hk => (hown.1.lt k hk).1)
            clear hown' hgrow hown hbel e1
            go_wp2
            go_roundw
            case rel => exact ⟨k + 1, s ++ [x + 1000000000 - bw - y], 1, by omega, by go_num, rfl, by omega, by simp [HS.out], hr, minus_step HS.out HX.out (.inl HY.out) (by omega) HV.out, hb⟩
            case measure => simp [intOf]; omega
        · go_wp2_with (at_builtin; refine wpList_append_own _ rfl _ _ 138 rfl w.heap.size 3 i0 (.int .i64 0) 1 8 Tryz.underlying138 hi hz0 hz1 hz2 rfl (by decide) _ _ _ rfl (hown.1.alloc _) ⟨wr.heap.size, 0, none⟩ 1 1 [.int .i64 ((x : Int) - (bw : Int) - (y : Int))] rfl rfl ?c1b ?c2b ?c3b ?c4b ?c5b ?_)
          case c1b => exact cell_one_new _ _ _
          case c2b => intro u hu; simp at hu; subst hu; rfl
          case c3b => unfold maxLen; omega
          case c4b => omega
          case c5b => simp; omega
          · intro v' w1 hown' hgrow _
            have e1 : ((x : Int) - (bw : Int) - (y : Int)) = ((x - bw - y : Nat) : Int) := by omega
            rw [e1] at hown'
            have hr : OwnB w1 w.heap.size v' (s ++ [x - bw - y]) := OwnB.ofRow hown' (by simp [i64s]) (wds_snocB hown.2 (by omega))
            have hb : Below w.heap.size w w1 := (hbel.alloc hsz _).grown hgrow (by simp; omega) (fun k hk => (hown.1.lt k hk).1)
            clear hown' hgrow hown hbel e1
            go_wp2
            go_roundw
            case rel => exact ⟨k + 1, s ++ [x - bw - y], 0, by omega, by go_num, rfl, by omega, by simp [HS.out], hr, minus_step HS.out HX.out (.inl HY.out) (by omega) HV.out, hb⟩
            case measure => simp [intOf]; omega
      · by_cases c3 : x < bw
        · go_wp2_with (at_builtin; refine wpList_append_own _ rfl _ _ 138 rfl w.heap.size 3 i0 (.int .i64 0) 1 8 Tryz.underlying138 hi hz0 hz1 hz2 rfl (by decide) _ _ _ rfl (hown.1.alloc _) ⟨wr.heap.size, 0, none⟩ 1 1 [.int .i64 ((x : Int) - (bw : Int) + 1000000000)] rfl rfl ?c1c ?c2c ?c3c ?c4c ?c5c ?_)
          case c1c => exact cell_one_new _ _ _
          case c2c => intro u hu; simp at hu; subst hu; rfl
          case c3c => unfold maxLen; omega
          case c4c => omega
          case c5c => simp; omega
          · intro v' w1 hown' hgrow _
            have e1 : ((x : Int) - (bw : Int) + 1000000000) = ((x + 1000000000 - bw : Nat) : Int) := by omega
            rw [e1] at hown'
            have hr : OwnB w1 w.heap.size v' (s ++ [x + 1000000000 - bw]) := OwnB.ofRow hown' (by simp [i64s]) (wds_snocB hown.2 (by omega))
            have hb : Below w.heap.size w w1 := (hbel.alloc hsz _).grown hgrow (by simp; omega) (fun k hk => (hown.1.lt k hk).1)
            clear hown' hgrow hown hbel e1
            go_wp2
            go_roundw
            case rel => exact ⟨k + 1, s ++ [x + 1000000000 - bw], 1, by omega, by go_num, rfl, by omega, by simp [HS.out], hr, minus_step HS.out HX.out (.inr ⟨by omega, rfl⟩) (by omega) HV.out, hb⟩
            case measure => simp [intOf]; omega
        · go_wp2_with (at_builtin; refine wpList_append_own _ rfl _ _ 138 rfl w.heap.size 3 i0 (.int .i64 0) 1 8 Tryz.underlying138 hi hz0 hz1 hz2 rfl (by decide) _ _ _ rfl (hown.1.alloc _) ⟨wr.heap.size, 0, none⟩ 1 1 [.int .i64 ((x : Int) - (bw : Int))] rfl rfl ?c1d ?c2d ?c3d ?c4d ?c5d ?_)
          case c1d => exact cell_one_new _ _ _
          case c2d => intro u hu; simp at hu; subst hu; rfl
          case c3d => unfold maxLen; omega
          case c4d => omega
          case c5d => simp; omega
          · intro v' w1 hown' hgrow _
            have e1 : ((x : Int) - (bw : Int)) = ((x - bw : Nat) : Int) := by omega
            rw [e1] at hown'
            have hr : OwnB w1 w.heap.size v' (s ++ [x - bw]) := OwnB.ofRow hown' (by simp [i64s]) (wds_snocB hown.2 (by omega))
            have hb : Below w.heap.size w w1 := (hbel.alloc hsz _).grown hgrow (by simp; omega) (fun k hk => (hown.1.lt k hk).1)
            clear hown' hgrow hown hbel e1
            go_wp2
            go_roundw
            case rel => exact ⟨k + 1, s ++ [x - bw], 0, by omega, by go_num, rfl, by omega, by simp [HS.out], hr, minus_step HS.out HX.out (.inr ⟨by omega, rfl⟩) (by omega) HV.out, hb⟩
            case measure => simp [intOf]; omega
    · have HK : Hid (k = la.length) := by unfold Hid; omega
      go_wp2_with fail
      refine (trimB_any _ _ _ _ hown).mono ?_
      rintro e w' ⟨v', rfl, hown3, rfl⟩
      go_wp2
      go_ret
      refine ⟨v', _, rfl, hown3, trimL_canon _, ?_, ?_, hbel⟩
      · intro h1 h2
        have hv := HV.out
        have hs := HS.out
        rw [HK.out] at hv hs
        rw [trimL_valB, minus_end hown.2 hs h1 h2 hv]
      · exact Nat.le_trans (trimL_len _) (by have := HS.out; omega)
set_option maxRecDepth 5000 in
set_option maxHeartbeats 800000 in
theorem compareB_any (w : World) (va vb : Value) (la lb : List Nat) (ha : OwnB w 0 va la) (hb : OwnB w 0 vb lb) (ca : Canon la) (cb : Canon lb) (hla : la.length ≤ 1000000) :
    Calls Tryz.prog 126 #[va, vb] w fun e w' => e = .returned (.int .i64 (cmpI (valB la) (valB lb))) ∧ ∃ n, w' = w.drewN n := by
  obtain ⟨aa, capa, rfl, hlca, hcapa, hcella⟩ := ha.shape1
  obtain ⟨ab, capb, rfl, hlcb, hcapb, hcellb⟩ := hb.shape1
  have HA : Hid (∀ (i x : Nat), la[i]? = some x → x < 1000000000 ∧ ∃ g, aa = some ⟨g, 0, none⟩ ∧ 0 ≤ g ∧ g < w.heap.size ∧ w.cell? ⟨g, i, none⟩ = some (.int .i64 (x : Int))) := hcella
  have HB : Hid (∀ (i x : Nat), lb[i]? = some x → x < 1000000000 ∧ ∃ g, ab = some ⟨g, 0, none⟩ ∧ 0 ≤ g ∧ g < w.heap.size ∧ w.cell? ⟨g, i, none⟩ = some (.int .i64 (x : Int))) := hcellb
  clear hcella hcellb hcapa hcapb
  by_cases hlen : la.length = lb.length
  · have HL : Hid (la.length = lb.length) := hlen
    have hn : ((la.length : Int) != (lb.length : Int)) = false := by simp [hlen]
    clear hlen
    go_enter Tryz.func126, Tryz.ntmps126
    go_wp2
    go_loopw [5] (fun i wr => ∃ k : Nat, k ≤ la.length ∧ i = .int .i64 ((k : Int) - 1) ∧ la.drop k = lb.drop k ∧ ∃ nq, wr = w.drewN nq) (fun i _ => (intOf i + 1).toNat)
    case atStart => exact ⟨la.length, Nat.le_refl _, rfl, by rw [List.drop_length, HL.out, List.drop_length], 0, rfl⟩
    case round =>
      obtain ⟨k, hk, rfl, hd, nq, rfl⟩ := hrel
      have HD : Hid (la.drop k = lb.drop k) := hd
      clear hd
      cases k with
      | zero =>
        go_wp2
        go_ret
        refine ⟨ret_int ?_, nq, rfl⟩
        have hd := HD.out
        simp only [List.drop_zero] at hd
        rw [cmpI_eq (by rw [hd])]
      | succ k =>
        have e : ((k + 1 : Nat) : Int) - 1 = (k : Int) := by omega
        rw [e]
        obtain ⟨x, hx⟩ : ∃ x, la[k]? = some x := ⟨la[k], by simp⟩
        obtain ⟨y, hy⟩ : ∃ y, lb[k]? = some y := ⟨lb[k]'(by have := HL.out; omega), by simp⟩
        obtain ⟨hxl, g, rfl, _, hg, hc⟩ := HA.out k x hx
        obtain ⟨hyl, g2, rfl, _, hg2, hc2⟩ := HB.out k y hy
        have HX : Hid (la[k]? = some x) := hx
        have HY : Hid (lb[k]? = some y) := hy
        have hkb : (k : Int) < (lb.length : Int) := by have := HL.out; omega
        have hka : (k : Int) < (la.length : Int) := by omega
        clear hx hy e
        rcases Nat.lt_trichotomy x y with hxy | hxy | hxy
        · have hb1 : decide ((x : Int) < (y : Int)) = true := by simp; omega
          go_wp2
          go_quiet (fail)
          go_wp2
          go_ret
          refine ⟨ret_int ?_, _, by first | rfl | rw [World.drewN_drewN]⟩
          rw [cmpI_lt (by have := val_lt_ofB ha.2 HX.out HY.out HD.out hxy; omega)]
        · have hb1 : decide ((x : Int) < (y : Int)) = false := by simp; omega
          have hb2 : decide ((y : Int) < (x : Int)) = false := by simp; omega
          have HXY : Hid (x = y) := hxy
          have hi1 : x ≤ y := by omega
          have hi2 : y ≤ x := by omega
          clear hxy
          go_wp2
          go_quiet (fail)
          go_wp2
          go_quiet (fail)
          go_wp2
          go_roundw
          case rel =>
            refine ⟨k, by omega, rfl, ?_, _, by first | rfl | rw [World.drewN_drewN, World.drewN_drewN] | rw [World.drewN_drewN]⟩
            have h1 := List.drop_eq_getElem_cons (l := la) (i := k) (by omega)
            have h2 := List.drop_eq_getElem_cons (l := lb) (i := k) (by omega)
            rw [(List.getElem?_eq_some_iff.1 HX.out).2] at h1
            rw [(List.getElem?_eq_some_iff.1 HY.out).2] at h2
            rw [h1, h2, HD.out, HXY.out]
          case measure => simp [intOf]
        · have hb1 : decide ((x : Int) < (y : Int)) = false := by simp; omega
          have hb2 : decide ((y : Int) < (x : Int)) = true := by simp; omega
          go_wp2
          go_quiet (fail)
          go_wp2
          go_quiet (fail)
          go_wp2
          go_ret
          refine ⟨ret_int ?_, _, by first | rfl | rw [World.drewN_drewN, World.drewN_drewN] | rw [World.drewN_drewN]⟩
          rw [cmpI_gt (by have := val_lt_ofB hb.2 HY.out HX.out HD.out.symm hxy; omega)]
  · have hn : ((la.length : Int) != (lb.length : Int)) = true := by simp; omega
    rcases Nat.lt_or_gt_of_ne hlen with hh | hh
    · go_enter Tryz.func126, Tryz.ntmps126
      go_wp2
      go_ret
      refine ⟨ret_int ?_, 0, rfl⟩
      rw [cmpI_lt (by have := val_lt_lenB ha.2 cb hh; omega)]
    · go_enter Tryz.func126, Tryz.ntmps126
      go_wp2
      go_ret
      refine ⟨ret_int ?_, 0, rfl⟩
      rw [cmpI_gt (by have := val_lt_lenB hb.2 ca hh; omega)]
end Go.Proofs.YthdcceackfdbbaaGreatDoor
