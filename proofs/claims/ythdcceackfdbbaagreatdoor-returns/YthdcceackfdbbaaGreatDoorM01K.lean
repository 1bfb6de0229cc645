import Derived.Test.YthdcceackfdbbaaGreatDoorM00K
import Derived.Test.YthdcceackfdbbaaGreatDoorShelf
import Derived.BigQuiet
import Derived.Lib.ItoaNum
import Derived.Deep.QuietTactic
import Derived.Laws.BitsAllLaws
/- Walks: trim, cmp.Compare, width, Compare. Own text. -/
namespace Go.Proofs.YthdcceackfdbbaaGreatDoor
open Go.RowKit

set_option maxHeartbeats 400000 in
theorem trim_any (w : World) (B : Nat) (v : Value) (l : List Nat) (h : Own w B v l) :
    Calls Tryz.prog 194 #[v] w fun e w' => ∃ v', e = .returned v' ∧ Own w B v' (trimL l) ∧ w' = w := by
  have hlen := h.len
  unfold maxLen at hlen
  rcases h.shape with ⟨rfl, rfl⟩ | ⟨g, cap, rfl, hB, hg, hlc, hcap, hcell, hfr⟩
  · go_enter Tryz.func194, Tryz.ntmps194
    go_wp2
    go_loop [0] (fun v => v = .slice none 0 0) (fun _ => 0)
    case atStart => rfl
    case round =>
      subst hrel
      go_wp2
      go_ret
      exact ⟨_, rfl, by simpa [trimL] using h, rfl⟩
  · unfold maxLen at hcap
    go_enter Tryz.func194, Tryz.ntmps194
    go_wp2
    go_loop [0] (fun v => ∃ k : Nat, k ≤ l.length ∧ v = .slice (some ⟨g, 0, none⟩) k cap ∧ trimL (l.take k) = trimL l) (fun v => lenOfV v)
    case atStart => exact ⟨l.length, Nat.le_refl _, rfl, by rw [List.take_length]⟩
    case round =>
      obtain ⟨k, hk, rfl, ht⟩ := hrel
      have HT : Hid (trimL (l.take k) = trimL l) := ht
      clear ht
      cases k with
      | zero =>
        go_wp2
        go_ret
        exact ⟨_, rfl, by have := h.take rfl (k := 0) (by omega); rw [← HT.out]; simpa [trimL] using this, rfl⟩
      | succ k =>
        obtain ⟨x, hx⟩ : ∃ x, l[k]? = some x := ⟨l[k], by simp⟩
        have hc := hcell k x hx
        have hts := take_snoc_get hx
        have HX : Hid (l.take (k + 1) = l.take k ++ [x]) := hts
        clear hts hcell hx
        by_cases hx0 : x = 0
        · subst hx0
          go_wp2
          go_round
          case rel => exact ⟨k, by omega, by simp, by rw [← HT.out, HX.out, trimL_snoc_zero]⟩
          case measure => simp [lenOfV]
        · have hx1 : ((x : Int) == 0) = false := by simpa using hx0
          go_wp2
          go_ret
          exact ⟨_, rfl, by have := h.take rfl (k := k + 1) (by omega); rw [← HT.out, HX.out, trimL_snoc_ne _ hx0, ← HX.out]; exact this, rfl⟩

/-- What cmp.Compare answers. -/
def cmpI (a b : Int) : Int := if a < b then -1 else if b < a then 1 else 0

theorem cmpI_lt {a b : Int} (h : a < b) : cmpI a b = -1 := by simp [cmpI, h]
theorem cmpI_gt {a b : Int} (h : b < a) : cmpI a b = 1 := by simp [cmpI, h, show ¬ a < b by omega]
theorem cmpI_eq {a b : Int} (h : a = b) : cmpI a b = 0 := by simp [cmpI, h]

theorem ret_int {k : IntKind} {a b : Int} (h : a = b) : Ending.returned (.int k a) = .returned (.int k b) := by rw [h]

set_option maxHeartbeats 400000 in
theorem cmpint_any (a b : Int) (w : World) :
    Calls Tryz.prog 223 #[.int .i64 a, .int .i64 b] w fun e w' => e = .returned (.int .i64 (cmpI a b)) ∧ w' = w := by
  rcases Int.lt_trichotomy a b with h | h | h
  · have H := cmpI_lt h
    have HH : Hid (cmpI a b = -1) := H
    clear H
    go_enter Tryz.func223, Tryz.ntmps223
    go_wp2
    go_ret
    exact ⟨ret_int HH.out.symm, rfl⟩
  · subst h
    go_enter Tryz.func223, Tryz.ntmps223
    go_wp2
    go_ret
    exact ⟨ret_int (cmpI_eq rfl).symm, rfl⟩
  · have HH : Hid (cmpI a b = 1) := cmpI_gt h
    go_enter Tryz.func223, Tryz.ntmps223
    go_wp2
    go_ret
    exact ⟨ret_int HH.out.symm, rfl⟩

set_option maxHeartbeats 400000 in
theorem cmpu32_any (a b : Int) (w : World) :
    Calls Tryz.prog 224 #[.int .u32 a, .int .u32 b] w fun e w' => e = .returned (.int .i64 (cmpI a b)) ∧ w' = w := by
  rcases Int.lt_trichotomy a b with h | h | h
  · have H := cmpI_lt h
    have HH : Hid (cmpI a b = -1) := H
    clear H
    go_enter Tryz.func224, Tryz.ntmps224
    go_wp2
    go_ret
    exact ⟨ret_int HH.out.symm, rfl⟩
  · subst h
    go_enter Tryz.func224, Tryz.ntmps224
    go_wp2
    go_ret
    exact ⟨ret_int (cmpI_eq rfl).symm, rfl⟩
  · have HH : Hid (cmpI a b = 1) := cmpI_gt h
    go_enter Tryz.func224, Tryz.ntmps224
    go_wp2
    go_ret
    exact ⟨ret_int HH.out.symm, rfl⟩

set_option maxHeartbeats 400000 in
theorem width_any (w : World) : Calls Tryz.prog 193 #[] w fun e w' => e = .returned (.int .i64 32) ∧ w' = w := by
  go_enter Tryz.func193, Tryz.ntmps193
  go_wp2_with fail
  refine (Tryz.bits_Len64 _ _ (by decide) (by decide)).mono ?_
  rintro e w' ⟨rfl, rfl⟩
  go_wp2
  go_ret
  exact ⟨rfl, rfl⟩

end Go.Proofs.YthdcceackfdbbaaGreatDoor
/- Walks: MulAdd. Own text. -/
namespace Go.Proofs.YthdcceackfdbbaaGreatDoor
open Go.RowKit

theorem Tryz.infoU32 : (Tryz.prog.info? 124).map (fun i => (i.zero, i.size, i.bytes)) = some (some (.int .u32 0), 1, 4) := by kernel_rfl

set_option maxRecDepth 20000 in
set_option maxHeartbeats 400000 in
theorem mulAdd_any (w : World) (v : Value) (l : List Nat) (f m : Nat) (h : Own w 0 v l) (hl : l.length ≤ 4096) (hf : f < 4294967296) (hm : m < 4294967296) :
    Calls Tryz.prog 157 #[v, .int .u32 f, .int .u32 m] w fun e w' => ∃ v' l', e = .returned v' ∧ Own w' w.heap.size v' l' ∧ Canon l' ∧ val l' = val l * f + m ∧ Below w.heap.size w w' := by
  obtain ⟨ao, cap, rfl, hlc, hcap, hcell⟩ := h.shape1
  unfold maxLen at hcap
  obtain ⟨i0, hi, hz0, hz1, hz2⟩ := info_parts Tryz.infoU32
  go_enter Tryz.func157, Tryz.ntmps157
  go_wp2_with (at_make; refine wpList_make_full _ rfl _ _ 225 rfl w.heap.size 124 i0 (.int .u32 0) 1 Tryz.underlying225 hi hz0 hz1 _ _ _ _ (l.length + 1) rfl rfl ?c1 ?c2 ?c3 ?c4 ?c5 ?c6)
  case c1 => omega
  case c2 => omega
  case c3 => rw [hz2]; omega
  case c4 => unfold maxLen; omega
  case c5 => exact Nat.le_refl _
  intro w1 hown hgrow
  have hown1 := own_made hown
  have hbel : Below w.heap.size w w1 := (Below.refl _ _).grown hgrow (Nat.le_refl _) (by intro k hk; cases hk)
  clear hown hgrow
  go_wp2
  go_loopw [8, 19] (fun c i wr => ∃ (k : Nat) (p : List Nat) (cy : Nat), k ≤ l.length ∧ i = .int .i64 k ∧ c = .int .u64 cy ∧ cy < 4294967296 ∧ p.length = l.length + 1 ∧
      Own wr w.heap.size (.slice (some ⟨w.heap.size, 0, none⟩) (l.length + 1) (l.length + 1)) p ∧ val (p.take k) + 4294967296 ^ k * cy = val (l.take k) * f + m ∧ Below w.heap.size w wr)
    (fun _ i _ => l.length - (intOf i).toNat)
  case atStart => exact ⟨0, _, m, Nat.zero_le _, rfl, rfl, hm, by simp, hown1, by simp [val], hbel⟩
  case round =>
    clear hown1 hbel
    obtain ⟨k, p, cy, hk, rfl, rfl, hcy, hp, hown, hval, hbel⟩ := hrel
    have HV := hval
    have HVV : Hid (val (p.take k) + 4294967296 ^ k * cy = val (l.take k) * f + m) := hval
    have HP : Hid (p.length = l.length + 1) := hp
    clear hval HV hp
    by_cases hlt : k < l.length
    · obtain ⟨x, hx⟩ : ∃ x, l[k]? = some x := ⟨l[k], by simp [hlt]⟩
      obtain ⟨hxl, g, rfl, _, hg, hc⟩ := hcell k x hx
      have hcr := hbel.cell (p := ⟨g, k, none⟩) hg
      rw [hc] at hcr
      have HX : Hid (l[k]? = some x) := hx
      have hfr := hown.frozenW k
      obtain ⟨y0, _, _, hold⟩ := hown.at (j := k) (by omega)
      obtain ⟨hb1, hb2⟩ := mulAdd_carry hcy hxl hf
      clear hx hc hcell
      go_wp2_with (go_at_call 193; refine (width_any _).mono ?_; rintro e w' ⟨rfl, rfl⟩)
      go_roundw
      case rel =>
        have e1 : ((cy : Int) + (x : Int) * (f : Int)) % 4294967296 = (((cy + x * f) % 4294967296 : Nat) : Int) := by simp
        have e2 : ((cy : Int) + (x : Int) * (f : Int)) / 4294967296 = (((cy + x * f) / 4294967296 : Nat) : Int) := by simp
        rw [e1, e2]
        exact ⟨k + 1, p.set k ((cy + x * f) % 4294967296), (cy + x * f) / 4294967296, by omega, by go_num, rfl, hb2, by simp [HP.out], hown.stored (by simp [HP.out]) k (Nat.mod_lt _ (by omega)),
          mulAdd_step (by rw [HP.out]; omega) HX.out (by omega) HVV.out, hbel.setCell (Nat.le_refl _) _⟩
      case measure => simp [intOf]; omega
    · have hfr := hown.frozenW l.length
      obtain ⟨y0, hy0, _, hold⟩ := hown.at (j := l.length) (by omega)
      have HK : Hid (k = l.length) := by unfold Hid; omega
      clear hcell hy0
      go_wp2_with fail
      have hown2 := hown.stored (by simp [HP.out]) l.length hcy
      refine (trim_any _ _ _ _ hown2).mono ?_
      rintro e w' ⟨v', rfl, hown3, rfl⟩
      go_wp2
      go_ret
      refine ⟨v', _, rfl, hown3, trimL_canon _, ?_, hbel.setCell (Nat.le_refl _) _⟩
      have hv := HVV.out
      rw [HK.out, List.take_length] at hv
      rw [trimL_val, val_set_last HP.out, hv]

end Go.Proofs.YthdcceackfdbbaaGreatDoor
/- Walks: Of, take, Clone. Own text. -/
namespace Go.Proofs.YthdcceackfdbbaaGreatDoor
open Go.RowKit

theorem Own.ofRow {w : World} {B n : Nat} {v : Value} {l : List Nat} {xs : List Value} (h : w.ownsRow B 124 1 v n xs) (hx : xs = u32s l) (hl : Wds l) : Own w B v l := by
  subst hx
  have : n = l.length := by have := h.1; simp [u32s] at this; omega
  subst this
  exact ⟨h, hl⟩

theorem wds_snoc {l : List Nat} {y : Nat} (h : Wds l) (hy : y < 4294967296) : Wds (l ++ [y]) := by
  intro x hx
  rcases List.mem_append.1 hx with h1 | h1
  · exact h x h1
  · simp at h1; omega

theorem of_step {l : List Nat} {x y : Nat} (h : val l + 4294967296 ^ l.length * y = x) : val (l ++ [y % 4294967296]) + 4294967296 ^ (l ++ [y % 4294967296]).length * (y / 4294967296) = x := by
  rw [val_snoc]
  simp only [List.length_append, List.length_cons, List.length_nil, Nat.zero_add, Nat.pow_succ]
  rw [← h, Nat.mul_assoc, Nat.add_assoc, ← Nat.mul_add, Nat.mod_add_div]

theorem of_canon {l : List Nat} {y : Nat} (hy : y ≠ 0) : y / 4294967296 = 0 → Canon (l ++ [y % 4294967296]) := by
  intro h
  exact canon_snoc (by omega)

theorem of_len {l : List Nat} {x y : Nat} (h : val l + 4294967296 ^ l.length * y = x) (hy : y ≠ 0) (hx : x < 18446744073709551616) : l.length < 2 := by
  by_cases h2 : l.length < 2
  · exact h2
  · have h1 : 4294967296 ^ 2 ≤ 4294967296 ^ l.length := Nat.pow_le_pow_right (by omega) (by omega)
    have h3 : 4294967296 ^ 2 * 1 ≤ 4294967296 ^ l.length * y := Nat.mul_le_mul h1 (by omega)
    omega

set_option maxHeartbeats 400000 in
theorem of_any (w : World) (x : Nat) (hx : x < 18446744073709551616) :
    Calls Tryz.prog 161 #[.int .u64 x] w fun e w' => ∃ v', e = .returned v' ∧ Rep w' w.heap.size v' x ∧ Below w.heap.size w w' := by
  obtain ⟨i0, hi, hz0, hz1, hz2⟩ := info_parts Tryz.infoU32
  go_enter Tryz.func161, Tryz.ntmps161
  go_wp2
  go_loopw [0, 3] (fun s v wr => ∃ (y : Nat) (l : List Nat), s = .int .u64 y ∧ y < 18446744073709551616 ∧ Own wr w.heap.size v l ∧ val l + 4294967296 ^ l.length * y = x ∧ (y = 0 → Canon l) ∧ Below w.heap.size w wr)
    (fun s _ _ => (intOf s).toNat)
  case atStart => exact ⟨x, [], rfl, hx, ⟨World.ownsRow_nil _ _ _ _, by intro y hy; simp at hy⟩, by simp [val], fun _ => canon_nil, Below.refl _ _⟩
  case round =>
    obtain ⟨y, l, rfl, hy, hown, hval, hcan, hbel⟩ := hrel
    have HV : Hid (val l + 4294967296 ^ l.length * y = x) := hval
    have HC : Hid (y = 0 → Canon l) := hcan
    clear hval hcan
    by_cases hy0 : y = 0
    · subst hy0
      go_wp2
      go_ret
      refine ⟨u3, rfl, ⟨l, hown, HC.out (by simp), ?_⟩, hbel⟩
      have := HV.out; simpa using this
    · have hll := of_len HV.out hy0 hx
      have hsz := hbel.size
      have hne : ((y : Int) != 0) = true := by simpa using hy0
      go_wp2_with (first | (at_builtin; refine wpList_append_own _ rfl _ _ 225 rfl w.heap.size 124 i0 (.int .u32 0) 1 4 Tryz.underlying225 hi hz0 hz1 hz2 rfl (by decide) _ _ _ rfl (hown.1.alloc _) ⟨wr.heap.size, 0, none⟩ 1 1 [.int .u32 ((y : Int) % 4294967296)] rfl rfl ?c1 ?c2 ?c3 ?c4 ?c5 ?_) | (go_at_call 193; refine (width_any _).mono ?_; rintro e w' ⟨rfl, rfl⟩))
      case c1 => exact cell_one_new _ _ _
      case c2 => intro u hu; simp at hu; subst hu; rfl
      case c3 => unfold maxLen; omega
      case c4 => omega
      case c5 => simp; omega
      · intro v' w1 hown' hgrow _
        have hr : Own w1 w.heap.size v' (l ++ [y % 4294967296]) := Own.ofRow hown' (by simp [u32s]) (wds_snoc hown.2 (Nat.mod_lt _ (by omega)))
        have hb : Below w.heap.size w w1 := (hbel.alloc hsz _).grown hgrow (by simp; omega) (fun k hk => (hown.1.lt k hk).1)
        clear hown' hgrow hown hbel
        go_wp2_with (go_at_call 193; refine (width_any _).mono ?_; rintro e w' ⟨rfl, rfl⟩)
        go_roundw
        case rel => exact ⟨y / 4294967296, _, by simp, by omega, hr, of_step HV.out, of_canon hy0, hb⟩
        case measure => simp [intOf]; omega

set_option maxHeartbeats 400000 in
theorem clone_any (w : World) (v : Value) (l : List Nat) (h : Own w 0 v l) (hl : l.length ≤ 4096) :
    Calls Tryz.prog 206 #[v] w fun e w' => ∃ v', e = .returned v' ∧ Own w' w.heap.size v' l ∧ Below w.heap.size w w' := by
  obtain ⟨i0, hi, hz0, hz1, hz2⟩ := info_parts Tryz.infoU32
  have q : ∀ (w : World) (a : Option Addr) (n c n' c' : Nat), (binOp .eql 225 (.slice a n c) (.slice none n' c')).run Tryz.prog w = .ok (.bool a.isNone) w := fun w a n c n' c' => Lib.run_eql_slice_nil w _ _ a n c n' c' Tryz.underlying225
  rcases h.shape with ⟨rfl, rfl⟩ | ⟨g, cap, rfl, hB, hg, hlc, hcap, hcell, hfr⟩
  · go_enter Tryz.func206, Tryz.ntmps206
    go_wp2
    go_ret
    exact ⟨_, rfl, ⟨World.ownsRow_nil _ _ _ _, h.2⟩, Below.refl _ _⟩
  · unfold maxLen at hcap
    have HC : Hid (∀ (i x : Nat), l[i]? = some x → w.cell? ⟨g, i, none⟩ = some (.int .u32 (x : Int))) := hcell
    clear hcell hfr
    go_enter Tryz.func206, Tryz.ntmps206
    go_wp2_with (at_builtin; refine wpList_append_own _ rfl _ _ 225 rfl w.heap.size 124 i0 (.int .u32 0) 1 4 Tryz.underlying225 hi hz0 hz1 hz2 rfl (by decide) _ _ _ rfl (World.ownsRow_made w #[] 0 (Nat.le_refl _) (Nat.zero_le _) rfl) ⟨g, 0, none⟩ l.length cap (u32s l) rfl ?qc1 ?qc2 ?qc3 ?qc4 ?qc5 ?qc6 ?_)
    case qc1 => simp [u32s]
    case qc2 =>
      intro j u hj
      rw [Addr.add_lit]
      refine Lib.cell?_alloc_some _ ?_
      simp only [u32s, List.getElem?_map, Option.map_eq_some_iff] at hj
      obtain ⟨x, hx, rfl⟩ := hj
      rw [Nat.zero_add]
      exact HC.out j x hx
    case qc3 => intro u hu; obtain ⟨x, _, rfl⟩ := List.mem_map.1 hu; rfl
    case qc4 => unfold maxLen; omega
    case qc5 => omega
    case qc6 => simp
    intro v' w1 hown hgrow hnil
    go_wp2
    go_ret
    exact ⟨v', rfl, Own.ofRow hown (by simp) h.2, ((Below.refl _ w).alloc (Nat.le_refl _) _).grown hgrow (by simp) (by intro k hk; simp [Value.ownBlock] at hk; omega)⟩

theorem u64_wrap (n : Int) : IntKind.u64.wrap n = n % 18446744073709551616 := rfl

theorem grown_refl (w : World) (r : Option Nat) : w.grownBy w r := ⟨rfl, rfl, rfl, Nat.le_refl _, fun _ _ _ => rfl⟩
theorem grown_setCell {w wr : World} {g : Nat} (h : w.grownBy wr (some g)) (j : Nat) (u : Value) : w.grownBy (wr.setCell ⟨g, j, none⟩ u) (some g) :=
  ⟨h.os, h.tape, h.output, by have := h.size; simpa [World.setCell] using this, fun k hk hne => by
    rw [Below.heap_setCell _ _ _ _ (by intro e; exact hne (by rw [e])), h.block k hk hne]⟩

set_option maxHeartbeats 400000 in
theorem take_any (w : World) (B g n cap : Nat) (vb : Value) (la lb : List Nat) (h : Own w B (.slice (some ⟨g, 0, none⟩) n cap) la) (hb : Own w 0 vb lb) (hne : vb.ownBlock ≠ some g) (hl : la.length ≤ 4096) (hlb : lb.length ≤ la.length) (hle : val lb ≤ val la) :
    Calls Tryz.prog 207 #[.slice (some ⟨g, 0, none⟩) n cap, vb] w fun e w' => e = .returned (.tuple #[]) ∧ (∃ p, Own w' B (.slice (some ⟨g, 0, none⟩) n cap) p ∧ val p = val la - val lb ∧ p.length = la.length) ∧ w.grownBy w' (some g) := by
  have hn := h.lenW
  subst hn
  obtain ⟨ao, capb, rfl, hlc, hcap, hcell⟩ := hb.shape1
  have HC : Hid (∀ (i x : Nat), lb[i]? = some x → x < 4294967296 ∧ ∃ g, ao = some ⟨g, 0, none⟩ ∧ 0 ≤ g ∧ g < w.heap.size ∧ w.cell? ⟨g, i, none⟩ = some (.int .u32 (x : Int))) := hcell
  unfold maxLen at hcap
  clear hcell
  go_enter Tryz.func207, Tryz.ntmps207
  go_wp2
  go_loopw [4, 10] (fun c i wr => ∃ (k : Nat) (p : List Nat) (bw : Nat), k ≤ la.length ∧ i = .int .i64 k ∧ c = .int .u64 bw ∧ bw ≤ 1 ∧ p.length = la.length ∧
      Own wr B (.slice (some ⟨g, 0, none⟩) la.length cap) p ∧ val (la.take k) + 4294967296 ^ k * bw = val (p.take k) + val (lb.take k) ∧ p.drop k = la.drop k ∧ w.grownBy wr (some g))
    (fun _ i _ => la.length - (intOf i).toNat)
  case atStart => exact ⟨0, la, 0, Nat.zero_le _, rfl, rfl, by omega, rfl, h, by simp [val], rfl, grown_refl _ _⟩
  case round =>
    obtain ⟨k, p, bw, hk, rfl, rfl, hbw, hp, hown, hval, hdrop, hgr⟩ := hrel
    have HV : Hid (val (la.take k) + 4294967296 ^ k * bw = val (p.take k) + val (lb.take k)) := hval
    have HP : Hid (p.length = la.length) := hp
    have HD : Hid (p.drop k = la.drop k) := hdrop
    clear hval hp hdrop
    by_cases hlt : k < la.length
    · obtain ⟨x, hx, hxl, hold⟩ := hown.at (j := k) hlt
      have hfr := hown.frozenW k
      have HX : Hid (p[k]? = some x) := hx
      clear hx
      by_cases hlt2 : k < lb.length
      · obtain ⟨y, hy⟩ : ∃ y, lb[k]? = some y := ⟨lb[k], by simp [hlt2]⟩
        obtain ⟨hyl, gb, rfl, _, hgb, hc⟩ := HC.out k y hy
        have hcb := hgr.cell hc (by simpa [Value.ownBlock] using hne)
        have HY : Hid (lb[k]? = some y) := hy
        clear hc hy
        go_wp2
        go_roundw
        case rel =>
          obtain ⟨r, b', e1, e2, hr, hb', e3⟩ := borrow_nat x y bw hxl hyl hbw
          rw [u64_wrap, u64_wrap, e1, e2]
          exact ⟨k + 1, p.set k r, b', by omega, by go_num, rfl, hb', by simp [HP.out], hown.stored (by rw [HP.out]) k hr, take_step (get_of_drop HD.out HX.out) (.inl HY.out) (by rw [HP.out]; omega) e3 HV.out, drop_step HD.out, grown_setCell hgr _ _⟩
        case measure => simp [intOf]; omega
      · go_wp2
        go_roundw
        case rel =>
          obtain ⟨r, b', e1, e2, hr, hb', e3⟩ := borrow_nat0 x bw hxl hbw
          rw [u64_wrap, e1, e2]
          exact ⟨k + 1, p.set k r, b', by omega, by go_num, rfl, hb', by simp [HP.out], hown.stored (by rw [HP.out]) k hr, take_step (get_of_drop HD.out HX.out) (.inr ⟨by omega, rfl⟩) (by rw [HP.out]; omega) e3 HV.out, drop_step HD.out, grown_setCell hgr _ _⟩
        case measure => simp [intOf]; omega
    · have HK : Hid (k = la.length) := by unfold Hid; omega
      go_wp2
      go_end0
      refine ⟨rfl, ⟨p, hown, ?_, HP.out⟩, hgr⟩
      have hv := HV.out
      rw [HK.out] at hv
      exact take_end hown.2 HP.out hlb hle hv

end Go.Proofs.YthdcceackfdbbaaGreatDoor
/- Walks: Compare, BitLen. Own text. -/
namespace Go.Proofs.YthdcceackfdbbaaGreatDoor
open Go.RowKit

theorem quiet_same_add {P : Program} {f : FuncId} {args : Array Value} {w : World} {a n : Nat} {v : Value}
    (h : Calls P f args (w.drewN (a + n)) fun e w' => e = .returned v ∧ w' = w.drewN (a + n)) : Calls P f args (w.drewN (a + n)) fun e w'' => e = .returned v ∧ ∃ m, w'' = w.drewN (a + m) :=
  h.mono fun _ _ ⟨he, hm⟩ => ⟨he, n, hm⟩

theorem quiet_drew_add {P : Program} {f : FuncId} {args : Array Value} {w : World} {a n : Nat} {v : Value}
    (h : Calls P f args (w.drewN (a + n)) fun e w' => e = .returned v ∧ ∃ m, w' = (w.drewN (a + n)).drewN m) : Calls P f args (w.drewN (a + n)) fun e w'' => e = .returned v ∧ ∃ m, w'' = w.drewN (a + m) :=
  h.mono fun _ _ ⟨he, m, hm⟩ => ⟨he, n + m, by rw [hm, World.drewN_drewN, Nat.add_assoc]⟩

set_option maxHeartbeats 800000 in
theorem compare_any (w : World) (va vb : Value) (la lb : List Nat) (ha : Own w 0 va la) (hb : Own w 0 vb lb) (ca : Canon la) (cb : Canon lb) (hla : la.length ≤ 4096) :
    Calls Tryz.prog 197 #[va, vb] w fun e w' => e = .returned (.int .i64 (cmpI (val la) (val lb))) ∧ ∃ n, w' = w.drewN n := by
  obtain ⟨aa, capa, rfl, hlca, hcapa, hcella⟩ := ha.shape1
  obtain ⟨ab, capb, rfl, hlcb, hcapb, hcellb⟩ := hb.shape1
  have HA : Hid (∀ (i x : Nat), la[i]? = some x → x < 4294967296 ∧ ∃ g, aa = some ⟨g, 0, none⟩ ∧ 0 ≤ g ∧ g < w.heap.size ∧ w.cell? ⟨g, i, none⟩ = some (.int .u32 (x : Int))) := hcella
  have HB : Hid (∀ (i x : Nat), lb[i]? = some x → x < 4294967296 ∧ ∃ g, ab = some ⟨g, 0, none⟩ ∧ 0 ≤ g ∧ g < w.heap.size ∧ w.cell? ⟨g, i, none⟩ = some (.int .u32 (x : Int))) := hcellb
  clear hcella hcellb hcapa hcapb
  by_cases hlen : la.length = lb.length
  · have HL : Hid (la.length = lb.length) := hlen
    have hn : ((la.length : Int) != (lb.length : Int)) = false := by simp [hlen]
    clear hlen
    go_enter Tryz.func197, Tryz.ntmps197
    go_wp2
    go_loopw [5] (fun i wr => ∃ k : Nat, k ≤ la.length ∧ i = .int .i64 ((k : Int) - 1) ∧ la.drop k = lb.drop k ∧ ∃ nq, wr = w.drewN nq) (fun i _ => (intOf i + 1).toNat)
    case atStart => exact ⟨la.length, Nat.le_refl _, rfl, by rw [List.drop_length, HL.out, List.drop_length], 0, rfl⟩
    case round =>
      obtain ⟨k, hk, rfl, hd, nq, rfl⟩ := hrel
      have HD : Hid (la.drop k = lb.drop k) := hd
      clear hd
      cases k with
      | zero =>
        go_wp2
        go_ret
        refine ⟨ret_int ?_, nq, rfl⟩
        have hd := HD.out
        simp only [List.drop_zero] at hd
        rw [cmpI_eq (by rw [hd])]
      | succ k =>
        have e : ((k + 1 : Nat) : Int) - 1 = (k : Int) := by omega
        rw [e]
        obtain ⟨x, hx⟩ : ∃ x, la[k]? = some x := ⟨la[k], by simp⟩
        obtain ⟨y, hy⟩ : ∃ y, lb[k]? = some y := ⟨lb[k]'(by have := HL.out; omega), by simp⟩
        obtain ⟨hxl, g, rfl, _, hg, hc⟩ := HA.out k x hx
        obtain ⟨hyl, g2, rfl, _, hg2, hc2⟩ := HB.out k y hy
        have HX : Hid (la[k]? = some x) := hx
        have HY : Hid (lb[k]? = some y) := hy
        have hkb : (k : Int) < (lb.length : Int) := by have := HL.out; omega
        have hka : (k : Int) < (la.length : Int) := by omega
        clear hx hy e
        by_cases hxy : x = y
        · subst hxy
          go_wp2
          go_quiet (fail)
          go_wp2
          go_roundw
          case rel =>
            refine ⟨k, by omega, rfl, ?_, _, rfl⟩
            have h1 := List.drop_eq_getElem_cons (l := la) (i := k) (by omega)
            have h2 := List.drop_eq_getElem_cons (l := lb) (i := k) (by omega)
            rw [(List.getElem?_eq_some_iff.1 HX.out).2] at h1
            rw [(List.getElem?_eq_some_iff.1 HY.out).2] at h2
            rw [h1, h2, HD.out]
          case measure => simp [intOf]
        · have hxy2 : ((x : Int) != (y : Int)) = true := by simp; omega
          go_wp2
          go_quiet (fail)
          go_wp2
          go_quiet ((go_at_call 224; exact quiet_same_add (cmpu32_any _ _ _)))
          go_wp2
          go_ret
          refine ⟨ret_int ?_, _, by rw [World.drewN_drewN, World.drewN_drewN]⟩
          rcases Nat.lt_or_gt_of_ne hxy with hh | hh
          · rw [cmpI_lt (by omega), cmpI_lt (by have := val_lt_of ha.2 HX.out HY.out HD.out hh; omega)]
          · rw [cmpI_gt (by omega), cmpI_gt (by have := val_lt_of hb.2 HY.out HX.out HD.out.symm hh; omega)]
  · have hn : ((la.length : Int) != (lb.length : Int)) = true := by simp; omega
    go_enter Tryz.func197, Tryz.ntmps197
    go_wp2_with (go_at_call 223; refine (cmpint_any _ _ _).mono ?_; rintro e w' ⟨rfl, rfl⟩)
    go_ret
    refine ⟨ret_int ?_, 0, rfl⟩
    rcases Nat.lt_or_gt_of_ne hlen with hh | hh
    · rw [cmpI_lt (by omega), cmpI_lt (by have := val_lt_len ha.2 cb hh; omega)]
    · rw [cmpI_gt (by omega), cmpI_gt (by have := val_lt_len hb.2 ca hh; omega)]

/-- How many bits. -/
def bl (n : Nat) : Nat := if n = 0 then 0 else n.log2 + 1

theorem bl_eq {n b : Nat} (h1 : 2 ^ b ≤ n) (h2 : n < 2 ^ (b + 1)) : bl n = b + 1 := by
  have h0 : n ≠ 0 := by have : 0 < 2 ^ b := Nat.pow_pos (by omega); omega
  unfold bl
  rw [if_neg h0]
  have a1 : b ≤ n.log2 := (Nat.le_log2 h0).2 h1
  have a2 : n.log2 < b + 1 := (Nat.log2_lt h0).2 h2
  omega

theorem bl_lo {n : Nat} (h0 : n ≠ 0) : 2 ^ (bl n - 1) ≤ n := by
  unfold bl; rw [if_neg h0, Nat.add_sub_cancel]; exact (Nat.le_log2 h0).1 (Nat.le_refl _)

theorem bl_hi (n : Nat) : n < 2 ^ bl n := by
  unfold bl
  by_cases h0 : n = 0
  · simp [h0]
  · rw [if_neg h0]; exact (Nat.log2_lt h0).1 (by omega)

theorem bl_pos {n : Nat} (h0 : n ≠ 0) : 1 ≤ bl n := by unfold bl; rw [if_neg h0]; omega

theorem bitLen_bl {x : Nat} (h : x < 18446744073709551616) : Lib.bitLen x = bl x := by
  by_cases h0 : x = 0
  · subst h0; rfl
  · obtain ⟨b1, b2, b3⟩ := Lib.bitLenAux_bounds 64 x (by omega) h0
    have e : Lib.bitLenAux 64 x = (Lib.bitLenAux 64 x - 1) + 1 := by omega
    have := bl_eq b2 (by rw [← e]; exact b3)
    show Lib.bitLenAux 64 x = _
    omega

theorem pow_word (k : Nat) : 4294967296 ^ k = 2 ^ (32 * k) := by rw [Nat.pow_mul]

theorem bl_words {l : List Nat} {x : Nat} (hw : Wds l) (hx : x ≠ 0) : bl (val (l ++ [x])) = 32 * l.length + bl x := by
  have h1 := val_lt hw
  rw [val_snoc]
  rw [pow_word] at h1 ⊢
  have hb1 := bl_lo hx
  have hb2 := bl_hi x
  have hb3 := bl_pos hx
  have e : 32 * l.length + bl x = (32 * l.length + (bl x - 1)) + 1 := by omega
  rw [e]
  refine bl_eq ?_ ?_
  · rw [Nat.pow_add]
    have := Nat.mul_le_mul_left (2 ^ (32 * l.length)) hb1
    omega
  · rw [← e, Nat.pow_add]
    have := Nat.mul_le_mul_left (2 ^ (32 * l.length)) (show x + 1 ≤ 2 ^ bl x from hb2)
    rw [Nat.mul_add] at this
    omega

theorem bl_le {n k : Nat} (h : n < 2 ^ k) : bl n ≤ k := by
  unfold bl
  by_cases h0 : n = 0
  · simp [h0]
  · rw [if_neg h0]; have := (Nat.log2_lt h0).2 h; omega

set_option maxHeartbeats 800000 in
theorem bitlen_any (w : World) (va : Value) (la : List Nat) (ha : Own w 0 va la) (ca : Canon la) (hla : la.length ≤ 4096) :
    Calls Tryz.prog 222 #[va] w fun e w' => e = .returned (.int .i64 (bl (val la))) ∧ ∃ n, w' = w.drewN n := by
  by_cases hne : la = []
  · subst hne
    obtain ⟨aa, capa, rfl, _, _, _⟩ := ha.shape1
    go_enter Tryz.func222, Tryz.ntmps222
    go_wp2
    go_ret
    exact ⟨rfl, 0, rfl⟩
  · obtain ⟨r, x, rfl⟩ := snoc_of_ne hne
    have hx0 : x ≠ 0 := ca x (by simp)
    obtain ⟨aa, capa, rfl, _, _, hcell⟩ := ha.shape1
    obtain ⟨hxl, g, rfl, _, hg, hc⟩ := hcell r.length x (by simp)
    have hb := bl_words (l := r) (fun y hy => ha.2 y (by simp [hy])) hx0
    have HB : Hid (bl (val (r ++ [x])) = 32 * r.length + bl x) := hb
    have hbl := bl_le (n := x) (k := 32) (by omega)
    have hbx := bitLen_bl (x := x) (by omega)
    have HBX : Hid (Lib.bitLen x = bl x) := hbx
    have hbx2 : Lib.bitLen x ≤ 32 := by omega
    simp only [List.length_append, List.length_cons, List.length_nil] at *
    clear hcell hb hbx hne
    go_enter Tryz.func222, Tryz.ntmps222
    go_wp2
    go_quiet (first | (go_at_call 193; exact Calls.quiet_of_same (width_any _)) | (go_at_call 205; exact Calls.quiet_of_same (Tryz.bits_Len64 _ _ (by omega) (by omega))))
    go_wp2
    go_ret
    refine ⟨ret_int ?_, _, rfl⟩
    rw [HB.out]
    have := HBX.out
    omega

end Go.Proofs.YthdcceackfdbbaaGreatDoor
/- Walks: Mul. Own text. -/
namespace Go.Proofs.YthdcceackfdbbaaGreatDoor
open Go.RowKit

set_option maxHeartbeats 800000 in
theorem mul_any (w : World) (va vb : Value) (la lb : List Nat) (ha : Own w 0 va la) (hb : Own w 0 vb lb) (hla : la.length ≤ 4096) (hlb : lb.length ≤ 4096) :
    Calls Tryz.prog 159 #[va, vb] w fun e w' => ∃ v' l', e = .returned v' ∧ Own w' w.heap.size v' l' ∧ Canon l' ∧ val l' = val la * val lb ∧ Below w.heap.size w w' := by
  obtain ⟨aa, capa, rfl, hlca, hcapa, hcella⟩ := ha.shape1
  obtain ⟨ab, capb, rfl, hlcb, hcapb, hcellb⟩ := hb.shape1
  have HA : Hid (∀ (i x : Nat), la[i]? = some x → x < 4294967296 ∧ ∃ g, aa = some ⟨g, 0, none⟩ ∧ 0 ≤ g ∧ g < w.heap.size ∧ w.cell? ⟨g, i, none⟩ = some (.int .u32 (x : Int))) := hcella
  have HB : Hid (∀ (i x : Nat), lb[i]? = some x → x < 4294967296 ∧ ∃ g, ab = some ⟨g, 0, none⟩ ∧ 0 ≤ g ∧ g < w.heap.size ∧ w.cell? ⟨g, i, none⟩ = some (.int .u32 (x : Int))) := hcellb
  clear hcella hcellb hcapa hcapb
  obtain ⟨i0, hi, hz0, hz1, hz2⟩ := info_parts Tryz.infoU32
  go_enter Tryz.func159, Tryz.ntmps159
  go_wp2_with (at_make; refine wpList_make_full _ rfl _ _ 225 rfl w.heap.size 124 i0 (.int .u32 0) 1 Tryz.underlying225 hi hz0 hz1 _ _ _ _ (la.length + lb.length) rfl rfl ?c1 ?c2 ?c3 ?c4 ?c5 ?c6)
  case c1 => omega
  case c2 => omega
  case c3 => rw [hz2]; omega
  case c4 => unfold maxLen; omega
  case c5 => exact Nat.le_refl _
  intro w1 hown hgrow
  have hown1 := own_made hown
  have hbel : Below w.heap.size w w1 := (Below.refl _ _).grown hgrow (Nat.le_refl _) (by intro k hk; cases hk)
  clear hown hgrow
  go_wp2
  go_loopw [19] (fun i wr => ∃ (k : Nat) (p : List Nat), k ≤ la.length ∧ i = .int .i64 k ∧ p.length = la.length + lb.length ∧
      Own wr w.heap.size (.slice (some ⟨w.heap.size, 0, none⟩) (la.length + lb.length) (la.length + lb.length)) p ∧ val (p.take (k + lb.length)) = val (la.take k) * val lb ∧ Below w.heap.size w wr)
    (fun i _ => la.length - (intOf i).toNat)
  case atStart => exact ⟨0, _, Nat.zero_le _, rfl, by simp, hown1, by rw [List.take_replicate, val_zeros]; simp [val], hbel⟩
  case round =>
    clear hown1 hbel
    obtain ⟨k, p0, hk, rfl, hp0, hown, hval, hbel⟩ := hrel
    have HV0 : Hid (val (p0.take (k + lb.length)) = val (la.take k) * val lb) := hval
    have HP0 : Hid (p0.length = la.length + lb.length) := hp0
    clear hval hp0
    by_cases hlt : k < la.length
    · obtain ⟨x, hx⟩ : ∃ x, la[k]? = some x := ⟨la[k], by simp [hlt]⟩
      obtain ⟨hxl, g, rfl, _, hg, hc⟩ := HA.out k x hx
      have hcr := hbel.cell (p := ⟨g, k, none⟩) hg
      rw [hc] at hcr
      have HX : Hid (la[k]? = some x) := hx
      clear hx hc
      go_wp2
      go_loopw [8, 26] (fun c i wr => ∃ (j : Nat) (p : List Nat) (cy : Nat), j ≤ lb.length ∧ i = .int .i64 j ∧ c = .int .u64 cy ∧ cy < 4294967296 ∧ p.length = la.length + lb.length ∧
          Own wr w.heap.size (.slice (some ⟨w.heap.size, 0, none⟩) (la.length + lb.length) (la.length + lb.length)) p ∧
          val (p.take (k + j)) + 4294967296 ^ (k + j) * cy = val (p0.take (k + j)) + 4294967296 ^ k * (x * val (lb.take j)) ∧ p.drop (k + j) = p0.drop (k + j) ∧ Below w.heap.size w wr)
        (fun _ i _ => lb.length - (intOf i).toNat)
      case atStart => exact ⟨0, p0, 0, Nat.zero_le _, rfl, rfl, by omega, HP0.out, hown, by simp [val], rfl, hbel⟩
      case round =>
        clear hown hbel hcr
        obtain ⟨j, p, cy, hj, rfl, rfl, hcy, hp, hown, hval, hdrop, hbel⟩ := hrel
        have HV : Hid (val (p.take (k + j)) + 4294967296 ^ (k + j) * cy = val (p0.take (k + j)) + 4294967296 ^ k * (x * val (lb.take j))) := hval
        have HP : Hid (p.length = la.length + lb.length) := hp
        have HD : Hid (p.drop (k + j) = p0.drop (k + j)) := hdrop
        clear hval hp hdrop
        by_cases hlt2 : j < lb.length
        · obtain ⟨y, hy⟩ : ∃ y, lb[j]? = some y := ⟨lb[j], by simp [hlt2]⟩
          obtain ⟨hyl, g2, rfl, _, hg2, hc⟩ := HB.out j y hy
          have hcr := hbel.cell (p := ⟨g2, j, none⟩) hg2
          rw [hc] at hcr
          obtain ⟨z, hz, hzl, hold⟩ := hown.at (j := k + j) (by omega)
          have hfr := hown.frozenW (k + j)
          have HY : Hid (lb[j]? = some y) := hy
          have HZ : Hid (p[k + j]? = some z) := hz
          obtain ⟨hb1, hb2⟩ := mul_carry hcy hxl hyl hzl
          clear hy hc hz
          go_wp2_with (go_at_call 193; refine (width_any _).mono ?_; rintro e w' ⟨rfl, rfl⟩)
          go_roundw
          case rel =>
            have e1 : ((cy : Int) + ((x : Int) * (y : Int) + (z : Int))) % 4294967296 = (((cy + (x * y + z)) % 4294967296 : Nat) : Int) := by simp
            have e2 : ((cy : Int) + ((x : Int) * (y : Int) + (z : Int))) / 4294967296 = (((cy + (x * y + z)) / 4294967296 : Nat) : Int) := by simp
            rw [e1, e2]
            exact ⟨j + 1, p.set (k + j) ((cy + (x * y + z)) % 4294967296), _, by omega, by go_num, rfl, hb2, by simp [HP.out], hown.stored (by simp [HP.out]) (k + j) (Nat.mod_lt _ (by omega)),
              mul_step (by rw [HP.out]; omega) (get_of_drop HD.out HZ.out) HY.out (by omega) HV.out, drop_step HD.out, hbel.setCell (Nat.le_refl _) _⟩
          case measure => simp [intOf]; omega
        · have HJ : Hid (j = lb.length) := by unfold Hid; omega
          obtain ⟨z, hz, hzl, hold⟩ := hown.at (j := k + lb.length) (by omega)
          have hfr := hown.frozenW (k + lb.length)
          clear hz
          go_wp2
          go_roundw
          case rel =>
            have hv := HV.out
            rw [HJ.out] at hv
            exact ⟨k + 1, p.set (k + lb.length) cy, by omega, by go_num, by simp [HP.out], hown.stored (by simp [HP.out]) (k + lb.length) hcy, mul_row (by rw [HP.out]; omega) HX.out HV0.out hv, hbel.setCell (Nat.le_refl _) _⟩
          case measure => simp [intOf]; omega
    · have HK : Hid (k = la.length) := by unfold Hid; omega
      go_wp2_with fail
      refine (trim_any _ _ _ _ hown).mono ?_
      rintro e w' ⟨v', rfl, hown3, rfl⟩
      go_wp2
      go_ret
      refine ⟨v', _, rfl, hown3, trimL_canon _, ?_, hbel⟩
      have hv := HV0.out
      rw [HK.out, List.take_length, List.take_of_length_le (by rw [HP0.out]; omega)] at hv
      rw [trimL_val, hv]

end Go.Proofs.YthdcceackfdbbaaGreatDoor
/- Walks: Shift. Own text. -/
namespace Go.Proofs.YthdcceackfdbbaaGreatDoor
open Go.RowKit

theorem or_shl {cy x od : Nat} (hc : cy < 2 ^ od) (hx : x < 4294967296) (ho : od < 32) : bits .or .u64 (cy : Int) (IntKind.u64.wrap ((x : Int) * 2 ^ od)) = ((cy + x * 2 ^ od : Nat) : Int) := by
  have h1 : 2 ^ od ≤ 2 ^ 31 := Nat.pow_le_pow_right (by omega) (by omega)
  have h2 : x * 2 ^ od ≤ 4294967295 * 2 ^ 31 := Nat.mul_le_mul (by omega) h1
  have e : (x : Int) * 2 ^ od = ((x * 2 ^ od : Nat) : Int) := by simp
  rw [e, IntKind.wrap_u64, show ((x * 2 ^ od : Nat) : Int) % 18446744073709551616 = ((x * 2 ^ od : Nat) : Int) from by omega]
  rw [u64_or_nat _ _ (by omega) (by omega), Nat.or_comm, nat_join od _ _ (Nat.mul_mod_left _ _) hc, Nat.add_comm]

theorem shl_carry {cy x od : Nat} (hc : cy < 2 ^ od) (hx : x < 4294967296) : (cy + x * 2 ^ od) / 4294967296 < 2 ^ od := by
  refine Nat.div_lt_of_lt_mul ?_
  have h2 : (x + 1) * 2 ^ od ≤ 4294967296 * 2 ^ od := Nat.mul_le_mul_right _ (by omega)
  rw [Nat.add_mul] at h2
  omega

theorem shift_step {p la : List Nat} {wd k x cy od r c' : Nat} (hp : wd + k < p.length) (hx : la[k]? = some x) (ht : r + 4294967296 * c' = cy + x * 2 ^ od)
    (h : val (p.take (wd + k)) + 4294967296 ^ (wd + k) * cy = 4294967296 ^ wd * (val (la.take k) * 2 ^ od)) :
    val ((p.set (wd + k) r).take (wd + (k + 1))) + 4294967296 ^ (wd + (k + 1)) * c' = 4294967296 ^ wd * (val (la.take (k + 1)) * 2 ^ od) := by
  rw [show wd + (k + 1) = (wd + k) + 1 from by omega, set_take_succ hp, val_snoc, take_len (by omega), val_take_succ (.inl hx)]
  have e1 : 4294967296 ^ (wd + k + 1) * c' = 4294967296 ^ (wd + k) * (4294967296 * c') := by rw [Nat.pow_succ, Nat.mul_assoc]
  have e2 : 4294967296 ^ (wd + k) * (r + 4294967296 * c') = 4294967296 ^ (wd + k) * (cy + x * 2 ^ od) := by rw [ht]
  have e3 : 4294967296 ^ wd * ((val (la.take k) + 4294967296 ^ k * x) * 2 ^ od) = 4294967296 ^ wd * (val (la.take k) * 2 ^ od) + 4294967296 ^ (wd + k) * (x * 2 ^ od) := by
    rw [Nat.add_mul, Nat.mul_add, Nat.pow_add, Nat.mul_assoc (4294967296 ^ k), Nat.mul_assoc (4294967296 ^ wd)]
  rw [Nat.mul_add, Nat.mul_add] at e2
  rw [e1, e3]
  omega

theorem shift_end {p la : List Nat} {wd cy od n : Nat} (hw : wd = n / 32) (ho : od = n % 32) (hp : p.length = wd + la.length + 1)
    (h : val (p.take (wd + la.length)) + 4294967296 ^ (wd + la.length) * cy = 4294967296 ^ wd * (val (la.take la.length) * 2 ^ od)) : val (p.set (wd + la.length) cy) = val la * 2 ^ n := by
  rw [val_set_last hp, h, List.take_length, pow_word, Nat.mul_left_comm, ← Nat.pow_add, show 32 * wd + od = n from by omega]

set_option maxHeartbeats 800000 in
theorem shift_any (w : World) (va : Value) (la : List Nat) (n : Nat) (ha : Own w 0 va la) (hla : la.length ≤ 4096) (hn : n ≤ 100000) :
    Calls Tryz.prog 196 #[va, .int .i64 n] w fun e w' => ∃ v' l', e = .returned v' ∧ Own w' w.heap.size v' l' ∧ Canon l' ∧ val l' = val la * 2 ^ n ∧ Below w.heap.size w w' := by
  obtain ⟨aa, capa, rfl, hlca, hcapa, hcella⟩ := ha.shape1
  have HA : Hid (∀ (i x : Nat), la[i]? = some x → x < 4294967296 ∧ ∃ g, aa = some ⟨g, 0, none⟩ ∧ 0 ≤ g ∧ g < w.heap.size ∧ w.cell? ⟨g, i, none⟩ = some (.int .u32 (x : Int))) := hcella
  clear hcella hcapa
  obtain ⟨i0, hi, hz0, hz1, hz2⟩ := info_parts Tryz.infoU32
  go_enter Tryz.func196, Tryz.ntmps196
  go_wp2
  go_quiet ((go_at_call 193; exact Calls.quiet_of_same (width_any _)))
  obtain ⟨wd, hwd⟩ : ∃ wd, wd = n / 32 := ⟨_, rfl⟩
  obtain ⟨od, hod⟩ : ∃ od, od = n % 32 := ⟨_, rfl⟩
  have hod2 : od < 32 := by omega
  have hwd2 : wd ≤ 4000 := by omega
  have e1 : (n : Int) / 32 = (wd : Int) := by omega
  have e2 : (n : Int) % 32 = (od : Int) := by omega
  rw [e1, e2]
  have HW : Hid (wd = n / 32) := hwd
  have HO : Hid (od = n % 32) := hod
  clear hwd hod e1 e2
  go_wp2_with (at_make; refine wpList_make_full _ rfl _ _ 225 rfl w.heap.size 124 i0 (.int .u32 0) 1 Tryz.underlying225 hi hz0 hz1 _ _ _ _ (wd + la.length + 1) rfl rfl ?c1 ?c2 ?c3 ?c4 ?c5 ?c6)
  case c1 => omega
  case c2 => omega
  case c3 => rw [hz2]; omega
  case c4 => unfold maxLen; omega
  case c5 => simp
  intro w1 hown hgrow
  have hown1 := own_made hown
  have hbel : Below w.heap.size w w1 := ((below_drewN (Below.refl _ _) _)).grown hgrow (by simp) (by intro k hk; cases hk)
  clear hown hgrow
  go_wp2
  go_loopw [8, 25] (fun c i wr => ∃ (k : Nat) (p : List Nat) (cy : Nat), k ≤ la.length ∧ i = .int .i64 k ∧ c = .int .u64 cy ∧ cy < 2 ^ od ∧ p.length = wd + la.length + 1 ∧
      Own wr w.heap.size (.slice (some ⟨w.heap.size, 0, none⟩) (wd + la.length + 1) (wd + la.length + 1)) p ∧ val (p.take (wd + k)) + 4294967296 ^ (wd + k) * cy = 4294967296 ^ wd * (val (la.take k) * 2 ^ od) ∧ Below w.heap.size w wr)
    (fun _ i _ => la.length - (intOf i).toNat)
  case atStart => exact ⟨0, _, 0, Nat.zero_le _, rfl, rfl, Nat.pow_pos (by omega), by simp, hown1, by rw [List.take_replicate, val_zeros]; simp [val], hbel⟩
  case round =>
    clear hown1 hbel
    obtain ⟨k, p, cy, hk, rfl, rfl, hcy, hp, hown, hval, hbel⟩ := hrel
    have HV : Hid (val (p.take (wd + k)) + 4294967296 ^ (wd + k) * cy = 4294967296 ^ wd * (val (la.take k) * 2 ^ od)) := hval
    have HP : Hid (p.length = wd + la.length + 1) := hp
    have HC : Hid (cy < 2 ^ od) := hcy
    have hcy2 : cy < 4294967296 := by have : 2 ^ od ≤ 2 ^ 31 := Nat.pow_le_pow_right (by omega) (by omega); omega
    clear hval hp hcy
    by_cases hlt : k < la.length
    · obtain ⟨x, hx⟩ : ∃ x, la[k]? = some x := ⟨la[k], by simp [hlt]⟩
      obtain ⟨hxl, g, rfl, _, hg, hc⟩ := HA.out k x hx
      have hcr := hbel.cell (p := ⟨g, k, none⟩) hg
      rw [hc] at hcr
      have HX : Hid (la[k]? = some x) := hx
      obtain ⟨z, hz, hzl, hold⟩ := hown.at (j := wd + k) (by omega)
      have hfr := hown.frozenW (wd + k)
      clear hx hc hz
      go_wp2_with (go_at_call 193; refine (width_any _).mono ?_; rintro e w' ⟨rfl, rfl⟩)
      go_roundw
      case rel =>
        rw [or_shl HC.out hxl hod2]
        have e1 : ((cy + x * 2 ^ od : Nat) : Int) % 4294967296 = (((cy + x * 2 ^ od) % 4294967296 : Nat) : Int) := by omega
        have e2 : ((cy + x * 2 ^ od : Nat) : Int) / 4294967296 = (((cy + x * 2 ^ od) / 4294967296 : Nat) : Int) := by omega
        rw [e1, e2]
        exact ⟨k + 1, p.set (wd + k) ((cy + x * 2 ^ od) % 4294967296), _, by omega, by go_num, rfl, shl_carry HC.out hxl, by simp [HP.out], hown.stored (by simp [HP.out]) (wd + k) (Nat.mod_lt _ (by omega)),
          shift_step (by rw [HP.out]; omega) HX.out (by omega) HV.out, hbel.setCell (Nat.le_refl _) _⟩
      case measure => simp [intOf]; omega
    · have HK : Hid (k = la.length) := by unfold Hid; omega
      obtain ⟨z, hz, hzl, hold⟩ := hown.at (j := wd + la.length) (by omega)
      have hfr := hown.frozenW (wd + la.length)
      clear hz
      go_wp2_with fail
      have hown2 := hown.stored (by simp [HP.out]) (wd + la.length) hcy2
      refine (trim_any _ _ _ _ hown2).mono ?_
      rintro e w' ⟨v', rfl, hown3, rfl⟩
      go_wp2
      go_ret
      refine ⟨v', _, rfl, hown3, trimL_canon _, ?_, hbel.setCell (Nat.le_refl _) _⟩
      have hv := HV.out
      rw [HK.out] at hv
      rw [trimL_val, shift_end HW.out HO.out HP.out hv]

end Go.Proofs.YthdcceackfdbbaaGreatDoor
