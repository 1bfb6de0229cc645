/- Walks: Of, take, Clone. Own text. -/
import Derived.Test.YthdcceackfdbbaaDoorWb
namespace Go.Proofs.YthdcceackfdbbaaDoor
open Go.RowKit

theorem Own.ofRow {w : World} {B n : Nat} {v : Value} {l : List Nat} {xs : List Value} (h : w.ownsRow B 84 1 v n xs) (hx : xs = u32s l) (hl : Wds l) : Own w B v l := by
  subst hx
  have : n = l.length := by have := h.1; simp [u32s] at this; omega
  subst this
  exact ⟨h, hl⟩

theorem wds_snoc {l : List Nat} {y : Nat} (h : Wds l) (hy : y < 4294967296) : Wds (l ++ [y]) := by
  intro x hx
  rcases List.mem_append.1 hx with h1 | h1
  · exact h x h1
  · simp at h1; omega

theorem of_step {l : List Nat} {x y : Nat} (h : val l + 4294967296 ^ l.length * y = x) : val (l ++ [y % 4294967296]) + 4294967296 ^ (l ++ [y % 4294967296]).length * (y / 4294967296) = x := by
  rw [val_snoc]
  simp only [List.length_append, List.length_cons, List.length_nil, Nat.zero_add, Nat.pow_succ]
  rw [← h, Nat.mul_assoc, Nat.add_assoc, ← Nat.mul_add, Nat.mod_add_div]

theorem of_canon {l : List Nat} {y : Nat} (hy : y ≠ 0) : y / 4294967296 = 0 → Canon (l ++ [y % 4294967296]) := by
  intro h
  exact canon_snoc (by omega)

theorem of_len {l : List Nat} {x y : Nat} (h : val l + 4294967296 ^ l.length * y = x) (hy : y ≠ 0) (hx : x < 18446744073709551616) : l.length < 2 := by
  by_cases h2 : l.length < 2
  · exact h2
  · have h1 : 4294967296 ^ 2 ≤ 4294967296 ^ l.length := Nat.pow_le_pow_right (by omega) (by omega)
    have h3 : 4294967296 ^ 2 * 1 ≤ 4294967296 ^ l.length * y := Nat.mul_le_mul h1 (by omega)
    omega

set_option maxHeartbeats 400000 in
theorem of_any (w : World) (x : Nat) (hx : x < 18446744073709551616) :
    Calls Tryd.prog 68 #[.int .u64 x] w fun e w' => ∃ v', e = .returned v' ∧ Rep w' w.heap.size v' x ∧ Below w.heap.size w w' := by
  obtain ⟨i0, hi, hz0, hz1, hz2⟩ := info_parts Tryd.infoU32
  go_enter Tryd.func68, Tryd.ntmps68
  go_wp2
  go_loopw [0, 3] (fun s v wr => ∃ (y : Nat) (l : List Nat), s = .int .u64 y ∧ y < 18446744073709551616 ∧ Own wr w.heap.size v l ∧ val l + 4294967296 ^ l.length * y = x ∧ (y = 0 → Canon l) ∧ Below w.heap.size w wr)
    (fun s _ _ => (intOf s).toNat)
  case atStart => exact ⟨x, [], rfl, hx, ⟨World.ownsRow_nil _ _ _ _, by intro y hy; simp at hy⟩, by simp [val], fun _ => canon_nil, Below.refl _ _⟩
  case round =>
    obtain ⟨y, l, rfl, hy, hown, hval, hcan, hbel⟩ := hrel
    have HV : Hid (val l + 4294967296 ^ l.length * y = x) := hval
    have HC : Hid (y = 0 → Canon l) := hcan
    clear hval hcan
    by_cases hy0 : y = 0
    · subst hy0
      go_wp2
      go_ret
      refine ⟨u3, rfl, ⟨l, hown, HC.out (by simp), ?_⟩, hbel⟩
      have := HV.out; simpa using this
    · have hll := of_len HV.out hy0 hx
      have hsz := hbel.size
      have hne : ((y : Int) != 0) = true := by simpa using hy0
      go_wp2_with (first | (at_builtin; refine wpList_append_own _ rfl _ _ 76 rfl w.heap.size 84 i0 (.int .u32 0) 1 4 Tryd.underlying76 hi hz0 hz1 hz2 rfl (by decide) _ _ _ rfl (hown.1.alloc _) ⟨wr.heap.size, 0, none⟩ 1 1 [.int .u32 ((y : Int) % 4294967296)] rfl rfl ?c1 ?c2 ?c3 ?c4 ?c5 ?_) | (go_at_call 91; refine (width_any _).mono ?_; rintro e w' ⟨rfl, rfl⟩))
      case c1 => exact cell_one_new _ _ _
      case c2 => intro u hu; simp at hu; subst hu; rfl
      case c3 => unfold maxLen; omega
      case c4 => omega
      case c5 => simp; omega
      · intro v' w1 hown' hgrow _
        have hr : Own w1 w.heap.size v' (l ++ [y % 4294967296]) := Own.ofRow hown' (by simp [u32s]) (wds_snoc hown.2 (Nat.mod_lt _ (by omega)))
        have hb : Below w.heap.size w w1 := (hbel.alloc hsz _).grown hgrow (by simp; omega) (fun k hk => (hown.1.lt k hk).1)
        clear hown' hgrow hown hbel
        go_wp2_with (go_at_call 91; refine (width_any _).mono ?_; rintro e w' ⟨rfl, rfl⟩)
        go_roundw
        case rel => exact ⟨y / 4294967296, _, by simp, by omega, hr, of_step HV.out, of_canon hy0, hb⟩
        case measure => simp [intOf]; omega

set_option maxHeartbeats 400000 in
theorem clone_any (w : World) (v : Value) (l : List Nat) (h : Own w 0 v l) (hl : l.length ≤ 4096) :
    Calls Tryd.prog 83 #[v] w fun e w' => ∃ v', e = .returned v' ∧ Own w' w.heap.size v' l ∧ Below w.heap.size w w' := by
  obtain ⟨i0, hi, hz0, hz1, hz2⟩ := info_parts Tryd.infoU32
  have q : ∀ (w : World) (a : Option Addr) (n c n' c' : Nat), (binOp .eql 76 (.slice a n c) (.slice none n' c')).run Tryd.prog w = .ok (.bool a.isNone) w := fun w a n c n' c' => Lib.run_eql_slice_nil w _ _ a n c n' c' Tryd.underlying76
  rcases h.shape with ⟨rfl, rfl⟩ | ⟨g, cap, rfl, hB, hg, hlc, hcap, hcell, hfr⟩
  · go_enter Tryd.func83, Tryd.ntmps83
    go_wp2
    go_ret
    exact ⟨_, rfl, ⟨World.ownsRow_nil _ _ _ _, h.2⟩, Below.refl _ _⟩
  · unfold maxLen at hcap
    have HC : Hid (∀ (i x : Nat), l[i]? = some x → w.cell? ⟨g, i, none⟩ = some (.int .u32 (x : Int))) := hcell
    clear hcell hfr
    go_enter Tryd.func83, Tryd.ntmps83
    go_wp2_with (at_builtin; refine wpList_append_own _ rfl _ _ 76 rfl w.heap.size 84 i0 (.int .u32 0) 1 4 Tryd.underlying76 hi hz0 hz1 hz2 rfl (by decide) _ _ _ rfl (World.ownsRow_made w #[] 0 (Nat.le_refl _) (Nat.zero_le _) rfl) ⟨g, 0, none⟩ l.length cap (u32s l) rfl ?qc1 ?qc2 ?qc3 ?qc4 ?qc5 ?qc6 ?_)
    case qc1 => simp [u32s]
    case qc2 =>
      intro j u hj
      rw [Addr.add_lit]
      refine Lib.cell?_alloc_some _ ?_
      simp only [u32s, List.getElem?_map, Option.map_eq_some_iff] at hj
      obtain ⟨x, hx, rfl⟩ := hj
      rw [Nat.zero_add]
      exact HC.out j x hx
    case qc3 => intro u hu; obtain ⟨x, _, rfl⟩ := List.mem_map.1 hu; rfl
    case qc4 => unfold maxLen; omega
    case qc5 => omega
    case qc6 => simp
    intro v' w1 hown hgrow hnil
    go_wp2
    go_ret
    exact ⟨v', rfl, Own.ofRow hown (by simp) h.2, ((Below.refl _ w).alloc (Nat.le_refl _) _).grown hgrow (by simp) (by intro k hk; simp [Value.ownBlock] at hk; omega)⟩

theorem u64_wrap (n : Int) : IntKind.u64.wrap n = n % 18446744073709551616 := rfl

theorem grown_refl (w : World) (r : Option Nat) : w.grownBy w r := ⟨rfl, rfl, rfl, Nat.le_refl _, fun _ _ _ => rfl⟩
theorem grown_setCell {w wr : World} {g : Nat} (h : w.grownBy wr (some g)) (j : Nat) (u : Value) : w.grownBy (wr.setCell ⟨g, j, none⟩ u) (some g) :=
  ⟨h.os, h.tape, h.output, by have := h.size; simpa [World.setCell] using this, fun k hk hne => by
    rw [Below.heap_setCell _ _ _ _ (by intro e; exact hne (by rw [e])), h.block k hk hne]⟩

set_option maxHeartbeats 400000 in
theorem take_any (w : World) (B g n cap : Nat) (vb : Value) (la lb : List Nat) (h : Own w B (.slice (some ⟨g, 0, none⟩) n cap) la) (hb : Own w 0 vb lb) (hne : vb.ownBlock ≠ some g) (hl : la.length ≤ 4096) (hlb : lb.length ≤ la.length) (hle : val lb ≤ val la) :
    Calls Tryd.prog 84 #[.slice (some ⟨g, 0, none⟩) n cap, vb] w fun e w' => e = .returned (.tuple #[]) ∧ (∃ p, Own w' B (.slice (some ⟨g, 0, none⟩) n cap) p ∧ val p = val la - val lb ∧ p.length = la.length) ∧ w.grownBy w' (some g) := by
  have hn := h.lenW
  subst hn
  obtain ⟨ao, capb, rfl, hlc, hcap, hcell⟩ := hb.shape1
  have HC : Hid (∀ (i x : Nat), lb[i]? = some x → x < 4294967296 ∧ ∃ g, ao = some ⟨g, 0, none⟩ ∧ 0 ≤ g ∧ g < w.heap.size ∧ w.cell? ⟨g, i, none⟩ = some (.int .u32 (x : Int))) := hcell
  unfold maxLen at hcap
  clear hcell
  go_enter Tryd.func84, Tryd.ntmps84
  go_wp2
  go_loopw [4, 10] (fun c i wr => ∃ (k : Nat) (p : List Nat) (bw : Nat), k ≤ la.length ∧ i = .int .i64 k ∧ c = .int .u64 bw ∧ bw ≤ 1 ∧ p.length = la.length ∧
      Own wr B (.slice (some ⟨g, 0, none⟩) la.length cap) p ∧ val (la.take k) + 4294967296 ^ k * bw = val (p.take k) + val (lb.take k) ∧ p.drop k = la.drop k ∧ w.grownBy wr (some g))
    (fun _ i _ => la.length - (intOf i).toNat)
  case atStart => exact ⟨0, la, 0, Nat.zero_le _, rfl, rfl, by omega, rfl, h, by simp [val], rfl, grown_refl _ _⟩
  case round =>
    obtain ⟨k, p, bw, hk, rfl, rfl, hbw, hp, hown, hval, hdrop, hgr⟩ := hrel
    have HV : Hid (val (la.take k) + 4294967296 ^ k * bw = val (p.take k) + val (lb.take k)) := hval
    have HP : Hid (p.length = la.length) := hp
    have HD : Hid (p.drop k = la.drop k) := hdrop
    clear hval hp hdrop
    by_cases hlt : k < la.length
    · obtain ⟨x, hx, hxl, hold⟩ := hown.at (j := k) hlt
      have hfr := hown.frozenW k
      have HX : Hid (p[k]? = some x) := hx
      clear hx
      by_cases hlt2 : k < lb.length
      · obtain ⟨y, hy⟩ : ∃ y, lb[k]? = some y := ⟨lb[k], by simp [hlt2]⟩
        obtain ⟨hyl, gb, rfl, _, hgb, hc⟩ := HC.out k y hy
        have hcb := hgr.cell hc (by simpa [Value.ownBlock] using hne)
        have HY : Hid (lb[k]? = some y) := hy
        clear hc hy
        go_wp2
        go_roundw
        case rel =>
          obtain ⟨r, b', e1, e2, hr, hb', e3⟩ := borrow_nat x y bw hxl hyl hbw
          rw [u64_wrap, u64_wrap, e1, e2]
          exact ⟨k + 1, p.set k r, b', by omega, by go_num, rfl, hb', by simp [HP.out], hown.stored (by rw [HP.out]) k hr, take_step (get_of_drop HD.out HX.out) (.inl HY.out) (by rw [HP.out]; omega) e3 HV.out, drop_step HD.out, grown_setCell hgr _ _⟩
        case measure => simp [intOf]; omega
      · go_wp2
        go_roundw
        case rel =>
          obtain ⟨r, b', e1, e2, hr, hb', e3⟩ := borrow_nat0 x bw hxl hbw
          rw [u64_wrap, e1, e2]
          exact ⟨k + 1, p.set k r, b', by omega, by go_num, rfl, hb', by simp [HP.out], hown.stored (by rw [HP.out]) k hr, take_step (get_of_drop HD.out HX.out) (.inr ⟨by omega, rfl⟩) (by rw [HP.out]; omega) e3 HV.out, drop_step HD.out, grown_setCell hgr _ _⟩
        case measure => simp [intOf]; omega
    · have HK : Hid (k = la.length) := by unfold Hid; omega
      go_wp2
      go_end0
      refine ⟨rfl, ⟨p, hown, ?_, HP.out⟩, hgr⟩
      have hv := HV.out
      rw [HK.out] at hv
      exact take_end hown.2 HP.out hlb hle hv

end Go.Proofs.YthdcceackfdbbaaDoor
