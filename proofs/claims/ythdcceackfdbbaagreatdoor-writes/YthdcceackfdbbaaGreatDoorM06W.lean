import Derived.Test.YthdcceackfdbbaaGreatDoorM05W
import Derived.Deep.QuietTactic
import Derived.BigQuiet
/- Walks: MulAdd. Own text. -/
namespace Go.Proofs.YthdcceackfdbbaaGreatDoor
open Go.RowKit

theorem Tryz.infoU32 : (Tryz.prog.info? 124).map (fun i => (i.zero, i.size, i.bytes)) = some (some (.int .u32 0), 1, 4) := by kernel_rfl

set_option maxRecDepth 20000 in
set_option maxHeartbeats 400000 in
theorem mulAdd_any (w : World) (v : Value) (l : List Nat) (f m : Nat) (h : Own w 0 v l) (hl : l.length ≤ 4096) (hf : f < 4294967296) (hm : m < 4294967296) :
    Calls Tryz.prog 157 #[v, .int .u32 f, .int .u32 m] w fun e w' => ∃ v' l', e = .returned v' ∧ Own w' w.heap.size v' l' ∧ Canon l' ∧ val l' = val l * f + m ∧ Below w.heap.size w w' := by
  obtain ⟨ao, cap, rfl, hlc, hcap, hcell⟩ := h.shape1
  unfold maxLen at hcap
  obtain ⟨i0, hi, hz0, hz1, hz2⟩ := info_parts Tryz.infoU32
  go_enter Tryz.func157, Tryz.ntmps157
  go_wp2_with (at_make; refine wpList_make_full _ rfl _ _ 225 rfl w.heap.size 124 i0 (.int .u32 0) 1 Tryz.underlying225 hi hz0 hz1 _ _ _ _ (l.length + 1) rfl rfl ?c1 ?c2 ?c3 ?c4 ?c5 ?c6)
  case c1 => omega
  case c2 => omega
  case c3 => rw [hz2]; omega
  case c4 => unfold maxLen; omega
  case c5 => exact Nat.le_refl _
  intro w1 hown hgrow
  have hown1 := own_made hown
  have hbel : Below w.heap.size w w1 := (Below.refl _ _).grown hgrow (Nat.le_refl _) (by intro k hk; cases hk)
  clear hown hgrow
  go_wp2
  go_loopw [8, 19] (fun c i wr => ∃ (k : Nat) (p : List Nat) (cy : Nat), k ≤ l.length ∧ i = .int .i64 k ∧ c = .int .u64 cy ∧ cy < 4294967296 ∧ p.length = l.length + 1 ∧
      Own wr w.heap.size (.slice (some ⟨w.heap.size, 0, none⟩) (l.length + 1) (l.length + 1)) p ∧ val (p.take k) + 4294967296 ^ k * cy = val (l.take k) * f + m ∧ Below w.heap.size w wr)
    (fun _ i _ => l.length - (intOf i).toNat)
  case atStart => exact ⟨0, _, m, Nat.zero_le _, rfl, rfl, hm, by simp, hown1, by simp [val], hbel⟩
  case round =>
    clear hown1 hbel
    obtain ⟨k, p, cy, hk, rfl, rfl, hcy, hp, hown, hval, hbel⟩ := hrel
    have HV := hval
    have HVV : Hid (val (p.take k) + 4294967296 ^ k * cy = val (l.take k) * f + m) := hval
    have HP : Hid (p.length = l.length + 1) := hp
    clear hval HV hp
    by_cases hlt : k < l.length
    · obtain ⟨x, hx⟩ : ∃ x, l[k]? = some x := ⟨l[k], by simp [hlt]⟩
      obtain ⟨hxl, g, rfl, _, hg, hc⟩ := hcell k x hx
      have hcr := hbel.cell (p := ⟨g, k, none⟩) hg
      rw [hc] at hcr
      have HX : Hid (l[k]? = some x) := hx
      have hfr := hown.frozenW k
      obtain ⟨y0, _, _, hold⟩ := hown.at (j := k) (by omega)
      obtain ⟨hb1, hb2⟩ := mulAdd_carry hcy hxl hf
      clear hx hc hcell
      go_wp2_with (go_at_call 193; refine (width_any _).mono ?_; rintro e w' ⟨rfl, rfl⟩)
      go_roundw
      case rel =>
        have e1 : ((cy : Int) + (x : Int) * (f : Int)) % 4294967296 = (((cy + x * f) % 4294967296 : Nat) : Int) := by simp
        have e2 : ((cy : Int) + (x : Int) * (f : Int)) / 4294967296 = (((cy + x * f) / 4294967296 : Nat) : Int) := by simp
        rw [e1, e2]
        exact ⟨k + 1, p.set k ((cy + x * f) % 4294967296), (cy + x * f) / 4294967296, by omega, by go_num, rfl, hb2, by simp [HP.out], hown.stored (by simp [HP.out]) k (Nat.mod_lt _ (by omega)),
          mulAdd_step (by rw [HP.out]; omega) HX.out (by omega) HVV.out, hbel.setCell (Nat.le_refl _) _⟩
      case measure => simp [intOf]; omega
    · have hfr := hown.frozenW l.length
      obtain ⟨y0, hy0, _, hold⟩ := hown.at (j := l.length) (by omega)
      have HK : Hid (k = l.length) := by unfold Hid; omega
      clear hcell hy0
      go_wp2_with fail
      have hown2 := hown.stored (by simp [HP.out]) l.length hcy
      refine (trim_any _ _ _ _ hown2).mono ?_
      rintro e w' ⟨v', rfl, hown3, rfl⟩
      go_wp2
      go_ret
      refine ⟨v', _, rfl, hown3, trimL_canon _, ?_, hbel.setCell (Nat.le_refl _) _⟩
      have hv := HVV.out
      rw [HK.out, List.take_length] at hv
      rw [trimL_val, val_set_last HP.out, hv]

end Go.Proofs.YthdcceackfdbbaaGreatDoor
/- Walks: Of, take, Clone. Own text. -/
namespace Go.Proofs.YthdcceackfdbbaaGreatDoor
open Go.RowKit

theorem Own.ofRow {w : World} {B n : Nat} {v : Value} {l : List Nat} {xs : List Value} (h : w.ownsRow B 124 1 v n xs) (hx : xs = u32s l) (hl : Wds l) : Own w B v l := by
  subst hx
  have : n = l.length := by have := h.1; simp [u32s] at this; omega
  subst this
  exact ⟨h, hl⟩

theorem wds_snoc {l : List Nat} {y : Nat} (h : Wds l) (hy : y < 4294967296) : Wds (l ++ [y]) := by
  intro x hx
  rcases List.mem_append.1 hx with h1 | h1
  · exact h x h1
  · simp at h1; omega

theorem of_step {l : List Nat} {x y : Nat} (h : val l + 4294967296 ^ l.length * y = x) : val (l ++ [y % 4294967296]) + 4294967296 ^ (l ++ [y % 4294967296]).length * (y / 4294967296) = x := by
  rw [val_snoc]
  simp only [List.length_append, List.length_cons, List.length_nil, Nat.zero_add, Nat.pow_succ]
  rw [← h, Nat.mul_assoc, Nat.add_assoc, ← Nat.mul_add, Nat.mod_add_div]

theorem of_canon {l : List Nat} {y : Nat} (hy : y ≠ 0) : y / 4294967296 = 0 → Canon (l ++ [y % 4294967296]) := by
  intro h
  exact canon_snoc (by omega)

theorem of_len {l : List Nat} {x y : Nat} (h : val l + 4294967296 ^ l.length * y = x) (hy : y ≠ 0) (hx : x < 18446744073709551616) : l.length < 2 := by
  by_cases h2 : l.length < 2
  · exact h2
  · have h1 : 4294967296 ^ 2 ≤ 4294967296 ^ l.length := Nat.pow_le_pow_right (by omega) (by omega)
    have h3 : 4294967296 ^ 2 * 1 ≤ 4294967296 ^ l.length * y := Nat.mul_le_mul h1 (by omega)
    omega

set_option maxHeartbeats 400000 in
theorem of_any (w : World) (x : Nat) (hx : x < 18446744073709551616) :
    Calls Tryz.prog 161 #[.int .u64 x] w fun e w' => ∃ v', e = .returned v' ∧ Rep w' w.heap.size v' x ∧ Below w.heap.size w w' := by
  obtain ⟨i0, hi, hz0, hz1, hz2⟩ := info_parts Tryz.infoU32
  go_enter Tryz.func161, Tryz.ntmps161
  go_wp2
  go_loopw [0, 3] (fun s v wr => ∃ (y : Nat) (l : List Nat), s = .int .u64 y ∧ y < 18446744073709551616 ∧ Own wr w.heap.size v l ∧ val l + 4294967296 ^ l.length * y = x ∧ (y = 0 → Canon l) ∧ Below w.heap.size w wr)
    (fun s _ _ => (intOf s).toNat)
  case atStart => exact ⟨x, [], rfl, hx, ⟨World.ownsRow_nil _ _ _ _, by intro y hy; simp at hy⟩, by simp [val], fun _ => canon_nil, Below.refl _ _⟩
  case round =>
    obtain ⟨y, l, rfl, hy, hown, hval, hcan, hbel⟩ := hrel
    have HV : Hid (val l + 4294967296 ^ l.length * y = x) := hval
    have HC : Hid (y = 0 → Canon l) := hcan
    clear hval hcan
    by_cases hy0 : y = 0
    · subst hy0
      go_wp2
      go_ret
      refine ⟨u3, rfl, ⟨l, hown, HC.out (by simp), ?_⟩, hbel⟩
      have := HV.out; simpa using this
    · have hll := of_len HV.out hy0 hx
      have hsz := hbel.size
      have hne : ((y : Int) != 0) = true := by simpa using hy0
      go_wp2_with (first | (at_builtin; refine wpList_append_own _ rfl _ _ 225 rfl w.heap.size 124 i0 (.int .u32 0) 1 4 Tryz.underlying225 hi hz0 hz1 hz2 rfl (by decide) _ _ _ rfl (hown.1.alloc _) ⟨wr.heap.size, 0, none⟩ 1 1 [.int .u32 ((y : Int) % 4294967296)] rfl rfl ?c1 ?c2 ?c3 ?c4 ?c5 ?_) | (go_at_call 193; refine (width_any _).mono ?_; rintro e w' ⟨rfl, rfl⟩))
      case c1 => exact cell_one_new _ _ _
      case c2 => intro u hu; simp at hu; subst hu; rfl
      case c3 => unfold maxLen; omega
      case c4 => omega
      case c5 => simp; omega
      · intro v' w1 hown' hgrow _
        have hr : Own w1 w.heap.size v' (l ++ [y % 4294967296]) := Own.ofRow hown' (by simp [u32s]) (wds_snoc hown.2 (Nat.mod_lt _ (by omega)))
        have hb : Below w.heap.size w w1 := (hbel.alloc hsz _).grown hgrow (by simp; omega) (fun k hk => (hown.1.lt k hk).1)
        clear hown' hgrow hown hbel
        go_wp2_with (go_at_call 193; refine (width_any _).mono ?_; rintro e w' ⟨rfl, rfl⟩)
        go_roundw
        case rel => exact ⟨y / 4294967296, _, by simp, by omega, hr, of_step HV.out, of_canon hy0, hb⟩
        case measure => simp [intOf]; omega

set_option maxHeartbeats 400000 in
theorem clone_any (w : World) (v : Value) (l : List Nat) (h : Own w 0 v l) (hl : l.length ≤ 4096) :
    Calls Tryz.prog 206 #[v] w fun e w' => ∃ v', e = .returned v' ∧ Own w' w.heap.size v' l ∧ Below w.heap.size w w' := by
  obtain ⟨i0, hi, hz0, hz1, hz2⟩ := info_parts Tryz.infoU32
  have q : ∀ (w : World) (a : Option Addr) (n c n' c' : Nat), (binOp .eql 225 (.slice a n c) (.slice none n' c')).run Tryz.prog w = .ok (.bool a.isNone) w := fun w a n c n' c' => Lib.run_eql_slice_nil w _ _ a n c n' c' Tryz.underlying225
  rcases h.shape with ⟨rfl, rfl⟩ | ⟨g, cap, rfl, hB, hg, hlc, hcap, hcell, hfr⟩
  · go_enter Tryz.func206, Tryz.ntmps206
    go_wp2
    go_ret
    exact ⟨_, rfl, ⟨World.ownsRow_nil _ _ _ _, h.2⟩, Below.refl _ _⟩
  · unfold maxLen at hcap
    have HC : Hid (∀ (i x : Nat), l[i]? = some x → w.cell? ⟨g, i, none⟩ = some (.int .u32 (x : Int))) := hcell
    clear hcell hfr
    go_enter Tryz.func206, Tryz.ntmps206
    go_wp2_with (at_builtin; refine wpList_append_own _ rfl _ _ 225 rfl w.heap.size 124 i0 (.int .u32 0) 1 4 Tryz.underlying225 hi hz0 hz1 hz2 rfl (by decide) _ _ _ rfl (World.ownsRow_made w #[] 0 (Nat.le_refl _) (Nat.zero_le _) rfl) ⟨g, 0, none⟩ l.length cap (u32s l) rfl ?qc1 ?qc2 ?qc3 ?qc4 ?qc5 ?qc6 ?_)
    case qc1 => simp [u32s]
    case qc2 =>
      intro j u hj
      rw [Addr.add_lit]
      refine Lib.cell?_alloc_some _ ?_
      simp only [u32s, List.getElem?_map, Option.map_eq_some_iff] at hj
      obtain ⟨x, hx, rfl⟩ := hj
      rw [Nat.zero_add]
      exact HC.out j x hx
    case qc3 => intro u hu; obtain ⟨x, _, rfl⟩ := List.mem_map.1 hu; rfl
    case qc4 => unfold maxLen; omega
    case qc5 => omega
    case qc6 => simp
    intro v' w1 hown hgrow hnil
    go_wp2
    go_ret
    exact ⟨v', rfl, Own.ofRow hown (by simp) h.2, ((Below.refl _ w).alloc (Nat.le_refl _) _).grown hgrow (by simp) (by intro k hk; simp [Value.ownBlock] at hk; omega)⟩

theorem u64_wrap (n : Int) : IntKind.u64.wrap n = n % 18446744073709551616 := rfl

theorem grown_refl (w : World) (r : Option Nat) : w.grownBy w r := ⟨rfl, rfl, rfl, Nat.le_refl _, fun _ _ _ => rfl⟩
theorem grown_setCell {w wr : World} {g : Nat} (h : w.grownBy wr (some g)) (j : Nat) (u : Value) : w.grownBy (wr.setCell ⟨g, j, none⟩ u) (some g) :=
  ⟨h.os, h.tape, h.output, by have := h.size; simpa [World.setCell] using this, fun k hk hne => by
    rw [Below.heap_setCell _ _ _ _ (by intro e; exact hne (by rw [e])), h.block k hk hne]⟩

set_option maxHeartbeats 400000 in
theorem take_any (w : World) (B g n cap : Nat) (vb : Value) (la lb : List Nat) (h : Own w B (.slice (some ⟨g, 0, none⟩) n cap) la) (hb : Own w 0 vb lb) (hne : vb.ownBlock ≠ some g) (hl : la.length ≤ 4096) (hlb : lb.length ≤ la.length) (hle : val lb ≤ val la) :
    Calls Tryz.prog 207 #[.slice (some ⟨g, 0, none⟩) n cap, vb] w fun e w' => e = .returned (.tuple #[]) ∧ (∃ p, Own w' B (.slice (some ⟨g, 0, none⟩) n cap) p ∧ val p = val la - val lb ∧ p.length = la.length) ∧ w.grownBy w' (some g) := by
  have hn := h.lenW
  subst hn
  obtain ⟨ao, capb, rfl, hlc, hcap, hcell⟩ := hb.shape1
  have HC : Hid (∀ (i x : Nat), lb[i]? = some x → x < 4294967296 ∧ ∃ g, ao = some ⟨g, 0, none⟩ ∧ 0 ≤ g ∧ g < w.heap.size ∧ w.cell? ⟨g, i, none⟩ = some (.int .u32 (x : Int))) := hcell
  unfold maxLen at hcap
  clear hcell
  go_enter Tryz.func207, Tryz.ntmps207
  go_wp2
  go_loopw [4, 10] (fun c i wr => ∃ (k : Nat) (p : List Nat) (bw : Nat), k ≤ la.length ∧ i = .int .i64 k ∧ c = .int .u64 bw ∧ bw ≤ 1 ∧ p.length = la.length ∧
      Own wr B (.slice (some ⟨g, 0, none⟩) la.length cap) p ∧ val (la.take k) + 4294967296 ^ k * bw = val (p.take k) + val (lb.take k) ∧ p.drop k = la.drop k ∧ w.grownBy wr (some g))
    (fun _ i _ => la.length - (intOf i).toNat)
  case atStart => exact ⟨0, la, 0, Nat.zero_le _, rfl, rfl, by omega, rfl, h, by simp [val], rfl, grown_refl _ _⟩
  case round =>
    obtain ⟨k, p, bw, hk, rfl, rfl, hbw, hp, hown, hval, hdrop, hgr⟩ := hrel
    have HV : Hid (val (la.take k) + 4294967296 ^ k * bw = val (p.take k) + val (lb.take k)) := hval
    have HP : Hid (p.length = la.length) := hp
    have HD : Hid (p.drop k = la.drop k) := hdrop
    clear hval hp hdrop
    by_cases hlt : k < la.length
    · obtain ⟨x, hx, hxl, hold⟩ := hown.at (j := k) hlt
      have hfr := hown.frozenW k
      have HX : Hid (p[k]? = some x) := hx
      clear hx
      by_cases hlt2 : k < lb.length
      · obtain ⟨y, hy⟩ : ∃ y, lb[k]? = some y := ⟨lb[k], by simp [hlt2]⟩
        obtain ⟨hyl, gb, rfl, _, hgb, hc⟩ := HC.out k y hy
        have hcb := hgr.cell hc (by simpa [Value.ownBlock] using hne)
        have HY : Hid (lb[k]? = some y) := hy
        clear hc hy
        go_wp2
        go_roundw
        case rel =>
          obtain ⟨r, b', e1, e2, hr, hb', e3⟩ := borrow_nat x y bw hxl hyl hbw
          rw [u64_wrap, u64_wrap, e1, e2]
          exact ⟨k + 1, p.set k r, b', by omega, by go_num, rfl, hb', by simp [HP.out], hown.stored (by rw [HP.out]) k hr, take_step (get_of_drop HD.out HX.out) (.inl HY.out) (by rw [HP.out]; omega) e3 HV.out, drop_step HD.out, grown_setCell hgr _ _⟩
        case measure => simp [intOf]; omega
      · go_wp2
        go_roundw
        case rel =>
          obtain ⟨r, b', e1, e2, hr, hb', e3⟩ := borrow_nat0 x bw hxl hbw
          rw [u64_wrap, e1, e2]
          exact ⟨k + 1, p.set k r, b', by omega, by go_num, rfl, hb', by simp [HP.out], hown.stored (by rw [HP.out]) k hr, take_step (get_of_drop HD.out HX.out) (.inr ⟨by omega, rfl⟩) (by rw [HP.out]; omega) e3 HV.out, drop_step HD.out, grown_setCell hgr _ _⟩
        case measure => simp [intOf]; omega
    · have HK : Hid (k = la.length) := by unfold Hid; omega
      go_wp2
      go_end0
      refine ⟨rfl, ⟨p, hown, ?_, HP.out⟩, hgr⟩
      have hv := HV.out
      rw [HK.out] at hv
      exact take_end hown.2 HP.out hlb hle hv

end Go.Proofs.YthdcceackfdbbaaGreatDoor
/- Walks: Compare, BitLen. Own text. -/
namespace Go.Proofs.YthdcceackfdbbaaGreatDoor
open Go.RowKit

theorem quiet_same_add {P : Program} {f : FuncId} {args : Array Value} {w : World} {a n : Nat} {v : Value}
    (h : Calls P f args (w.drewN (a + n)) fun e w' => e = .returned v ∧ w' = w.drewN (a + n)) : Calls P f args (w.drewN (a + n)) fun e w'' => e = .returned v ∧ ∃ m, w'' = w.drewN (a + m) :=
  h.mono fun _ _ ⟨he, hm⟩ => ⟨he, n, hm⟩

theorem quiet_drew_add {P : Program} {f : FuncId} {args : Array Value} {w : World} {a n : Nat} {v : Value}
    (h : Calls P f args (w.drewN (a + n)) fun e w' => e = .returned v ∧ ∃ m, w' = (w.drewN (a + n)).drewN m) : Calls P f args (w.drewN (a + n)) fun e w'' => e = .returned v ∧ ∃ m, w'' = w.drewN (a + m) :=
  h.mono fun _ _ ⟨he, m, hm⟩ => ⟨he, n + m, by rw [hm, World.drewN_drewN, Nat.add_assoc]⟩

set_option maxHeartbeats 800000 in
theorem compare_any (w : World) (va vb : Value) (la lb : List Nat) (ha : Own w 0 va la) (hb : Own w 0 vb lb) (ca : Canon la) (cb : Canon lb) (hla : la.length ≤ 4096) :
    Calls Tryz.prog 197 #[va, vb] w fun e w' => e = .returned (.int .i64 (cmpI (val la) (val lb))) ∧ ∃ n, w' = w.drewN n := by
  obtain ⟨aa, capa, rfl, hlca, hcapa, hcella⟩ := ha.shape1
  obtain ⟨ab, capb, rfl, hlcb, hcapb, hcellb⟩ := hb.shape1
  have HA : Hid (∀ (i x : Nat), la[i]? = some x → x < 4294967296 ∧ ∃ g, aa = some ⟨g, 0, none⟩ ∧ 0 ≤ g ∧ g < w.heap.size ∧ w.cell? ⟨g, i, none⟩ = some (.int .u32 (x : Int))) := hcella
  have HB : Hid (∀ (i x : Nat), lb[i]? = some x → x < 4294967296 ∧ ∃ g, ab = some ⟨g, 0, none⟩ ∧ 0 ≤ g ∧ g < w.heap.size ∧ w.cell? ⟨g, i, none⟩ = some (.int .u32 (x : Int))) := hcellb
  clear hcella hcellb hcapa hcapb
  by_cases hlen : la.length = lb.length
  · have HL : Hid (la.length = lb.length) := hlen
    have hn : ((la.length : Int) != (lb.length : Int)) = false := by simp [hlen]
    clear hlen
    go_enter Tryz.func197, Tryz.ntmps197
    go_wp2
    go_loopw [5] (fun i wr => ∃ k : Nat, k ≤ la.length ∧ i = .int .i64 ((k : Int) - 1) ∧ la.drop k = lb.drop k ∧ ∃ nq, wr = w.drewN nq) (fun i _ => (intOf i + 1).toNat)
    case atStart => exact ⟨la.length, Nat.le_refl _, rfl, by rw [List.drop_length, HL.out, List.drop_length], 0, rfl⟩
    case round =>
      obtain ⟨k, hk, rfl, hd, nq, rfl⟩ := hrel
      have HD : Hid (la.drop k = lb.drop k) := hd
      clear hd
      cases k with
      | zero =>
        go_wp2
        go_ret
        refine ⟨ret_int ?_, nq, rfl⟩
        have hd := HD.out
        simp only [List.drop_zero] at hd
        rw [cmpI_eq (by rw [hd])]
      | succ k =>
        have e : ((k + 1 : Nat) : Int) - 1 = (k : Int) := by omega
        rw [e]
        obtain ⟨x, hx⟩ : ∃ x, la[k]? = some x := ⟨la[k], by simp⟩
        obtain ⟨y, hy⟩ : ∃ y, lb[k]? = some y := ⟨lb[k]'(by have := HL.out; omega), by simp⟩
        obtain ⟨hxl, g, rfl, _, hg, hc⟩ := HA.out k x hx
        obtain ⟨hyl, g2, rfl, _, hg2, hc2⟩ := HB.out k y hy
        have HX : Hid (la[k]? = some x) := hx
        have HY : Hid (lb[k]? = some y) := hy
        have hkb : (k : Int) < (lb.length : Int) := by have := HL.out; omega
        have hka : (k : Int) < (la.length : Int) := by omega
        clear hx hy e
        by_cases hxy : x = y
        · subst hxy
          go_wp2
          go_quiet (fail)
          go_wp2
          go_roundw
          case rel =>
            refine ⟨k, by omega, rfl, ?_, _, rfl⟩
            have h1 := List.drop_eq_getElem_cons (l := la) (i := k) (by omega)
            have h2 := List.drop_eq_getElem_cons (l := lb) (i := k) (by omega)
            rw [(List.getElem?_eq_some_iff.1 HX.out).2] at h1
            rw [(List.getElem?_eq_some_iff.1 HY.out).2] at h2
            rw [h1, h2, HD.out]
          case measure => simp [intOf]
        · have hxy2 : ((x : Int) != (y : Int)) = true := by simp; omega
          go_wp2
          go_quiet (fail)
          go_wp2
          go_quiet ((go_at_call 224; exact quiet_same_add (cmpu32_any _ _ _)))
          go_wp2
          go_ret
          refine ⟨ret_int ?_, _, by rw [World.drewN_drewN, World.drewN_drewN]⟩
          rcases Nat.lt_or_gt_of_ne hxy with hh | hh
          · rw [cmpI_lt (by omega), cmpI_lt (by have := val_lt_of ha.2 HX.out HY.out HD.out hh; omega)]
          · rw [cmpI_gt (by omega), cmpI_gt (by have := val_lt_of hb.2 HY.out HX.out HD.out.symm hh; omega)]
  · have hn : ((la.length : Int) != (lb.length : Int)) = true := by simp; omega
    go_enter Tryz.func197, Tryz.ntmps197
    go_wp2_with (go_at_call 223; refine (cmpint_any _ _ _).mono ?_; rintro e w' ⟨rfl, rfl⟩)
    go_ret
    refine ⟨ret_int ?_, 0, rfl⟩
    rcases Nat.lt_or_gt_of_ne hlen with hh | hh
    · rw [cmpI_lt (by omega), cmpI_lt (by have := val_lt_len ha.2 cb hh; omega)]
    · rw [cmpI_gt (by omega), cmpI_gt (by have := val_lt_len hb.2 ca hh; omega)]

/-- How many bits. -/
def bl (n : Nat) : Nat := if n = 0 then 0 else n.log2 + 1

theorem bl_eq {n b : Nat} (h1 : 2 ^ b ≤ n) (h2 : n < 2 ^ (b + 1)) : bl n = b + 1 := by
  have h0 : n ≠ 0 := by have : 0 < 2 ^ b := Nat.pow_pos (by omega); omega
  unfold bl
  rw [if_neg h0]
  have a1 : b ≤ n.log2 := (Nat.le_log2 h0).2 h1
  have a2 : n.log2 < b + 1 := (Nat.log2_lt h0).2 h2
  omega

theorem bl_lo {n : Nat} (h0 : n ≠ 0) : 2 ^ (bl n - 1) ≤ n := by
  unfold bl; rw [if_neg h0, Nat.add_sub_cancel]; exact (Nat.le_log2 h0).1 (Nat.le_refl _)

theorem bl_hi (n : Nat) : n < 2 ^ bl n := by
  unfold bl
  by_cases h0 : n = 0
  · simp [h0]
  · rw [if_neg h0]; exact (Nat.log2_lt h0).1 (by omega)

theorem bl_pos {n : Nat} (h0 : n ≠ 0) : 1 ≤ bl n := by unfold bl; rw [if_neg h0]; omega

theorem bitLen_bl {x : Nat} (h : x < 18446744073709551616) : Lib.bitLen x = bl x := by
  by_cases h0 : x = 0
  · subst h0; rfl
  · obtain ⟨b1, b2, b3⟩ := Lib.bitLenAux_bounds 64 x (by omega) h0
    have e : Lib.bitLenAux 64 x = (Lib.bitLenAux 64 x - 1) + 1 := by omega
    have := bl_eq b2 (by rw [← e]; exact b3)
    show Lib.bitLenAux 64 x = _
    omega

theorem pow_word (k : Nat) : 4294967296 ^ k = 2 ^ (32 * k) := by rw [Nat.pow_mul]

theorem bl_words {l : List Nat} {x : Nat} (hw : Wds l) (hx : x ≠ 0) : bl (val (l ++ [x])) = 32 * l.length + bl x := by
  have h1 := val_lt hw
  rw [val_snoc]
  rw [pow_word] at h1 ⊢
  have hb1 := bl_lo hx
  have hb2 := bl_hi x
  have hb3 := bl_pos hx
  have e : 32 * l.length + bl x = (32 * l.length + (bl x - 1)) + 1 := by omega
  rw [e]
  refine bl_eq ?_ ?_
  · rw [Nat.pow_add]
    have := Nat.mul_le_mul_left (2 ^ (32 * l.length)) hb1
    omega
  · rw [← e, Nat.pow_add]
    have := Nat.mul_le_mul_left (2 ^ (32 * l.length)) (show x + 1 ≤ 2 ^ bl x from hb2)
    rw [Nat.mul_add] at this
    omega

theorem bl_le {n k : Nat} (h : n < 2 ^ k) : bl n ≤ k := by
  unfold bl
  by_cases h0 : n = 0
  · simp [h0]
  · rw [if_neg h0]; have := (Nat.log2_lt h0).2 h; omega

set_option maxHeartbeats 800000 in
theorem bitlen_any (w : World) (va : Value) (la : List Nat) (ha : Own w 0 va la) (ca : Canon la) (hla : la.length ≤ 4096) :
    Calls Tryz.prog 222 #[va] w fun e w' => e = .returned (.int .i64 (bl (val la))) ∧ ∃ n, w' = w.drewN n := by
  by_cases hne : la = []
  · subst hne
    obtain ⟨aa, capa, rfl, _, _, _⟩ := ha.shape1
    go_enter Tryz.func222, Tryz.ntmps222
    go_wp2
    go_ret
    exact ⟨rfl, 0, rfl⟩
  · obtain ⟨r, x, rfl⟩ := snoc_of_ne hne
    have hx0 : x ≠ 0 := ca x (by simp)
    obtain ⟨aa, capa, rfl, _, _, hcell⟩ := ha.shape1
    obtain ⟨hxl, g, rfl, _, hg, hc⟩ := hcell r.length x (by simp)
    have hb := bl_words (l := r) (fun y hy => ha.2 y (by simp [hy])) hx0
    have HB : Hid (bl (val (r ++ [x])) = 32 * r.length + bl x) := hb
    have hbl := bl_le (n := x) (k := 32) (by omega)
    have hbx := bitLen_bl (x := x) (by omega)
    have HBX : Hid (Lib.bitLen x = bl x) := hbx
    have hbx2 : Lib.bitLen x ≤ 32 := by omega
    simp only [List.length_append, List.length_cons, List.length_nil] at *
    clear hcell hb hbx hne
    go_enter Tryz.func222, Tryz.ntmps222
    go_wp2
    go_quiet (first | (go_at_call 193; exact Calls.quiet_of_same (width_any _)) | (go_at_call 205; exact Calls.quiet_of_same (Tryz.bits_Len64 _ _ (by omega) (by omega))))
    go_wp2
    go_ret
    refine ⟨ret_int ?_, _, rfl⟩
    rw [HB.out]
    have := HBX.out
    omega

end Go.Proofs.YthdcceackfdbbaaGreatDoor
/- Walks over the reference: small, trim, times. Own text. -/
namespace Go.Proofs.YthdcceackfdbbaaGreatDoor
open Go.RowKit

theorem of_stepB {l : List Nat} {x y : Nat} (h : valB l + 1000000000 ^ l.length * y = x) : valB (l ++ [y % 1000000000]) + 1000000000 ^ (l ++ [y % 1000000000]).length * (y / 1000000000) = x := by
  rw [val_snocB]
  simp only [List.length_append, List.length_cons, List.length_nil, Nat.zero_add, Nat.pow_succ]
  rw [← h, Nat.mul_assoc, Nat.add_assoc, ← Nat.mul_add, Nat.mod_add_div]

theorem of_canonB {l : List Nat} {y : Nat} (hy : y ≠ 0) : y / 1000000000 = 0 → Canon (l ++ [y % 1000000000]) := by
  intro h
  exact canon_snoc (by omega)

theorem of_lenB {l : List Nat} {x y : Nat} (h : valB l + 1000000000 ^ l.length * y = x) (hy : y ≠ 0) (hx : x < 9223372036854775808) : l.length < 3 := by
  by_cases h2 : l.length < 3
  · exact h2
  · have h1 : 1000000000 ^ 3 ≤ 1000000000 ^ l.length := Nat.pow_le_pow_right (by omega) (by omega)
    have h3 : 1000000000 ^ 3 * 1 ≤ 1000000000 ^ l.length * y := Nat.mul_le_mul h1 (by omega)
    omega

set_option maxRecDepth 5000 in
set_option maxHeartbeats 400000 in
theorem small_any (w : World) (x : Nat) (hx : x < 9223372036854775808) :
    Calls Tryz.prog 90 #[.int .i64 x] w fun e w' => ∃ v', e = .returned v' ∧ RepB w' w.heap.size v' x ∧ Below w.heap.size w w' := by
  obtain ⟨i0, hi, hz0, hz1, hz2⟩ := info_parts Tryz.infoInt
  go_enter Tryz.func90, Tryz.ntmps90
  go_wp2
  go_loopw [0, 3] (fun s v wr => ∃ (y : Nat) (l : List Nat), s = .int .i64 y ∧ y < 9223372036854775808 ∧ OwnB wr w.heap.size v l ∧ valB l + 1000000000 ^ l.length * y = x ∧ (y = 0 → Canon l) ∧ Below w.heap.size w wr)
    (fun s _ _ => (intOf s).toNat)
  case atStart => exact ⟨x, [], rfl, hx, ownB_nil _ _, by simp [valB], fun _ => canon_nil, Below.refl _ _⟩
  case round =>
    obtain ⟨y, l, rfl, hy, hown, hval, hcan, hbel⟩ := hrel
    have HV : Hid (valB l + 1000000000 ^ l.length * y = x) := hval
    have HC : Hid (y = 0 → Canon l) := hcan
    clear hval hcan
    by_cases hy0 : y = 0
    · subst hy0
      go_wp2
      go_ret
      refine ⟨u3, rfl, ⟨l, hown, HC.out (by simp), ?_⟩, hbel⟩
      have := HV.out; simpa using this
    · have hll := of_lenB HV.out hy0 hx
      have hsz := hbel.size
      have hpos : 0 < y := by omega
      go_wp2_with (at_builtin; refine wpList_append_own _ rfl _ _ 138 rfl w.heap.size 3 i0 (.int .i64 0) 1 8 Tryz.underlying138 hi hz0 hz1 hz2 rfl (by decide) _ _ _ rfl (hown.1.alloc _) ⟨wr.heap.size, 0, none⟩ 1 1 [.int .i64 ((y : Int) % 1000000000)] rfl rfl ?c1 ?c2 ?c3 ?c4 ?c5 ?_)
      case c1 => exact cell_one_new _ _ _
      case c2 => intro u hu; simp at hu; subst hu; rfl
      case c3 => unfold maxLen; omega
      case c4 => omega
      case c5 => simp; omega
      · intro v' w1 hown' hgrow _
        have hr : OwnB w1 w.heap.size v' (l ++ [y % 1000000000]) := OwnB.ofRow hown' (by simp [i64s]) (wds_snocB hown.2 (by first | exact Nat.mod_lt _ (by omega) | omega))
        have hb : Below w.heap.size w w1 := (hbel.alloc hsz _).grown hgrow (by simp; omega) (fun k hk => (hown.1.lt k hk).1)
        clear hown' hgrow hown hbel
        go_wp2
        go_roundw
        case rel => exact ⟨y / 1000000000, _, by simp, by omega, hr, of_stepB HV.out, of_canonB hy0, hb⟩
        case measure => simp [intOf]; omega

set_option maxHeartbeats 400000 in
theorem trimB_any (w : World) (B : Nat) (v : Value) (l : List Nat) (h : OwnB w B v l) :
    Calls Tryz.prog 123 #[v] w fun e w' => ∃ v', e = .returned v' ∧ OwnB w B v' (trimL l) ∧ w' = w := by
  have hlen := h.len
  unfold maxLen at hlen
  rcases h.shape with ⟨rfl, rfl⟩ | ⟨g, cap, rfl, hB, hg, hlc, hcap, hcell, hfr⟩
  · go_enter Tryz.func123, Tryz.ntmps123
    go_wp2
    go_loop [3] (fun v => v = .int .i64 0) (fun _ => 0)
    case atStart => rfl
    case round =>
      subst hrel
      go_wp2
      go_ret
      exact ⟨_, rfl, by simpa [trimL] using h, rfl⟩
  · unfold maxLen at hcap
    go_enter Tryz.func123, Tryz.ntmps123
    go_wp2
    go_loop [3] (fun v => ∃ k : Nat, k ≤ l.length ∧ v = .int .i64 k ∧ trimL (l.take k) = trimL l) (fun v => (intOf v).toNat)
    case atStart => exact ⟨l.length, Nat.le_refl _, rfl, by rw [List.take_length]⟩
    case round =>
      obtain ⟨k, hk, rfl, ht⟩ := hrel
      have HT : Hid (trimL (l.take k) = trimL l) := ht
      clear ht
      cases k with
      | zero =>
        clear hcell hfr
        go_wp2
        go_ret
        exact ⟨_, rfl, by have := h.take rfl (k := 0) (by omega); rw [← HT.out]; simpa [trimL] using this, rfl⟩
      | succ k =>
        obtain ⟨x, hx⟩ : ∃ x, l[k]? = some x := ⟨l[k], by simp⟩
        have hc := hcell k x hx
        have hts := take_snoc_get hx
        have HX : Hid (l.take (k + 1) = l.take k ++ [x]) := hts
        clear hts hcell hx
        by_cases hx0 : x = 0
        · subst hx0
          go_wp2
          go_round
          case rel => exact ⟨k, by omega, by simp, by rw [← HT.out, HX.out, trimL_snoc_zero]⟩
          case measure => simp [intOf]; try omega
        · have hx1 : ((x : Int) == 0) = false := by simpa using hx0
          go_wp2
          go_ret
          exact ⟨_, rfl, by have := h.take rfl (k := k + 1) (by omega); rw [← HT.out, HX.out, trimL_snoc_ne _ hx0, ← HX.out]; exact this, rfl⟩

theorem times_step {lb l : List Nat} {k x cy n y c' : Nat} (hlb : lb.length = k) (hx : l[k]? = some x) (ht : y + 1000000000 * c' = cy + x * n)
    (h : valB lb + 1000000000 ^ k * cy = valB (l.take k) * n) : valB (lb ++ [y]) + 1000000000 ^ (k + 1) * c' = valB (l.take (k + 1)) * n := by
  rw [val_snocB, val_take_succB (.inl hx), hlb]
  have e1 : 1000000000 ^ (k + 1) * c' = 1000000000 ^ k * (1000000000 * c') := by rw [Nat.pow_succ, Nat.mul_assoc]
  have e2 : 1000000000 ^ k * (y + 1000000000 * c') = 1000000000 ^ k * (cy + x * n) := by rw [ht]
  rw [Nat.mul_add, Nat.mul_add] at e2
  rw [e1, Nat.add_mul, Nat.mul_assoc]
  omega

theorem times_bd {cy x n : Nat} (hc : cy ≤ n) (hx : x < 1000000000) (hn : n ≤ 1000000000) : x * n ≤ 999999999 * 1000000000 ∧ (cy + x * n) / 1000000000 ≤ n := by
  have h1 : x * n ≤ 999999999 * 1000000000 := Nat.mul_le_mul (by omega) hn
  refine ⟨h1, ?_⟩
  have h2 : cy + x * n ≤ 1000000000 * n := by
    have : x * n ≤ 999999999 * n := Nat.mul_le_mul_right _ (by omega)
    omega
  exact Nat.div_le_of_le_mul h2

set_option maxRecDepth 5000 in
set_option maxHeartbeats 800000 in
theorem times_any (w : World) (v : Value) (l : List Nat) (n : Nat) (h : OwnB w 0 v l) (hl : l.length ≤ 1000000) (hn : n ≤ 1000000000) :
    Calls Tryz.prog 124 #[v, .int .i64 n] w fun e w' => ∃ v' l', e = .returned v' ∧ OwnB w' w.heap.size v' l' ∧ Canon l' ∧ valB l' = valB l * n ∧ Below w.heap.size w w' := by
  obtain ⟨ao, cap, rfl, hlc, hcap, hcell⟩ := h.shape1
  have HA : Hid (∀ (i x : Nat), l[i]? = some x → x < 1000000000 ∧ ∃ g, ao = some ⟨g, 0, none⟩ ∧ 0 ≤ g ∧ g < w.heap.size ∧ w.cell? ⟨g, i, none⟩ = some (.int .i64 (x : Int))) := hcell
  clear hcell hcap
  obtain ⟨i0, hi, hz0, hz1, hz2⟩ := info_parts Tryz.infoInt
  go_enter Tryz.func124, Tryz.ntmps124
  go_wp2
  go_loopw [5, 6, 7] (fun v c i wr => ∃ (k : Nat) (lb : List Nat) (cy : Nat), k ≤ l.length ∧ i = .int .i64 k ∧ c = .int .i64 cy ∧ cy ≤ n ∧ lb.length = k ∧ OwnB wr w.heap.size v lb ∧
      valB lb + 1000000000 ^ k * cy = valB (l.take k) * n ∧ Below w.heap.size w wr) (fun _ _ i _ => l.length - (intOf i).toNat)
  case atStart => exact ⟨0, [], 0, Nat.zero_le _, rfl, rfl, by omega, rfl, ownB_nil _ _, by simp [valB], Below.refl _ _⟩
  case round =>
    obtain ⟨k, lb, cy, hk, rfl, rfl, hcy, hlb, hown, hval, hbel⟩ := hrel
    have HV : Hid (valB lb + 1000000000 ^ k * cy = valB (l.take k) * n) := hval
    have hsz := hbel.size
    have HLB : Hid (lb.length = k) := hlb
    have hlb2 : lb.length ≤ 1000000 := by omega
    clear hval hlb
    by_cases hlt : k < l.length
    · obtain ⟨x, hx⟩ : ∃ x, l[k]? = some x := ⟨l[k], by simp [hlt]⟩
      obtain ⟨hxl, g, rfl, _, hg, hc⟩ := HA.out k x hx
      have hcr := hbel.cell (p := ⟨g, k, none⟩) hg
      rw [hc] at hcr
      have HX : Hid (l[k]? = some x) := hx
      obtain ⟨hb1, hb2⟩ := times_bd hcy hxl hn
      clear hx hc
      go_wp2_with (at_builtin; refine wpList_append_own _ rfl _ _ 138 rfl w.heap.size 3 i0 (.int .i64 0) 1 8 Tryz.underlying138 hi hz0 hz1 hz2 rfl (by decide) _ _ _ rfl (hown.1.alloc _) ⟨wr.heap.size, 0, none⟩ 1 1 [.int .i64 (((cy : Int) + (x : Int) * (n : Int)) % 1000000000)] rfl rfl ?c1 ?c2 ?c3 ?c4 ?c5 ?_)
      case c1 => exact cell_one_new _ _ _
      case c2 => intro u hu; simp at hu; subst hu; rfl
      case c3 => unfold maxLen; omega
      case c4 => omega
      case c5 => simp; omega
      · intro v' w1 hown' hgrow _
        have hr : OwnB w1 w.heap.size v' (lb ++ [(cy + x * n) % 1000000000]) := OwnB.ofRow hown' (by simp [i64s]) (wds_snocB hown.2 (by first | exact Nat.mod_lt _ (by omega) | omega))
        have hb : Below w.heap.size w w1 := (hbel.alloc hsz _).grown hgrow (by simp; omega) (fun k hk => (hown.1.lt k hk).1)
        clear hown' hgrow hown hbel
        go_wp2
        go_roundw
        case rel =>
          have e2 : ((cy : Int) + (x : Int) * (n : Int)) / 1000000000 = (((cy + x * n) / 1000000000 : Nat) : Int) := by simp
          rw [e2]
          exact ⟨k + 1, lb ++ [(cy + x * n) % 1000000000], _, by omega, by go_num, rfl, hb2, by simp [HLB.out], hr, times_step HLB.out HX.out (by omega) HV.out, hb⟩
        case measure => simp [intOf]; omega
    · have hv0 : valB lb + 1000000000 ^ lb.length * cy = valB l * n := by
        have e := HV.out
        rw [List.take_of_length_le (by omega)] at e
        rw [HLB.out]; exact e
      have HV0 : Hid (valB lb + 1000000000 ^ lb.length * cy = valB l * n) := hv0
      clear hv0 HV HA
      go_wp2
      go_loopw [5, 6] (fun v c wr => ∃ (lb : List Nat) (cy : Nat), c = .int .i64 cy ∧ cy ≤ n ∧ lb.length + cy ≤ 1000000 + n ∧ OwnB wr w.heap.size v lb ∧ valB lb + 1000000000 ^ lb.length * cy = valB l * n ∧ Below w.heap.size w wr) (fun _ c _ => (intOf c).toNat)
      case atStart => exact ⟨lb, cy, rfl, hcy, by omega, hown, HV0.out, hbel⟩
      case round =>
        clear HV0 hown hbel hsz hlb2 HLB
        obtain ⟨lb, cy, rfl, hcy, hlb2, hown, hval, hbel⟩ := hrel
        have HV : Hid (valB lb + 1000000000 ^ lb.length * cy = valB l * n) := hval
        have hsz := hbel.size
        clear hval
        by_cases hc0 : cy = 0
        · subst hc0
          go_wp2_with fail
          refine (trimB_any _ _ _ _ hown).mono ?_
          rintro e w' ⟨v', rfl, hown3, rfl⟩
          go_wp2
          go_ret
          refine ⟨v', _, rfl, hown3, trimL_canon _, ?_, hbel⟩
          have := HV.out
          rw [trimL_valB]; simpa using this
        · have hpos : 0 < cy := by omega
          go_wp2_with (at_builtin; refine wpList_append_own _ rfl _ _ 138 rfl w.heap.size 3 i0 (.int .i64 0) 1 8 Tryz.underlying138 hi hz0 hz1 hz2 rfl (by decide) _ _ _ rfl (hown.1.alloc _) ⟨wr.heap.size, 0, none⟩ 1 1 [.int .i64 ((cy : Int) % 1000000000)] rfl rfl ?d1 ?d2 ?d3 ?d4 ?d5 ?_)
          case d1 => exact cell_one_new _ _ _
          case d2 => intro u hu; simp at hu; subst hu; rfl
          case d3 => unfold maxLen; omega
          case d4 => omega
          case d5 => simp; omega
          · intro v' w1 hown' hgrow _
            have hr : OwnB w1 w.heap.size v' (lb ++ [cy % 1000000000]) := OwnB.ofRow hown' (by simp [i64s]) (wds_snocB hown.2 (by first | exact Nat.mod_lt _ (by omega) | omega))
            have hb : Below w.heap.size w w1 := (hbel.alloc hsz _).grown hgrow (by simp; omega) (fun k hk => (hown.1.lt k hk).1)
            clear hown' hgrow hown hbel
            go_wp2
            go_roundw
            case rel => exact ⟨lb ++ [cy % 1000000000], cy / 1000000000, by simp, by omega, by simp; omega, hr, of_stepB HV.out, hb⟩
            case measure => simp [intOf]; omega

end Go.Proofs.YthdcceackfdbbaaGreatDoor
/- Walks over the reference: plus, minus, compare, power. Own text. -/
namespace Go.Proofs.YthdcceackfdbbaaGreatDoor
open Go.RowKit

theorem plus_step {la lb s : List Nat} {k x y c r c' : Nat} (hs : s.length = k) (hx : la[k]? = some x ∨ (la.length ≤ k ∧ x = 0)) (hy : lb[k]? = some y ∨ (lb.length ≤ k ∧ y = 0)) (ht : r + 1000000000 * c' = c + x + y)
    (h : valB s + 1000000000 ^ k * c = valB (la.take k) + valB (lb.take k)) : valB (s ++ [r]) + 1000000000 ^ (k + 1) * c' = valB (la.take (k + 1)) + valB (lb.take (k + 1)) := by
  rw [val_snocB, val_take_succB hx, val_take_succB hy, hs]
  have e1 : 1000000000 ^ (k + 1) * c' = 1000000000 ^ k * (1000000000 * c') := by rw [Nat.pow_succ, Nat.mul_assoc]
  have e2 : 1000000000 ^ k * (r + 1000000000 * c') = 1000000000 ^ k * (c + x + y) := by rw [ht]
  rw [Nat.mul_add, Nat.mul_add, Nat.mul_add] at e2
  omega

set_option maxRecDepth 5000 in
set_option maxHeartbeats 1600000 in
theorem plus_any (w : World) (va vb : Value) (la lb : List Nat) (ha : OwnB w 0 va la) (hb' : OwnB w 0 vb lb) (hla : la.length ≤ 1000000) (hlb : lb.length ≤ 1000000) :
    Calls Tryz.prog 135 #[va, vb] w fun e w' => ∃ v' l', e = .returned v' ∧ OwnB w' w.heap.size v' l' ∧ valB l' = valB la + valB lb ∧ l'.length ≤ la.length + lb.length + 1 ∧ Below w.heap.size w w' := by
  obtain ⟨aa, capa, rfl, hlca, hcapa, hcella⟩ := ha.shape1
  obtain ⟨ab, capb, rfl, hlcb, hcapb, hcellb⟩ := hb'.shape1
  have HA : Hid (∀ (i x : Nat), la[i]? = some x → x < 1000000000 ∧ ∃ g, aa = some ⟨g, 0, none⟩ ∧ 0 ≤ g ∧ g < w.heap.size ∧ w.cell? ⟨g, i, none⟩ = some (.int .i64 (x : Int))) := hcella
  have HB : Hid (∀ (i x : Nat), lb[i]? = some x → x < 1000000000 ∧ ∃ g, ab = some ⟨g, 0, none⟩ ∧ 0 ≤ g ∧ g < w.heap.size ∧ w.cell? ⟨g, i, none⟩ = some (.int .i64 (x : Int))) := hcellb
  clear hcella hcellb hcapa hcapb
  obtain ⟨i0, hi, hz0, hz1, hz2⟩ := info_parts Tryz.infoInt
  go_enter Tryz.func135, Tryz.ntmps135
  go_wp2
  go_loopw [5, 6, 7] (fun v c i wr => ∃ (k : Nat) (s : List Nat) (cy : Nat), i = .int .i64 k ∧ c = .int .i64 cy ∧ cy ≤ 1 ∧ s.length = k ∧ k + cy ≤ la.length + lb.length + 1 ∧ OwnB wr w.heap.size v s ∧
      valB s + 1000000000 ^ k * cy = valB (la.take k) + valB (lb.take k) ∧ Below w.heap.size w wr) (fun _ _ i _ => la.length + lb.length + 2 - (intOf i).toNat)
  case atStart => exact ⟨0, [], 0, rfl, rfl, by omega, rfl, by simp, ownB_nil _ _, by simp [valB], Below.refl _ _⟩
  case round =>
    obtain ⟨k, s, cy, rfl, rfl, hcy, hs, hk, hown, hval, hbel⟩ := hrel
    have HV : Hid (valB s + 1000000000 ^ k * cy = valB (la.take k) + valB (lb.take k)) := hval
    have hsz := hbel.size
    have HS : Hid (s.length = k) := hs
    have hs2 : s.length ≤ 2000001 := by omega
    clear hval hs
    by_cases c1 : k < la.length
    · obtain ⟨x, hxx⟩ : ∃ x, la[k]? = some x := ⟨la[k], by simp [*]⟩
      obtain ⟨hlx, g, rfl, _, hgg, hcx⟩ := HA.out k x hxx
      have hcrx := hbel.cell (p := ⟨g, k, none⟩) hgg
      rw [hcx] at hcrx
      have HX : Hid (la[k]? = some x) := hxx
      clear hxx hcx
      by_cases c2 : k < lb.length
      · obtain ⟨y, hxy⟩ : ∃ y, lb[k]? = some y := ⟨lb[k], by simp [*]⟩
        obtain ⟨hly, g2, rfl, _, hgg2, hcy⟩ := HB.out k y hxy
        have hcry := hbel.cell (p := ⟨g2, k, none⟩) hgg2
        rw [hcy] at hcry
        have HY : Hid (lb[k]? = some y) := hxy
        clear hxy hcy
        go_wp2_with (at_builtin; refine wpList_append_own _ rfl _ _ 138 rfl w.heap.size 3 i0 (.int .i64 0) 1 8 Tryz.underlying138 hi hz0 hz1 hz2 rfl (by decide) _ _ _ rfl (hown.1.alloc _) ⟨wr.heap.size, 0, none⟩ 1 1 [.int .i64 (((cy : Int) + (x : Int) + (y : Int)) % 1000000000)] rfl rfl ?c1a ?c2a ?c3a ?c4a ?c5a ?_)
        case c1a => exact cell_one_new _ _ _
        case c2a => intro u hu; simp at hu; subst hu; rfl
        case c3a => unfold maxLen; omega
        case c4a => omega
        case c5a => simp; omega
        · intro v' w1 hown' hgrow _
          have hr : OwnB w1 w.heap.size v' (s ++ [(cy + x + y) % 1000000000]) := OwnB.ofRow hown' (by simp [i64s]) (wds_snocB hown.2 (by first | exact Nat.mod_lt _ (by omega) | omega))
          have hb : Below w.heap.size w w1 := (hbel.alloc hsz _).grown hgrow (by simp; omega) (fun k hk => (hown.1.lt k hk).1)
          clear hown' hgrow hown hbel
          go_wp2
          go_roundw
          case rel =>
            have e2 : ((cy : Int) + (x : Int) + (y : Int)) / 1000000000 = ((((cy + x + y)) / 1000000000 : Nat) : Int) := by simp
            rw [e2]
            exact ⟨k + 1, s ++ [((cy + x + y)) % 1000000000], _, by go_num, rfl, by omega, by simp [HS.out], by omega, hr, plus_step HS.out (.inl HX.out) (.inl HY.out) (by omega) HV.out, hb⟩
          case measure => simp [intOf]; omega
      · go_wp2_with (at_builtin; refine wpList_append_own _ rfl _ _ 138 rfl w.heap.size 3 i0 (.int .i64 0) 1 8 Tryz.underlying138 hi hz0 hz1 hz2 rfl (by decide) _ _ _ rfl (hown.1.alloc _) ⟨wr.heap.size, 0, none⟩ 1 1 [.int .i64 (((cy : Int) + (x : Int)) % 1000000000)] rfl rfl ?c1b ?c2b ?c3b ?c4b ?c5b ?_)
        case c1b => exact cell_one_new _ _ _
        case c2b => intro u hu; simp at hu; subst hu; rfl
        case c3b => unfold maxLen; omega
        case c4b => omega
        case c5b => simp; omega
        · intro v' w1 hown' hgrow _
          have hr : OwnB w1 w.heap.size v' (s ++ [(cy + x) % 1000000000]) := OwnB.ofRow hown' (by simp [i64s]) (wds_snocB hown.2 (by first | exact Nat.mod_lt _ (by omega) | omega))
          have hb : Below w.heap.size w w1 := (hbel.alloc hsz _).grown hgrow (by simp; omega) (fun k hk => (hown.1.lt k hk).1)
          clear hown' hgrow hown hbel
          go_wp2
          go_roundw
          case rel =>
            have e2 : ((cy : Int) + (x : Int)) / 1000000000 = ((((cy + x)) / 1000000000 : Nat) : Int) := by simp
            rw [e2]
            exact ⟨k + 1, s ++ [((cy + x)) % 1000000000], _, by go_num, rfl, by omega, by simp [HS.out], by omega, hr, plus_step HS.out (.inl HX.out) (.inr ⟨by omega, rfl⟩) (by omega) HV.out, hb⟩
          case measure => simp [intOf]; omega
    · by_cases c2 : k < lb.length
      · obtain ⟨y, hxy⟩ : ∃ y, lb[k]? = some y := ⟨lb[k], by simp [*]⟩
        obtain ⟨hly, g2, rfl, _, hgg2, hcy⟩ := HB.out k y hxy
        have hcry := hbel.cell (p := ⟨g2, k, none⟩) hgg2
        rw [hcy] at hcry
        have HY : Hid (lb[k]? = some y) := hxy
        clear hxy hcy
        go_wp2_with (at_builtin; refine wpList_append_own _ rfl _ _ 138 rfl w.heap.size 3 i0 (.int .i64 0) 1 8 Tryz.underlying138 hi hz0 hz1 hz2 rfl (by decide) _ _ _ rfl (hown.1.alloc _) ⟨wr.heap.size, 0, none⟩ 1 1 [.int .i64 (((cy : Int) + (y : Int)) % 1000000000)] rfl rfl ?c1c ?c2c ?c3c ?c4c ?c5c ?_)
        case c1c => exact cell_one_new _ _ _
        case c2c => intro u hu; simp at hu; subst hu; rfl
        case c3c => unfold maxLen; omega
        case c4c => omega
        case c5c => simp; omega
        · intro v' w1 hown' hgrow _
          have hr : OwnB w1 w.heap.size v' (s ++ [(cy + y) % 1000000000]) := OwnB.ofRow hown' (by simp [i64s]) (wds_snocB hown.2 (by first | exact Nat.mod_lt _ (by omega) | omega))
          have hb : Below w.heap.size w w1 := (hbel.alloc hsz _).grown hgrow (by simp; omega) (fun k hk => (hown.1.lt k hk).1)
          clear hown' hgrow hown hbel
          go_wp2
          go_roundw
          case rel =>
            have e2 : ((cy : Int) + (y : Int)) / 1000000000 = ((((cy + y)) / 1000000000 : Nat) : Int) := by simp
            rw [e2]
            exact ⟨k + 1, s ++ [((cy + y)) % 1000000000], _, by go_num, rfl, by omega, by simp [HS.out], by omega, hr, plus_step HS.out (.inr ⟨by omega, rfl⟩) (.inl HY.out) (by omega) HV.out, hb⟩
          case measure => simp [intOf]; omega
      · by_cases c3 : cy = 0
        · subst c3
          go_wp2
          go_ret
          refine ⟨_, s, rfl, hown, ?_, by have := HS.out; omega, hbel⟩
          have hv := HV.out
          rw [List.take_of_length_le (by omega), List.take_of_length_le (by omega)] at hv
          simpa using hv
        · have hpos : 0 < cy := by omega
          go_wp2_with (at_builtin; refine wpList_append_own _ rfl _ _ 138 rfl w.heap.size 3 i0 (.int .i64 0) 1 8 Tryz.underlying138 hi hz0 hz1 hz2 rfl (by decide) _ _ _ rfl (hown.1.alloc _) ⟨wr.heap.size, 0, none⟩ 1 1 [.int .i64 (((cy : Int)) % 1000000000)] rfl rfl ?c1d ?c2d ?c3d ?c4d ?c5d ?_)
          case c1d => exact cell_one_new _ _ _
          case c2d => intro u hu; simp at hu; subst hu; rfl
          case c3d => unfold maxLen; omega
          case c4d => omega
          case c5d => simp; omega
          · intro v' w1 hown' hgrow _
            have hr : OwnB w1 w.heap.size v' (s ++ [(cy) % 1000000000]) := OwnB.ofRow hown' (by simp [i64s]) (wds_snocB hown.2 (by first | exact Nat.mod_lt _ (by omega) | omega))
            have hb : Below w.heap.size w w1 := (hbel.alloc hsz _).grown hgrow (by simp; omega) (fun k hk => (hown.1.lt k hk).1)
            clear hown' hgrow hown hbel
            go_wp2
            go_roundw
            case rel =>
              have e2 : ((cy : Int)) / 1000000000 = ((((cy)) / 1000000000 : Nat) : Int) := by simp
              rw [e2]
              exact ⟨k + 1, s ++ [((cy)) % 1000000000], _, by go_num, rfl, by omega, by simp [HS.out], by omega, hr, plus_step HS.out (.inr ⟨by omega, rfl⟩) (.inr ⟨by omega, rfl⟩) (by omega) HV.out, hb⟩
            case measure => simp [intOf]; omega

end Go.Proofs.YthdcceackfdbbaaGreatDoor
