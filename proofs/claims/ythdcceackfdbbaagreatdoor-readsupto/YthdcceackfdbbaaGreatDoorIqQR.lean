import Derived.Test.YthdcceackfdbbaaGreatDoorM28R
import Derived.Test.YthdcceackfdbbaaGreatDoorM29R
import Derived.Test.YthdcceackfdbbaaGreatDoorM17R
import Derived.Test.YthdcceackfdbbaaGreatDoorM11R
import Derived.Deep.QuietTactic
import Derived.Deep.RegionWith
import Derived.Deep.CutRange
namespace Go.Proofs.YthdcceackfdbbaaGreatDoor
open Go Go.RowKit
set_option maxRecDepth 20000 in
set_option maxHeartbeats 1000000 in
theorem unended_any (w : World) (ended : Bool) :
    Calls Tryz.prog 85 #[.bool ended] w fun e w' => FoundQ w.heap.size w ((if ended then 11 else 0 : Int), none) e w' := by
  obtain ⟨b, hb⟩ : ∃ b, w.heap.size = b := ⟨_, rfl⟩
  rw [hb]
  have HAR : Hid (Arr (w.alloc (.cells #[.int .i64 0, .int .i64 0, .slice none 0 0, .int .i64 0, .int .i64 0] 39)) b 39 (fndC 0 0 (.slice none 0 0) 0 0)) := by rw [← hb]; exact Arr.newL w _ _
  have HBE : Hid (Below b w (w.alloc (.cells #[.int .i64 0, .int .i64 0, .slice none 0 0, .int .i64 0, .int .i64 0] 39))) := by rw [← hb]; exact Below.refl' _ _
  cases ended
  · go_enter Tryz.func85, Tryz.ntmps85
    obtain ⟨Z1, Z2, Z3, Z4, Z5, e1, e2, e3, e4, e5, x0, y0, x1, y1, x2, y2, x3, y3, x4, y4, HZ, HZB⟩ := found_steps (c0 := .int .i64 0) (c1 := .int .i64 0) (c2 := .slice none 0 0) (c3 := .int .i64 0) (c4 := .int .i64 0) HAR.out HBE.out (.int .i64 0) (.int .i64 0) (.slice none 0 0) (.int .i64 0) (.int .i64 0)
    go_wp2
    clear e1 e2 e3 e4 e5 x0 y0 x1 y1 x2 y2 x3 y3 x4 y4
    obtain ⟨z0, z1, z2, z3, z4⟩ := HZ.out
    refine bodyPost_ret (v := foundV 0 0 (.slice none 0 0) 0 0) ?_ rfl (FoundQ.bad HZB.out)
    simp [results, Tryz.results85, go_sem, foundV, z0, z1, z2, z3, z4]
  · go_enter Tryz.func85, Tryz.ntmps85
    obtain ⟨Z1, Z2, Z3, Z4, Z5, e1, e2, e3, e4, e5, x0, y0, x1, y1, x2, y2, x3, y3, x4, y4, HZ, HZB⟩ := found_steps (c0 := .int .i64 0) (c1 := .int .i64 0) (c2 := .slice none 0 0) (c3 := .int .i64 0) (c4 := .int .i64 0) HAR.out HBE.out (.int .i64 0) (.int .i64 0) (.slice none 0 0) (.int .i64 0) (.int .i64 11)
    go_wp2
    clear e1 e2 e3 e4 e5 x0 y0 x1 y1 x2 y2 x3 y3 x4 y4
    obtain ⟨z0, z1, z2, z3, z4⟩ := HZ.out
    refine bodyPost_ret (v := foundV 0 0 (.slice none 0 0) 0 11) ?_ rfl (FoundQ.bad HZB.out)
    simp [results, Tryz.results85, go_sem, foundV, z0, z1, z2, z3, z4]
theorem valL_step {l : List UInt8} {k : Nat} {b : UInt8} (h : l[k]? = some b) : valL (l.drop k) = b.toNat + 256 * valL (l.drop (k + 1)) := by
  have hk := (List.getElem?_eq_some_iff.1 h).1
  rw [List.drop_eq_getElem_cons hk]
  simp only [valL]
  rw [(List.getElem?_eq_some_iff.1 h).2]
theorem valL_lt8 {l : List UInt8} (h : l.length ≤ 7) : valL l < 72057594037927936 := by
  have h1 := valL_lt l
  have h2 : (256 : Nat) ^ l.length ≤ 256 ^ 7 := Nat.pow_le_pow_right (by omega) h
  omega
set_option maxRecDepth 20000 in
set_option maxHeartbeats 1000000 in
theorem high_any (w : World) (x : ByteArray) (n : Nat) (hn : x.size = n) (hn8 : n ≤ 8) :
    Calls Tryz.prog 86 #[.string x] w fun e w' => e = .returned (.int .u64 (valL x.data.toList : Int)) ∧ w' = w := by
  have hxl : x.data.toList.length = n := by rw [← hn]; exact (bytes_size rfl).symm
  obtain ⟨l, hl⟩ : ∃ l, x.data.toList = l := ⟨_, rfl⟩
  rw [hl] at hxl ⊢
  have HL := hid hl
  have HXL := hid hxl
  clear hl hxl
  go_enter Tryz.func86, Tryz.ntmps86
  go_wp2
  go_loopw [3, 4] (fun vx vi wr => ∃ k : Nat, k ≤ n ∧ vi = .int .i64 ((k : Int) - 1) ∧ vx = .int .u64 (valL (l.drop k) : Int) ∧ wr = w) (fun _ vi _ => ((intOf vi) + 1).toNat)
  case atStart => exact ⟨n, Nat.le_refl _, by first | rfl | rw [hn], by rw [List.drop_of_length_le (by rw [HXL.out]; omega)]; rfl, rfl⟩
  case round =>
    obtain ⟨k, hk, rfl, rfl, rfl⟩ := hrel
    by_cases h0 : k = 0
    · subst h0
      go_wp2
      go_ret
      exact ⟨by simp, rfl⟩
    · obtain ⟨j, rfl⟩ : ∃ j, k = j + 1 := ⟨k - 1, by omega⟩
      have hjx : j < x.size := by omega
      have hg : l[j]? = some x[j] := by rw [← HL.out]; exact take_get hjx
      have hst := valL_step hg
      have hlt := valL_lt8 (l := l.drop (j + 1)) (by rw [List.length_drop, HXL.out]; omega)
      have hxb := x[j].toNat_lt
      have HST := hid hst
      clear hst hg
      obtain ⟨v, hv⟩ : ∃ v, valL (l.drop (j + 1)) = v := ⟨_, rfl⟩
      rw [hv] at hlt HST ⊢
      clear hv
      have h1 : ((j + 1 : Nat) : Int) - 1 = (j : Int) := by omega
      rw [h1]
      have h2 : (0 : Int) ≤ j := by omega
      go_wp2
      go_round
      case rel => exact ⟨j, by omega, by simp, by rw [HST.out]; simp; omega, by first | rfl | trivial⟩
      case measure => simp [intOf]
theorem kindB_eq {l : List UInt8} {x : UInt8} (h : l[5]? = some x) (hx : x.toNat ≤ 1) : (4 : Int) + (x.toNat : Int) = (kindB l : Int) := by
  unfold kindB
  rw [h]
  by_cases h1 : x = 1
  · subst h1; rfl
  · rw [if_neg (by intro e; exact h1 (Option.some.inj e))]
    have : x.toNat = 0 := by
      have : x.toNat ≠ 1 := fun e => h1 (UInt8.toNat_inj.1 (by rw [e]; rfl))
      omega
    rw [this]; rfl
theorem newFound {W : World} {b : Nat} (h : W.heap.size = b + 1) (t : TypeId) (l : List Value) : Arr (W.alloc (.cells l.toArray t)) (b + 1) t l := by
  have := Arr.newL W t l
  rw [h] at this
  exact this
structure BoxF (b R C kd : Nat) (f : Nat → Nat → Nat) (k : Nat) (w wr : World) : Prop where
  res : Arr wr b 39 (fndC 0 0 (.slice none 0 0) 0 0)
  mat : ∃ sl, Arr wr (b + 1) 39 (fndC R C sl kd 0) ∧ wr.ownsRow (b + 2) 65 1 sl k (u64s (leadL C f k))
  bel : Below b w wr
theorem BoxF.c0 {b R C kd : Nat} {f : Nat → Nat → Nat} {k : Nat} {w wr : World} (h : BoxF b R C kd f k w wr) : wr.cell? ⟨b + 1, 0, none⟩ = some (.int .i64 (R : Int)) := by
  obtain ⟨sl, h1, _⟩ := h.mat; exact h1.cell (i := 0) rfl
theorem BoxF.c1 {b R C kd : Nat} {f : Nat → Nat → Nat} {k : Nat} {w wr : World} (h : BoxF b R C kd f k w wr) : wr.cell? ⟨b + 1, 1, none⟩ = some (.int .i64 (C : Int)) := by
  obtain ⟨sl, h1, _⟩ := h.mat; exact h1.cell (i := 1) rfl
theorem BoxF.c3 {b R C kd : Nat} {f : Nat → Nat → Nat} {k : Nat} {w wr : World} (h : BoxF b R C kd f k w wr) : wr.cell? ⟨b + 1, 3, none⟩ = some (.int .i64 (kd : Int)) := by
  obtain ⟨sl, h1, _⟩ := h.mat; exact h1.cell (i := 3) rfl
def CanTo (C : Nat) (f : Nat → Nat → Nat) (k : Nat) : Prop := ∀ q, q < k → canon (f (q / C) (q % C)) = f (q / C) (q % C)
set_option maxRecDepth 20000 in
set_option maxHeartbeats 8000000 in
theorem boxed_any (w : World) (x : ByteArray) (N : Nat) (hN : x.size = N) (hN1 : N ≤ 20000000000000) (ended : Bool) :
    Calls Tryz.prog 54 #[.string x, .bool ended] w fun e w' => FoundQ w.heap.size w (readR (boxE x.data.toList, .box x.data.toList) ended) e w' := by
  have hmix : Tryz.prog.follows .mixedOrders = true := by kernel_rfl
  obtain ⟨i0, hi, hz0, hz1, hz2⟩ := info_parts Tryz.infoU64
  have HI := hid hi
  clear hi
  obtain ⟨b, hb⟩ : ∃ b, w.heap.size = b := ⟨_, rfl⟩
  have hxl : x.data.toList.length = N := by rw [← hN]; exact (bytes_size rfl).symm
  obtain ⟨l, hl⟩ : ∃ l, x.data.toList = l := ⟨_, rfl⟩
  rw [hl] at hxl ⊢
  obtain ⟨res, hres⟩ : ∃ res, readR (boxE l, .box l) ended = res := ⟨_, rfl⟩
  rw [hres, hb]
  have HRES := hid hres
  have HL := hid hl
  have HXL := hid hxl
  clear hres hl hxl
  have HHI : Hid (∀ (w : World) (a c : Nat), c ≤ N → a ≤ c → c - a ≤ 8 → Calls Tryz.prog 86 #[.string (x.extract a c)] w fun e w' => e = .returned (.int .u64 (valL ((l.drop a).take (c - a)) : Int)) ∧ w' = w) := fun w a c h1 h2 h3 => by
    have := high_any w (x.extract a c) (c - a) (by rw [ByteArray.size_extract]; omega) h3
    rw [ext_list, HL.out] at this; exact this
  have HSU : Hid (∀ (w : World) (a c : Nat), c ≤ N → a ≤ c → c - a ≤ 1000000 → Calls Tryz.prog 76 #[.string (x.extract a c)] w fun e w' => e = .returned (.int .u32 ((sumL ((l.drop a).take (c - a)) : Nat) : Int)) ∧ w' = w) := fun w a c h1 h2 h3 => by
    have := rsum_any w (x.extract a c) (by rw [ByteArray.size_extract]; omega)
    rw [ext_list, HL.out] at this; exact this
  go_enter Tryz.func54, Tryz.ntmps54
  go_wp2_with fail
  obtain ⟨hd, hhd⟩ : ∃ hd, (⟨#[65, 66, 65, 67, 1]⟩ : ByteArray) = hd := ⟨_, rfl⟩
  rw [hhd]
  have hdl : hd.data.toList = markL := by rw [← hhd]; rfl
  have hds : hd.size = 5 := by rw [← hhd]; rfl
  have HDL := hid hdl
  clear hdl hhd
  go_loopw [6] (fun vi wr => ∃ i : Nat, vi = .int .i64 (i : Int) ∧ i ≤ 6 ∧ i ≤ N ∧ Hid (Arr wr b 39 (fndC 0 0 (.slice none 0 0) 0 0)) ∧ Hid (Below b w wr) ∧ Hid (wr.heap.size = b + 1) ∧ Hid (∀ j y, j < i → l[j]? = some y → (j < 5 → markL[j]? = some y) ∧ (j = 5 → y.toNat ≤ 1))) (fun vi _ => 6 - (intOf vi).toNat)
  case atStart => exact ⟨0, rfl, by omega, by omega, by rw [← hb]; exact Arr.newL w _ _, by rw [← hb]; exact Below.refl' _ _, by show _ = _; simp [hb], fun j y h => by omega⟩
  case round =>
    obtain ⟨i, rfl, hi6, hiN, HAR, HBE, HSZ, HMK⟩ := hrel
    by_cases hlt : i < N ∧ i < 6
    · obtain ⟨hltN, hlt6⟩ := hlt
      have h1 : (i : Int) < N := by omega
      have h2 : (i : Int) < 6 := by omega
      have hix : i < x.size := by omega
      have hg : l[i]? = some x[i] := by rw [← HL.out]; exact take_get hix
      have HG := hid hg
      clear hg
      by_cases h5 : i < 5
      · have h5' : (i : Int) < 5 := by omega
        have hid5 : i < hd.size := by omega
        have hgd : markL[i]? = some hd[i] := by rw [← HDL.out]; exact take_get hid5
        have HGD := hid hgd
        clear hgd
        by_cases hc : x[i] = hd[i]
        · have hc' : (x[i].toNat : Int) = (hd[i].toNat : Int) := by rw [hc]
          have h6 : ((i : Int) == 5) = false := by rw [beq_eq_false_iff_ne]; omega
          go_wp2_with fail
          go_quiet (fail)
          go_wp2
          go_round
          case rel => exact ⟨i + 1, by simp, by omega, by omega, HAR.out, below_dn HBE.out _, HSZ.out, fun j y hj hy => by
            by_cases e : j = i
            · subst e
              rw [HG.out] at hy
              obtain rfl := Option.some.inj hy
              exact ⟨fun _ => by rw [HGD.out, hc], fun h => by omega⟩
            · exact HMK.out j y (by omega) hy⟩
          case measure => simp [intOf]; omega
        · have hc' : ((x[i].toNat : Int) == (hd[i].toNat : Int)) = false := by
            rw [beq_eq_false_iff_ne]
            intro h
            exact hc (UInt8.toNat_inj.1 (by omega))
          have hc2 : ((x[i].toNat : Int) != (hd[i].toNat : Int)) = true := by rw [bne, hc']; rfl
          have hc3 : (x[i].toNat != hd[i].toNat) = true := by
            rw [bne_iff_ne]
            intro h
            exact hc (UInt8.toNat_inj.1 h)
          have hc4 : (x[i].toNat == hd[i].toNat) = false := by
            rw [beq_eq_false_iff_ne]
            intro h
            exact hc (UInt8.toNat_inj.1 h)
          obtain rfl : res = (6, none) := by
            rw [← HRES.out]
            exact box_err (box_bad HG.out (.inl ⟨h5, fun h => by rw [HGD.out] at h; exact hc (Option.some.inj h).symm⟩)) (by decide)
          go_wp2_with fail
          go_quiet (fail)
          have HAR2 : Hid (Arr (wr.drewN nq) b 39 (fndC 0 0 (.slice none 0 0) 0 0)) := HAR.out
          have HBE2 := hid (below_dn HBE.out nq)
          generalize wr.drewN nq = W2 at *
          obtain ⟨Z1, Z2, Z3, Z4, Z5, e1, e2, e3, e4, e5, x0, y0, x1, y1, x2, y2, x3, y3, x4, y4, HZ, HZB⟩ := found_steps (c0 := .int .i64 0) (c1 := .int .i64 0) (c2 := .slice none 0 0) (c3 := .int .i64 0) (c4 := .int .i64 0) HAR2.out HBE2.out (.int .i64 0) (.int .i64 0) (.slice none 0 0) (.int .i64 0) (.int .i64 6)
          go_wp2
          clear e1 e2 e3 e4 e5 x0 y0 x1 y1 x2 y2 x3 y3 x4 y4
          obtain ⟨z0, z1, z2, z3, z4⟩ := HZ.out
          refine bodyPost_ret (v := foundV 0 0 (.slice none 0 0) 0 6) ?_ rfl (FoundQ.bad HZB.out)
          simp [results, Tryz.results54, go_sem, foundV, z0, z1, z2, z3, z4]
      · obtain rfl : i = 5 := by omega
        have h1' : (5 : Int) < N := by omega
        have hix5 : 5 < x.size := hix
        by_cases hc : x[5].toNat ≤ 1
        · have hc' : decide (((1 : Int)) < (x[5].toNat : Int)) = false := by simp; omega
          have hc2 : decide (1 < x[5].toNat) = false := by simp; omega
          go_wp2_with fail
          go_quiet (fail)
          go_wp2
          go_round
          case rel => exact ⟨6, by simp, by omega, by omega, HAR.out, below_dn HBE.out _, HSZ.out, fun j y hj hy => by
            by_cases e : j = 5
            · subst e
              rw [HG.out] at hy
              obtain rfl := Option.some.inj hy
              exact ⟨fun h => by omega, fun _ => hc⟩
            · exact HMK.out j y (by omega) hy⟩
          case measure => simp [intOf]
        · have hc' : decide (((1 : Int)) < (x[5].toNat : Int)) = true := by simp; omega
          have hc2 : decide (1 < x[5].toNat) = true := by simp; omega
          obtain rfl : res = (6, none) := by
            rw [← HRES.out]
            exact box_err (box_bad HG.out (.inr ⟨rfl, by omega⟩)) (by decide)
          go_wp2_with fail
          go_quiet (fail)
          have HAR2 : Hid (Arr (wr.drewN nq) b 39 (fndC 0 0 (.slice none 0 0) 0 0)) := HAR.out
          have HBE2 := hid (below_dn HBE.out nq)
          generalize wr.drewN nq = W2 at *
          obtain ⟨Z1, Z2, Z3, Z4, Z5, e1, e2, e3, e4, e5, x0, y0, x1, y1, x2, y2, x3, y3, x4, y4, HZ, HZB⟩ := found_steps (c0 := .int .i64 0) (c1 := .int .i64 0) (c2 := .slice none 0 0) (c3 := .int .i64 0) (c4 := .int .i64 0) HAR2.out HBE2.out (.int .i64 0) (.int .i64 0) (.slice none 0 0) (.int .i64 0) (.int .i64 6)
          go_wp2
          clear e1 e2 e3 e4 e5 x0 y0 x1 y1 x2 y2 x3 y3 x4 y4
          obtain ⟨z0, z1, z2, z3, z4⟩ := HZ.out
          refine bodyPost_ret (v := foundV 0 0 (.slice none 0 0) 0 6) ?_ rfl (FoundQ.bad HZB.out)
          simp [results, Tryz.results54, go_sem, foundV, z0, z1, z2, z3, z4]
    · have hmark : markOk l := mark_of (fun j y hj hy => HMK.out j y (by
        have := (List.getElem?_eq_some_iff.1 hy).1
        have := HXL.out
        omega) hy)
      have HM := hid hmark
      clear hmark HMK HDL
      by_cases h14 : N < 14
      · have h14' : (N : Int) < 14 := by omega
        rcases (by omega : ¬ i < N ∨ (i < N ∧ i = 6)) with h | ⟨h, rfl⟩
        · have hlt' : ¬ (i : Int) < N := by omega
          obtain ⟨er, her⟩ : ∃ er, (if ended then 11 else 0 : Int) = er := ⟨_, rfl⟩
          have HUN := hid (unended_any wr ended)
          rw [her] at HUN
          obtain rfl : res = (er, none) := by rw [← HRES.out, ← her]; exact box_un (boxE_short HM.out (by rw [HXL.out]; exact h14)) (fun h => by have := h.1.len; have := HXL.out; omega) ended
          clear her
          go_wp2_with fail
          refine HUN.out.mono ?_
          rintro e W9 ⟨R9, C9, k9, ao9, n9, cap9, rfl, hW9, _⟩
          unfold foundV
          have HAR9 := hid (HAR.out.belowAll hW9)
          have HBE9 := hid (HBE.out.trans (hW9.mono (by have := HSZ.out; omega)))
          clear hW9 HUN
          obtain ⟨Z1, Z2, Z3, Z4, Z5, e1, e2, e3, e4, e5, x0, y0, x1, y1, x2, y2, x3, y3, x4, y4, HZ, HZB⟩ := found_steps (c0 := .int .i64 0) (c1 := .int .i64 0) (c2 := .slice none 0 0) (c3 := .int .i64 0) (c4 := .int .i64 0) HAR9.out HBE9.out (.int .i64 R9) (.int .i64 C9) (.slice ao9 n9 cap9) (.int .i64 k9) (.int .i64 er)
          go_wp2
          clear e1 e2 e3 e4 e5 x0 y0 x1 y1 x2 y2 x3 y3 x4 y4
          obtain ⟨z0, z1, z2, z3, z4⟩ := HZ.out
          refine bodyPost_ret (v := foundV R9 C9 (.slice ao9 n9 cap9) k9 er) ?_ rfl ⟨R9, C9, k9, ao9, n9, cap9, rfl, HZB.out, fun _ _ _ _ h => by cases h⟩
          simp [results, Tryz.results54, go_sem, foundV, z0, z1, z2, z3, z4]
        · have hlt' : (6 : Int) < N := by omega
          obtain ⟨er, her⟩ : ∃ er, (if ended then 11 else 0 : Int) = er := ⟨_, rfl⟩
          have HUN := hid (unended_any wr ended)
          rw [her] at HUN
          obtain rfl : res = (er, none) := by rw [← HRES.out, ← her]; exact box_un (boxE_short HM.out (by rw [HXL.out]; exact h14)) (fun h => by have := h.1.len; have := HXL.out; omega) ended
          clear her
          go_wp2_with fail
          refine HUN.out.mono ?_
          rintro e W9 ⟨R9, C9, k9, ao9, n9, cap9, rfl, hW9, _⟩
          unfold foundV
          have HAR9 := hid (HAR.out.belowAll hW9)
          have HBE9 := hid (HBE.out.trans (hW9.mono (by have := HSZ.out; omega)))
          clear hW9 HUN
          obtain ⟨Z1, Z2, Z3, Z4, Z5, e1, e2, e3, e4, e5, x0, y0, x1, y1, x2, y2, x3, y3, x4, y4, HZ, HZB⟩ := found_steps (c0 := .int .i64 0) (c1 := .int .i64 0) (c2 := .slice none 0 0) (c3 := .int .i64 0) (c4 := .int .i64 0) HAR9.out HBE9.out (.int .i64 R9) (.int .i64 C9) (.slice ao9 n9 cap9) (.int .i64 k9) (.int .i64 er)
          go_wp2
          clear e1 e2 e3 e4 e5 x0 y0 x1 y1 x2 y2 x3 y3 x4 y4
          obtain ⟨z0, z1, z2, z3, z4⟩ := HZ.out
          refine bodyPost_ret (v := foundV R9 C9 (.slice ao9 n9 cap9) k9 er) ?_ rfl ⟨R9, C9, k9, ao9, n9, cap9, rfl, HZB.out, fun _ _ _ _ h => by cases h⟩
          simp [results, Tryz.results54, go_sem, foundV, z0, z1, z2, z3, z4]
      · obtain rfl : i = 6 := by omega
        have hlt' : (6 : Int) < N := by omega
        have h14' : ¬ (N : Int) < 14 := by omega
        have hxs : x.size = N := hN
        obtain ⟨A, hA⟩ : ∃ A, valL ((l.drop 10).take 4) = A := ⟨_, rfl⟩
        obtain ⟨Sm, hSm⟩ : ∃ Sm, sumL (l.take 10) = Sm := ⟨_, rfl⟩
        have hSl := sumL_lt (l.take 10)
        have hh1 := fun w => HHI.out w 10 14 (by omega) (by omega) (by omega)
        have hh2 := fun w => HSU.out w 0 10 (by omega) (by omega) (by omega)
        simp only [show 14 - 10 = 4 by omega, show 10 - 0 = 10 by omega, List.drop_zero] at hh1 hh2
        rw [hA] at hh1
        rw [hSm] at hh2 hSl
        have HH1 := hid hh1
        have HH2 := hid hh2
        have HA := hid hA
        have HSm := hid hSm
        clear hh1 hh2 hA hSm
        by_cases hsum : A = Sm
        · have hs' : ((A : Int) != (Sm : Int)) = false := by rw [hsum]; simp
          have hs2 : ((A : Int) == (Sm : Int)) = true := by rw [hsum]; simp
          go_wp2_with fail
          go_quiet (first | (go_at_call 86; exact Calls.quiet_of_same (HH1.out _)) | (go_at_call 76; exact Calls.quiet_of_same (HH2.out _)))
          clear hs' hs2
          have HAR2 : Hid (Arr (wr.drewN nq) b 39 (fndC 0 0 (.slice none 0 0) 0 0)) := HAR.out
          have HBE2 := hid (below_dn HBE.out nq)
          have HSZ2 : Hid ((wr.drewN nq).heap.size = b + 1) := HSZ.out
          clear HAR HBE HSZ HH1 HH2
          generalize wr.drewN nq = W2 at *
          subst hsum
          have hg5 : l[5]? = some x[5] := by rw [← HL.out]; exact take_get (by omega)
          have hx5 := (HM.out 5 x[5] hg5).2 rfl
          obtain ⟨kd, hkd⟩ : ∃ kd, kindB l = kd := ⟨_, rfl⟩
          have hkd1 : (4 : Int) + (x[5].toNat : Int) = (kd : Int) := by rw [← hkd]; exact kindB_eq hg5 hx5
          have hkd2 : kd = 4 ∨ kd = 5 := by omega
          obtain ⟨R, hR⟩ : ∃ R, rowsB l = R := ⟨_, rfl⟩
          obtain ⟨C, hC⟩ : ∃ C, colsB l = C := ⟨_, rfl⟩
          have hRl : R < 65536 := by rw [← hR]; exact valL_two_lt _
          have hCl : C < 65536 := by rw [← hC]; exact valL_two_lt _
          have hhr := fun w => HHI.out w 6 8 (by omega) (by omega) (by omega)
          have hhc := fun w => HHI.out w 8 10 (by omega) (by omega) (by omega)
          have eR : valL ((l.drop 6).take (8 - 6)) = R := hR
          have eC : valL ((l.drop 8).take (10 - 8)) = C := hC
          rw [eR] at hhr
          rw [eC] at hhc
          have HHR := hid hhr
          have HHC := hid hhc
          have HKD := hid hkd
          have HR := hid hR
          have HC := hid hC
          have hx10 : 10 ≤ x.size := by omega
          clear hhr hhc hkd hR hC eR eC hg5
          go_wp2_with fail
          have hwx : IntKind.i64.wrap (x[5].toNat : Int) = (x[5].toNat : Int) := by rw [IntKind.wrap_i64]; omega
          have hwk : IntKind.i64.wrap (kd : Int) = (kd : Int) := by rw [IntKind.wrap_i64]; omega
          have hwR : IntKind.i64.wrap (R : Int) = (R : Int) := by rw [IntKind.wrap_i64]; omega
          have hwC : IntKind.i64.wrap (C : Int) = (C : Int) := by rw [IntKind.wrap_i64]; omega
          have hN5 : (5 : Int) < N := by omega
          have hN8 : (8 : Int) ≤ N := by omega
          have hN10 : (10 : Int) ≤ N := by omega
          go_cut [7] from 59 to 72 (fun t wx => t = .pointer (some ⟨b + 1, 0, none⟩) ∧ Hid (Arr wx (b + 1) 39 (fndC R C (.slice none 0 0) kd 0)) ∧ Hid (Arr wx b 39 (fndC 0 0 (.slice none 0 0) 0 0)) ∧ Hid (Below b w wx) ∧ Hid (wx.heap.size = b + 2))
          case first =>
            refine wp_region_held (S := fun _ => True) hmix ?_
            change wpAnyH _ _ _ _ _ _ _ _ W2.drew
            have HAR3 : Hid (Arr W2.drew b 39 (fndC 0 0 (.slice none 0 0) 0 0)) := HAR2.out
            have HBE3 : Hid (Below b w W2.drew) := below_dn HBE2.out 1
            have hsz3 : W2.drew.heap.size = b + 1 := HSZ2.out
            clear HAR2 HBE2 HSZ2
            generalize W2.drew = W3 at *
            have hT : True := trivial
            refine wpAnyH_take (i := 0) (v := .string x) rfl (by kernel_rfl) (by kernel_rfl) (by kernel_rfl) (fun _ _ _ h => h) (Or.inl ⟨by rfl, fun W' hS => ?_⟩) hT ?_
            · clear hS
              go_simp
            simp only [Act.put]
            refine wpAnyH_take (i := 1) (v := .int .u8 (x[5].toNat : Int)) rfl (by kernel_rfl) (by kernel_rfl) (by kernel_rfl) (fun _ _ _ h => h) (Or.inl ⟨by rfl, fun W' hS => ?_⟩) hT ?_
            · clear hS
              go_simp
            simp only [Act.put]
            refine wpAnyH_take (i := 2) (v := .int .i64 (x[5].toNat : Int)) rfl (by kernel_rfl) (by kernel_rfl) (by kernel_rfl) (fun _ _ _ h => h) (Or.inl ⟨by rfl, fun W' hS => ?_⟩) hT ?_
            · clear hS
              go_simp
            simp only [Act.put]
            refine wpAnyH_take (i := 3) (v := .int .i64 (kd : Int)) rfl (by kernel_rfl) (by kernel_rfl) (by kernel_rfl) (fun _ _ _ h => h) (Or.inl ⟨by rfl, fun W' hS => ?_⟩) hT ?_
            · clear hS
              go_simp
            simp only [Act.put]
            refine wpAnyH_take (i := 4) (v := .string x) rfl (by kernel_rfl) (by kernel_rfl) (by kernel_rfl) (fun _ _ _ h => h) (Or.inl ⟨by rfl, fun W' hS => ?_⟩) hT ?_
            · clear hS
              go_simp
            simp only [Act.put]
            refine wpAnyH_take (i := 5) (v := .string (x.extract 6 8)) rfl (by kernel_rfl) (by kernel_rfl) (by kernel_rfl) (fun _ _ _ h => h) (Or.inl ⟨by rfl, fun W' hS => ?_⟩) hT ?_
            · clear hS
              go_simp
            simp only [Act.put]
            refine wpAnyH_take (i := 8) (v := .string x) rfl (by kernel_rfl) (by kernel_rfl) (by kernel_rfl) (fun _ _ _ h => h) (Or.inl ⟨by rfl, fun W' hS => ?_⟩) hT ?_
            · clear hS
              go_simp
            simp only [Act.put]
            refine wpAnyH_take (i := 9) (v := .string (x.extract 8 10)) rfl (by kernel_rfl) (by kernel_rfl) (by kernel_rfl) (fun _ _ _ h => h) (Or.inl ⟨by rfl, fun W' hS => ?_⟩) hT ?_
            · clear hS
              go_simp
            simp only [Act.put]
            refine wpAnyH_ready (rs := [6, 14]) (by kernel_rfl) (by simp) ?_
            refine AllReadyH.cons rfl (fun K hKK => ?_) (AllReadyH.cons rfl (fun K hKK => ?_) AllReadyH.nil)
            · go_simp
              refine (HHR.out _).mono ?_
              rintro e W4 ⟨rfl, hW4⟩
              subst hW4
              refine hKK.out _ _ hT (fun hHeld => ?_)
              clear hKK hHeld
              refine wpAnyH_take (i := 7) (v := .int .i64 (R : Int)) rfl (by kernel_rfl) (by kernel_rfl) (by kernel_rfl) (fun _ _ _ h => h) (Or.inl ⟨by rfl, fun W' hS => ?_⟩) hT ?_
              · clear hS
                go_simp
              simp only [Act.put]
              refine wpAnyH_ready (rs := [10, 14]) (by kernel_rfl) (by simp) ?_
              refine AllReadyH.cons rfl (fun K hKK => ?_) (AllReadyH.cons rfl (fun K hKK => ?_) AllReadyH.nil)
              · go_simp
                refine (HHC.out _).mono ?_
                rintro e W4 ⟨rfl, hW4⟩
                subst hW4
                refine hKK.out _ _ hT (fun hHeld => ?_)
                clear hKK hHeld
                refine wpAnyH_take (i := 11) (v := .int .i64 (C : Int)) rfl (by kernel_rfl) (by kernel_rfl) (by kernel_rfl) (fun _ _ _ h => h) (Or.inl ⟨by rfl, fun W' hS => ?_⟩) hT ?_
                · clear hS
                  go_simp
                simp only [Act.put]
                refine wpAnyH_take (i := 12) (v := .agg #[.int .i64 (R : Int), .int .i64 (C : Int), .slice none 0 0]) rfl (by kernel_rfl) (by kernel_rfl) (by kernel_rfl) (fun _ _ _ h => h) (Or.inl ⟨by rfl, fun W' hS => ?_⟩) hT ?_
                · clear hS
                  go_simp
                simp only [Act.put]
                refine wpAnyH_take (i := 13) (v := .agg #[.int .i64 (R : Int), .int .i64 (C : Int), .slice none 0 0, .int .i64 (kd : Int), .int .i64 0]) rfl (by kernel_rfl) (by kernel_rfl) (by kernel_rfl) (fun _ _ _ h => h) (Or.inl ⟨by rfl, fun W' hS => ?_⟩) hT ?_
                · clear hS
                  go_simp
                simp only [Act.put]
                refine wpAnyH_ready (rs := [14]) (by kernel_rfl) (by simp) ?_
                refine AllReadyH.cons rfl (fun K hKK => ?_) AllReadyH.nil
                go_simp
                refine hKK.out _ _ hT (fun hHeld => ?_)
                clear hKK hHeld
                refine wpAnyH_ready (rs := [15]) (by kernel_rfl) (by simp) ?_
                refine AllReadyH.cons rfl (fun K hKK => ?_) AllReadyH.nil
                go_simp
                refine hKK.out _ _ hT (fun hHeld => ?_)
                clear hKK hHeld
                refine wpAnyH_done (by kernel_rfl) ?_ _
                go_wp2_with fail
                go_meet
                exact ⟨rfl, newFound hsz3 _ _, HAR3.out.alloc _, HBE3.out.alloc (by omega) _, by show _ = _; simp [hsz3]⟩
              · go_simp
                refine hKK.out _ _ hT (fun hHeld => ?_)
                clear hKK hHeld
                refine wpAnyH_ready (rs := [10]) (by kernel_rfl) (by simp) ?_
                refine AllReadyH.cons rfl (fun K hKK => ?_) AllReadyH.nil
                go_simp
                refine (HHC.out _).mono ?_
                rintro e W4 ⟨rfl, hW4⟩
                subst hW4
                refine hKK.out _ _ hT (fun hHeld => ?_)
                clear hKK hHeld
                refine wpAnyH_take (i := 11) (v := .int .i64 (C : Int)) rfl (by kernel_rfl) (by kernel_rfl) (by kernel_rfl) (fun _ _ _ h => h) (Or.inl ⟨by rfl, fun W' hS => ?_⟩) hT ?_
                · clear hS
                  go_simp
                simp only [Act.put]
                refine wpAnyH_take (i := 12) (v := .agg #[.int .i64 (R : Int), .int .i64 (C : Int), .slice none 0 0]) rfl (by kernel_rfl) (by kernel_rfl) (by kernel_rfl) (fun _ _ _ h => h) (Or.inl ⟨by rfl, fun W' hS => ?_⟩) hT ?_
                · clear hS
                  go_simp
                simp only [Act.put]
                refine wpAnyH_take (i := 13) (v := .agg #[.int .i64 (R : Int), .int .i64 (C : Int), .slice none 0 0, .int .i64 (kd : Int), .int .i64 0]) rfl (by kernel_rfl) (by kernel_rfl) (by kernel_rfl) (fun _ _ _ h => h) (Or.inl ⟨by rfl, fun W' hS => ?_⟩) hT ?_
                · clear hS
                  go_simp
                simp only [Act.put]
                refine wpAnyH_ready (rs := [15]) (by kernel_rfl) (by simp) ?_
                refine AllReadyH.cons rfl (fun K hKK => ?_) AllReadyH.nil
                go_simp
                refine hKK.out _ _ hT (fun hHeld => ?_)
                clear hKK hHeld
                refine wpAnyH_done (by kernel_rfl) ?_ _
                go_wp2_with fail
                go_meet
                exact ⟨rfl, newFound hsz3 _ _, HAR3.out.alloc _, HBE3.out.alloc (by omega) _, by show _ = _; simp [hsz3]⟩
            · go_simp
              refine hKK.out _ _ hT (fun hHeld => ?_)
              clear hKK hHeld
              refine wpAnyH_ready (rs := [6]) (by kernel_rfl) (by simp) ?_
              refine AllReadyH.cons rfl (fun K hKK => ?_) AllReadyH.nil
              go_simp
              refine (HHR.out _).mono ?_
              rintro e W4 ⟨rfl, hW4⟩
              subst hW4
              refine hKK.out _ _ hT (fun hHeld => ?_)
              clear hKK hHeld
              refine wpAnyH_take (i := 7) (v := .int .i64 (R : Int)) rfl (by kernel_rfl) (by kernel_rfl) (by kernel_rfl) (fun _ _ _ h => h) (Or.inl ⟨by rfl, fun W' hS => ?_⟩) hT ?_
              · clear hS
                go_simp
              simp only [Act.put]
              refine wpAnyH_ready (rs := [10]) (by kernel_rfl) (by simp) ?_
              refine AllReadyH.cons rfl (fun K hKK => ?_) AllReadyH.nil
              go_simp
              refine (HHC.out _).mono ?_
              rintro e W4 ⟨rfl, hW4⟩
              subst hW4
              refine hKK.out _ _ hT (fun hHeld => ?_)
              clear hKK hHeld
              refine wpAnyH_take (i := 11) (v := .int .i64 (C : Int)) rfl (by kernel_rfl) (by kernel_rfl) (by kernel_rfl) (fun _ _ _ h => h) (Or.inl ⟨by rfl, fun W' hS => ?_⟩) hT ?_
              · clear hS
                go_simp
              simp only [Act.put]
              refine wpAnyH_take (i := 12) (v := .agg #[.int .i64 (R : Int), .int .i64 (C : Int), .slice none 0 0]) rfl (by kernel_rfl) (by kernel_rfl) (by kernel_rfl) (fun _ _ _ h => h) (Or.inl ⟨by rfl, fun W' hS => ?_⟩) hT ?_
              · clear hS
                go_simp
              simp only [Act.put]
              refine wpAnyH_take (i := 13) (v := .agg #[.int .i64 (R : Int), .int .i64 (C : Int), .slice none 0 0, .int .i64 (kd : Int), .int .i64 0]) rfl (by kernel_rfl) (by kernel_rfl) (by kernel_rfl) (fun _ _ _ h => h) (Or.inl ⟨by rfl, fun W' hS => ?_⟩) hT ?_
              · clear hS
                go_simp
              simp only [Act.put]
              refine wpAnyH_ready (rs := [15]) (by kernel_rfl) (by simp) ?_
              refine AllReadyH.cons rfl (fun K hKK => ?_) AllReadyH.nil
              go_simp
              refine hKK.out _ _ hT (fun hHeld => ?_)
              clear hKK hHeld
              refine wpAnyH_done (by kernel_rfl) ?_ _
              go_wp2_with fail
              go_meet
              exact ⟨rfl, newFound hsz3 _ _, HAR3.out.alloc _, HBE3.out.alloc (by omega) _, by show _ = _; simp [hsz3]⟩
          case rest =>
          obtain ⟨rfl, HF, HAR, HBE, HSZ⟩ := hcut
          clear HHR HHC hwx hwk hwR hwC hN5 hN8 hN10 hx5 hkd1
          have f0 := HF.out.cell (i := 0) rfl
          have f1 := HF.out.cell (i := 1) rfl
          have f3 := HF.out.cell (i := 3) rfl
          by_cases hbig : 40 < R ∨ 40 < C
          · obtain rfl : res = (8, none) := by
              rw [← HRES.out]
              exact box_err (boxE_3 HM.out (by rw [HXL.out]; omega) (by rw [HA.out, HSm.out]) (by rw [HR.out, HC.out]; exact hbig)) (by decide)
            by_cases hR40 : 40 < R
            · have t1 : decide ((40 : Int) < (R : Int)) = true := by simp; omega
              have t2 : decide (40 < R) = true := by simp; omega
              obtain ⟨Z1, Z2, Z3, Z4, Z5, e1, e2, e3, e4, e5, x0, y0, x1, y1, x2, y2, x3, y3, x4, y4, HZ, HZB⟩ := found_steps (c0 := .int .i64 0) (c1 := .int .i64 0) (c2 := .slice none 0 0) (c3 := .int .i64 0) (c4 := .int .i64 0) HAR.out HBE.out (.int .i64 0) (.int .i64 0) (.slice none 0 0) (.int .i64 0) (.int .i64 8)
              go_wp2
              clear e1 e2 e3 e4 e5 x0 y0 x1 y1 x2 y2 x3 y3 x4 y4
              obtain ⟨z0, z1, z2, z3, z4⟩ := HZ.out
              refine bodyPost_ret (v := foundV 0 0 (.slice none 0 0) 0 8) ?_ rfl (FoundQ.bad HZB.out)
              simp [results, Tryz.results54, go_sem, foundV, z0, z1, z2, z3, z4]
            · have t1 : decide ((40 : Int) < (R : Int)) = false := by simp; omega
              have t2 : decide (40 < R) = false := by simp; omega
              have t3 : decide ((40 : Int) < (C : Int)) = true := by simp; omega
              have t4 : decide (40 < C) = true := by simp; omega
              obtain ⟨Z1, Z2, Z3, Z4, Z5, e1, e2, e3, e4, e5, x0, y0, x1, y1, x2, y2, x3, y3, x4, y4, HZ, HZB⟩ := found_steps (c0 := .int .i64 0) (c1 := .int .i64 0) (c2 := .slice none 0 0) (c3 := .int .i64 0) (c4 := .int .i64 0) HAR.out HBE.out (.int .i64 0) (.int .i64 0) (.slice none 0 0) (.int .i64 0) (.int .i64 8)
              go_wp2
              clear e1 e2 e3 e4 e5 x0 y0 x1 y1 x2 y2 x3 y3 x4 y4
              obtain ⟨z0, z1, z2, z3, z4⟩ := HZ.out
              refine bodyPost_ret (v := foundV 0 0 (.slice none 0 0) 0 8) ?_ rfl (FoundQ.bad HZB.out)
              simp [results, Tryz.results54, go_sem, foundV, z0, z1, z2, z3, z4]
          · have hR40 : R ≤ 40 := by omega
            have hC40 : C ≤ 40 := by omega
            have t1 : decide ((40 : Int) < (R : Int)) = false := by simp; omega
            have t2 : decide (40 < R) = false := by simp; omega
            have t3 : decide ((40 : Int) < (C : Int)) = false := by simp; omega
            have t4 : decide (40 < C) = false := by simp; omega
            have hHead : HeadOk l := ⟨HM.out, by rw [HXL.out]; omega, by rw [HA.out, HSm.out], by rw [HR.out]; exact hR40, by rw [HC.out]; exact hC40⟩
            have HHEAD := hid hHead
            obtain ⟨M, hM⟩ : ∃ M, R * C = M := ⟨_, rfl⟩
            have hM16 : M ≤ 1600 := by rw [← hM]; exact Nat.mul_le_mul hR40 hC40
            have hMl : rowsB l * colsB l = M := by rw [HR.out, HC.out, hM]
            have hm1 : 8 * (R : Int) * (C : Int) = 8 * (M : Int) := by rw [Int.mul_assoc, ← hM]; simp
            obtain ⟨K, hK⟩ : ∃ K, 14 + 8 * M = K := ⟨_, rfl⟩
            have hK1 : (14 : Int) + 8 * (M : Int) = (K : Int) := by omega
            obtain ⟨K4, hK4⟩ : ∃ K4, K + 4 = K4 := ⟨_, rfl⟩
            have hK5 : (K : Int) + 4 = (K4 : Int) := by omega
            have HMM := hid hM
            have HML := hid hMl
            have HKK := hid hK
            have HK4 := hid hK4
            have hKb : K ≤ 12814 := by omega
            have hKa : 14 ≤ K := by omega
            clear hHead hM hMl hK hK4 hbig
            by_cases hsh : N < K4
            · have t5 : decide ((N : Int) < (K4 : Int)) = true := by simp; omega
              have t6 : decide (N < K4) = true := by simp; omega
              obtain ⟨er, her⟩ : ∃ er, (if ended then 11 else 0 : Int) = er := ⟨_, rfl⟩
              have HUN := hid (unended_any wc ended)
              rw [her] at HUN
              obtain rfl : res = (er, none) := by rw [← HRES.out, ← her]; exact box_un (boxE_4 HHEAD.out (by rw [HXL.out, HML.out]; have := HKK.out; have := HK4.out; omega)) (fun h => by have h2 := h.2; rw [HXL.out, HML.out] at h2; have := HKK.out; have := HK4.out; omega) ended
              clear her
              go_wp2_with fail
              refine HUN.out.mono ?_
              rintro e W9 ⟨R9, C9, k9, ao9, n9, cap9, rfl, hW9, _⟩
              unfold foundV
              have HAR9 := hid (HAR.out.belowAll hW9)
              have HBE9 := hid (HBE.out.trans (hW9.mono (by have := HSZ.out; omega)))
              clear hW9 HUN
              obtain ⟨Z1, Z2, Z3, Z4, Z5, e1, e2, e3, e4, e5, x0, y0, x1, y1, x2, y2, x3, y3, x4, y4, HZ, HZB⟩ := found_steps (c0 := .int .i64 0) (c1 := .int .i64 0) (c2 := .slice none 0 0) (c3 := .int .i64 0) (c4 := .int .i64 0) HAR9.out HBE9.out (.int .i64 R9) (.int .i64 C9) (.slice ao9 n9 cap9) (.int .i64 k9) (.int .i64 er)
              go_wp2
              clear e1 e2 e3 e4 e5 x0 y0 x1 y1 x2 y2 x3 y3 x4 y4
              obtain ⟨z0, z1, z2, z3, z4⟩ := HZ.out
              refine bodyPost_ret (v := foundV R9 C9 (.slice ao9 n9 cap9) k9 er) ?_ rfl ⟨R9, C9, k9, ao9, n9, cap9, rfl, HZB.out, fun _ _ _ _ h => by cases h⟩
              simp [results, Tryz.results54, go_sem, foundV, z0, z1, z2, z3, z4]
            · have t5 : decide ((N : Int) < (K4 : Int)) = false := by simp; omega
              have t6 : decide (N < K4) = false := by simp; omega
              have t7 : (K4 : Int) ≤ N := by omega
              have t8 : (K : Int) ≤ K4 := by have := HK4.out; omega
              have t9 : (K : Int) ≤ N := by have := HK4.out; omega
              have t10 : (14 : Int) ≤ K := by omega
              obtain ⟨A2, hA2⟩ : ∃ A2, valL ((l.drop K).take 4) = A2 := ⟨_, rfl⟩
              obtain ⟨S2, hS2⟩ : ∃ S2, sumL ((l.drop 14).take (K - 14)) = S2 := ⟨_, rfl⟩
              have hS2l := sumL_lt ((l.drop 14).take (K - 14))
              have hh1 := fun w => HHI.out w K K4 (by omega) (by have := HK4.out; omega) (by have := HK4.out; omega)
              have hh2 := fun w => HSU.out w 14 K (by omega) (by omega) (by omega)
              rw [show K4 - K = 4 by have := HK4.out; omega, hA2] at hh1
              rw [hS2] at hh2 hS2l
              have HH1 := hid hh1
              have HH2 := hid hh2
              have hA3 : valL ((l.drop (14 + 8 * (rowsB l * colsB l))).take 4) = A2 := by rw [HML.out, HKK.out]; exact hA2
              have hS3 : sumL ((l.drop 14).take (8 * (rowsB l * colsB l))) = S2 := by rw [HML.out, ← hS2]; congr 2; have := HKK.out; omega
              have HA2 := hid hA3
              have HS2 := hid hS3
              have hge : 18 + 8 * (rowsB l * colsB l) ≤ l.length := by rw [HXL.out, HML.out]; have := HKK.out; have := HK4.out; omega
              have HGE := hid hge
              clear hh1 hh2 hA2 hS2 hA3 hS3 hge
              by_cases hsum2 : A2 = S2
              · subst hsum2
                have q1 : ((A2 : Int) != (A2 : Int)) = false := by simp
                go_wp2_with fail
                go_quiet (first | (go_at_call 86; exact Calls.quiet_of_same (HH1.out _)) | (go_at_call 76; exact Calls.quiet_of_same (HH2.out _)))
                have HF2 : Hid (Arr (wc.drewN nq) (b + 1) 39 (fndC R C (.slice none 0 0) kd 0)) := HF.out
                have HAR2 : Hid (Arr (wc.drewN nq) b 39 (fndC 0 0 (.slice none 0 0) 0 0)) := HAR.out
                have HBE2 := hid (below_dn HBE.out nq)
                clear HF HAR HBE HSZ f0 f1 f3 HH1 HH2 q1 t1 t2 t3 t4 t5 t6 t8 t10 hm1
                generalize wc.drewN nq = W5 at *
                obtain ⟨G, hG⟩ : ∃ G, fB l = G := ⟨_, rfl⟩
                have HGG := hid hG
                clear hG
                go_wp2_with fail
                go_loopw [9] (fun vi wr => ∃ i : Nat, vi = .int .i64 (i : Int) ∧ i ≤ R ∧ Hid (BoxF b R C kd G (i * C) w wr) ∧ Hid (CanTo C G (i * C))) (fun vi _ => R - (intOf vi).toNat)
                case atStart =>
                  refine ⟨0, rfl, by omega, ?_, ?_⟩
                  · rw [Nat.zero_mul]; exact ⟨HAR2.out, ⟨.slice none 0 0, HF2.out, World.ownsRow_nil _ _ _ _⟩, HBE2.out⟩
                  · rw [Nat.zero_mul]; exact fun q h => by omega
                case round =>
                  clear HF2 HAR2 HBE2
                  obtain ⟨i, rfl, hi, HS, HCT⟩ := hrel
                  have k0 := HS.out.c0
                  by_cases hlt : i < R
                  · have hlt' : (i : Int) < R := by omega
                    go_wp2_with fail
                    go_loopw [10] (fun vj wx => ∃ j : Nat, vj = .int .i64 (j : Int) ∧ j ≤ C ∧ Hid (BoxF b R C kd G (i * C + j) w wx) ∧ Hid (CanTo C G (i * C + j))) (fun vj _ => C - (intOf vj).toNat)
                    case atStart => exact ⟨0, rfl, by omega, HS.out, HCT.out⟩
                    case round =>
                      clear k0 HS HCT
                      obtain ⟨j, rfl, hj, HS, HCT⟩ := hrel
                      have k0 := HS.out.c0
                      have k1 := HS.out.c1
                      by_cases hjt : j < C
                      · have hjt' : (j : Int) < C := by omega
                        obtain ⟨k9, hk9, hk9b, hk9c, hk9d, hk9e, hk9f⟩ := idx_int hR40 hC40 hlt hjt
                        obtain ⟨m9, hm9, hm9b, hm9c, hm9d, hm9e, hm9f⟩ := idx_int hC40 hR40 hjt hlt
                        have c3 := HS.out.c3
                        rcases hkd2 with h4 | h5
                        · have q45 : ((kd : Int) == 5) = false := by rw [beq_eq_false_iff_ne]; omega
                          have hkxM : k9 < M := by rw [← HMM.out]; exact hk9c
                          obtain ⟨X, hX⟩ : ∃ X, numB l k9 = X := ⟨_, rfl⟩
                          have hX64 : X < 18446744073709551616 := by rw [← hX]; exact numB_lt _ _
                          have hGX : G i j = X := by
                            rw [← HGG.out, ← hX]
                            unfold fB
                            rw [if_pos (by rw [HKD.out]; exact h4), HC.out, hk9b]
                          obtain ⟨a, ha⟩ : ∃ a, 14 + 8 * k9 = a := ⟨_, rfl⟩
                          obtain ⟨c, hc⟩ : ∃ c, 22 + 8 * k9 = c := ⟨_, rfl⟩
                          have ea : (14 : Int) + 8 * (k9 : Int) = (a : Int) := by omega
                          have ec : (22 : Int) + 8 * (k9 : Int) = (c : Int) := by omega
                          have hcN : c ≤ N := by have := HKK.out; omega
                          have ac1 : (a : Int) ≤ c := by omega
                          have ac2 : (c : Int) ≤ N := by omega
                          have hh := fun w => HHI.out w a c hcN (by omega) (by omega)
                          have eX : valL ((l.drop a).take (c - a)) = X := by rw [← hX, ← ha, ← hc]; unfold numB; congr 2; omega
                          rw [eX] at hh
                          have HH := hid hh
                          have HXX := hid hX
                          have HGX := hid hGX
                          clear hh eX hX hGX ha hc hk9b hk9c hk9d hm9 hm9b hm9c hm9d hm9e hm9f
                          go_wp2_with fail
                          refine (HH.out _).mono ?_
                          rintro e W6 ⟨rfl, e2⟩
                          subst W6
                          clear HH k0 k1 c3 ea ec ac1 ac2
                          obtain ⟨Y, hY⟩ : ∃ Y, canon X = Y := ⟨_, rfl⟩
                          have HCN := hid (refcanon_any wr X hX64)
                          rw [hY] at HCN
                          have HY := hid hY
                          clear hY
                          by_cases hXY : X = Y
                          · subst hXY
                            have q1 : ((X : Int) != (X : Int)) = false := by simp
                            obtain ⟨sl, hm, hown⟩ := HS.out.mat
                            have d2 := hm.cell (i := 2) rfl
                            have HM1 := hid hm
                            have HO1 := hid hown
                            have HR1 := hid HS.out.res
                            have HB1 := hid HS.out.bel
                            have z1 : b + 2 ≤ wr.heap.size := by have := hm.lt; omega
                            clear hm hown HS
                            generalize hKj : i * C + j = Kj at *
                            have HKJ := hid hKj
                            have hKj1 : Kj < 1600 := by have := idx_lt hlt hjt; have := Nat.mul_le_mul hR40 hC40; omega
                            clear hKj
                            go_wp2_with fail
                            refine HCN.out.mono ?_
                            rintro e W6 ⟨rfl, e2⟩
                            subst W6
                            clear HCN
                            go_wp2_with (at_builtin; refine wpList_append_own _ rfl _ _ 22 rfl (b + 2) 65 i0 (.int .u64 0) 1 8 Tryz.underlying22 HI.out hz0 hz1 hz2 rfl (by decide) _ _ _ rfl (HO1.out.alloc _) ⟨wr.heap.size, 0, none⟩ 1 1 [.int .u64 (X : Int)] rfl rfl ?c1 ?c2 ?c3 ?c4 ?c5 ?_)
                            case c1 => exact cell_one_new _ _ _
                            case c2 => intro u hu; simp at hu; subst hu; rfl
                            case c3 => unfold maxLen; omega
                            case c4 => omega
                            case c5 => simp; omega
                            · intro v' w2 hown' hgrow _
                              have b12 : Below (b + 2) wr w2 := ((Below.refl _ wr).alloc z1 _).grown hgrow (by simp; omega) (fun k hk => (HO1.out.lt k hk).1)
                              have HR2 := hid (HR1.out.below b12 (by omega))
                              have m2 := HM1.out.below b12 (by omega)
                              have HM2 := hid m2
                              have HB2 := hid (HB1.out.trans (b12.mono (by omega)))
                              obtain ⟨g', cap', rfl⟩ : ∃ g' cap', v' = .slice (some ⟨g', 0, none⟩) (Kj + 1) cap' := by
                                rcases hown'.2 with ⟨_, h3⟩ | ⟨g', cap', cur, e, _⟩
                                · omega
                                · exact ⟨g', cap', e⟩
                              have HO2 := hid hown'
                              have f2 := m2.frozen 2
                              have g2 := m2.cell (i := 2) rfl
                              clear b12 m2 hown' hgrow d2
                              go_wp2
                              go_round
                              case rel =>
                                have e1 : i * C + (j + 1) = Kj + 1 := by have := HKJ.out; omega
                                refine ⟨j + 1, by simp, by omega, ⟨HR2.out.other _ (by omega), ⟨.slice (some ⟨g', 0, none⟩) (Kj + 1) cap', HM2.out.set 2 _, ?_⟩, HB2.out.setCell (p := ⟨b + 1, 2, none⟩) (by show b ≤ b + 1; omega) _⟩, ?_⟩
                                · rw [e1]
                                  refine ownsRow_other ?_ (by omega) _
                                  have e2 : u64s (leadL C G (Kj + 1)) = u64s (leadL C G Kj) ++ [.int .u64 (X : Int)] := by rw [← HKJ.out, leadL_snoc G hjt, HGX.out]; simp [u64s]
                                  rw [e2]
                                  exact HO2.out
                                · rw [e1]
                                  intro q hq
                                  by_cases hqe : q = Kj
                                  · subst hqe
                                    have q1 : q / C = i := by rw [← HKJ.out, Nat.mul_comm, Nat.mul_add_div (by omega), Nat.div_eq_of_lt hjt]; omega
                                    have q2 : q % C = j := by rw [← HKJ.out, Nat.mul_comm, Nat.mul_add_mod, Nat.mod_eq_of_lt hjt]
                                    rw [q1, q2, HGX.out]; exact HY.out
                                  · exact HCT.out q (by omega)
                              case measure => simp [intOf]; omega
                          · have q1 : ((X : Int) != (Y : Int)) = true := by rw [bne_iff_ne]; omega
                            have q2 : ((X : Int) == (Y : Int)) = false := by rw [beq_eq_false_iff_ne]; omega
                            obtain rfl : res = (1, none) := by
                              rw [← HRES.out]
                              exact box_err (boxE_6 HHEAD.out HGE.out (by rw [HA2.out, HS2.out]) (k := k9) (by rw [HML.out]; exact hkxM) (by rw [HXX.out, HY.out]; exact fun h => hXY h.symm)) (by decide)
                            go_wp2_with fail
                            refine HCN.out.mono ?_
                            rintro e W6 ⟨rfl, e2⟩
                            subst W6
                            clear HCN
                            obtain ⟨Z1, Z2, Z3, Z4, Z5, e1, e2, e3, e4, e5, x0, y0, x1, y1, x2, y2, x3, y3, x4, y4, HZ, HZB⟩ := found_steps (c0 := .int .i64 0) (c1 := .int .i64 0) (c2 := .slice none 0 0) (c3 := .int .i64 0) (c4 := .int .i64 0) HS.out.res HS.out.bel (.int .i64 0) (.int .i64 0) (.slice none 0 0) (.int .i64 0) (.int .i64 1)
                            go_wp2
                            clear e1 e2 e3 e4 e5 x0 y0 x1 y1 x2 y2 x3 y3 x4 y4
                            obtain ⟨z0, z1, z2, z3, z4⟩ := HZ.out
                            refine bodyPost_ret (v := foundV 0 0 (.slice none 0 0) 0 1) ?_ rfl (FoundQ.bad HZB.out)
                            simp [results, Tryz.results54, go_sem, foundV, z0, z1, z2, z3, z4]
                        · have q45 : ((kd : Int) == 5) = true := by rw [beq_iff_eq]; omega
                          have hkxM : m9 < M := by rw [← HMM.out]; rw [Nat.mul_comm]; exact hm9c
                          obtain ⟨X, hX⟩ : ∃ X, numB l m9 = X := ⟨_, rfl⟩
                          have hX64 : X < 18446744073709551616 := by rw [← hX]; exact numB_lt _ _
                          have hGX : G i j = X := by
                            rw [← HGG.out, ← hX]
                            unfold fB
                            rw [if_neg (by rw [HKD.out]; omega), HR.out, hm9b]
                          obtain ⟨a, ha⟩ : ∃ a, 14 + 8 * m9 = a := ⟨_, rfl⟩
                          obtain ⟨c, hc⟩ : ∃ c, 22 + 8 * m9 = c := ⟨_, rfl⟩
                          have ea : (14 : Int) + 8 * (m9 : Int) = (a : Int) := by omega
                          have ec : (22 : Int) + 8 * (m9 : Int) = (c : Int) := by omega
                          have hcN : c ≤ N := by have := HKK.out; omega
                          have ac1 : (a : Int) ≤ c := by omega
                          have ac2 : (c : Int) ≤ N := by omega
                          have hh := fun w => HHI.out w a c hcN (by omega) (by omega)
                          have eX : valL ((l.drop a).take (c - a)) = X := by rw [← hX, ← ha, ← hc]; unfold numB; congr 2; omega
                          rw [eX] at hh
                          have HH := hid hh
                          have HXX := hid hX
                          have HGX := hid hGX
                          clear hh eX hX hGX ha hc hk9b hk9c hk9d hm9b hm9c hm9d
                          go_wp2_with fail
                          refine (HH.out _).mono ?_
                          rintro e W6 ⟨rfl, e2⟩
                          subst W6
                          clear HH k0 k1 c3 ea ec ac1 ac2
                          obtain ⟨Y, hY⟩ : ∃ Y, canon X = Y := ⟨_, rfl⟩
                          have HCN := hid (refcanon_any wr X hX64)
                          rw [hY] at HCN
                          have HY := hid hY
                          clear hY
                          by_cases hXY : X = Y
                          · subst hXY
                            have q1 : ((X : Int) != (X : Int)) = false := by simp
                            obtain ⟨sl, hm, hown⟩ := HS.out.mat
                            have d2 := hm.cell (i := 2) rfl
                            have HM1 := hid hm
                            have HO1 := hid hown
                            have HR1 := hid HS.out.res
                            have HB1 := hid HS.out.bel
                            have z1 : b + 2 ≤ wr.heap.size := by have := hm.lt; omega
                            clear hm hown HS
                            generalize hKj : i * C + j = Kj at *
                            have HKJ := hid hKj
                            have hKj1 : Kj < 1600 := by have := idx_lt hlt hjt; have := Nat.mul_le_mul hR40 hC40; omega
                            clear hKj
                            go_wp2_with fail
                            refine HCN.out.mono ?_
                            rintro e W6 ⟨rfl, e2⟩
                            subst W6
                            clear HCN
                            go_wp2_with (at_builtin; refine wpList_append_own _ rfl _ _ 22 rfl (b + 2) 65 i0 (.int .u64 0) 1 8 Tryz.underlying22 HI.out hz0 hz1 hz2 rfl (by decide) _ _ _ rfl (HO1.out.alloc _) ⟨wr.heap.size, 0, none⟩ 1 1 [.int .u64 (X : Int)] rfl rfl ?d1 ?d2 ?d3 ?d4 ?d5 ?_)
                            case d1 => exact cell_one_new _ _ _
                            case d2 => intro u hu; simp at hu; subst hu; rfl
                            case d3 => unfold maxLen; omega
                            case d4 => omega
                            case d5 => simp; omega
                            · intro v' w2 hown' hgrow _
                              have b12 : Below (b + 2) wr w2 := ((Below.refl _ wr).alloc z1 _).grown hgrow (by simp; omega) (fun k hk => (HO1.out.lt k hk).1)
                              have HR2 := hid (HR1.out.below b12 (by omega))
                              have m2 := HM1.out.below b12 (by omega)
                              have HM2 := hid m2
                              have HB2 := hid (HB1.out.trans (b12.mono (by omega)))
                              obtain ⟨g', cap', rfl⟩ : ∃ g' cap', v' = .slice (some ⟨g', 0, none⟩) (Kj + 1) cap' := by
                                rcases hown'.2 with ⟨_, h3⟩ | ⟨g', cap', cur, e, _⟩
                                · omega
                                · exact ⟨g', cap', e⟩
                              have HO2 := hid hown'
                              have f2 := m2.frozen 2
                              have g2 := m2.cell (i := 2) rfl
                              clear b12 m2 hown' hgrow d2
                              go_wp2
                              go_round
                              case rel =>
                                have e1 : i * C + (j + 1) = Kj + 1 := by have := HKJ.out; omega
                                refine ⟨j + 1, by simp, by omega, ⟨HR2.out.other _ (by omega), ⟨.slice (some ⟨g', 0, none⟩) (Kj + 1) cap', HM2.out.set 2 _, ?_⟩, HB2.out.setCell (p := ⟨b + 1, 2, none⟩) (by show b ≤ b + 1; omega) _⟩, ?_⟩
                                · rw [e1]
                                  refine ownsRow_other ?_ (by omega) _
                                  have e2 : u64s (leadL C G (Kj + 1)) = u64s (leadL C G Kj) ++ [.int .u64 (X : Int)] := by rw [← HKJ.out, leadL_snoc G hjt, HGX.out]; simp [u64s]
                                  rw [e2]
                                  exact HO2.out
                                · rw [e1]
                                  intro q hq
                                  by_cases hqe : q = Kj
                                  · subst hqe
                                    have q1 : q / C = i := by rw [← HKJ.out, Nat.mul_comm, Nat.mul_add_div (by omega), Nat.div_eq_of_lt hjt]; omega
                                    have q2 : q % C = j := by rw [← HKJ.out, Nat.mul_comm, Nat.mul_add_mod, Nat.mod_eq_of_lt hjt]
                                    rw [q1, q2, HGX.out]; exact HY.out
                                  · exact HCT.out q (by omega)
                              case measure => simp [intOf]; omega
                          · have q1 : ((X : Int) != (Y : Int)) = true := by rw [bne_iff_ne]; omega
                            have q2 : ((X : Int) == (Y : Int)) = false := by rw [beq_eq_false_iff_ne]; omega
                            obtain rfl : res = (1, none) := by
                              rw [← HRES.out]
                              exact box_err (boxE_6 HHEAD.out HGE.out (by rw [HA2.out, HS2.out]) (k := m9) (by rw [HML.out]; exact hkxM) (by rw [HXX.out, HY.out]; exact fun h => hXY h.symm)) (by decide)
                            go_wp2_with fail
                            refine HCN.out.mono ?_
                            rintro e W6 ⟨rfl, e2⟩
                            subst W6
                            clear HCN
                            obtain ⟨Z1, Z2, Z3, Z4, Z5, e1, e2, e3, e4, e5, x0, y0, x1, y1, x2, y2, x3, y3, x4, y4, HZ, HZB⟩ := found_steps (c0 := .int .i64 0) (c1 := .int .i64 0) (c2 := .slice none 0 0) (c3 := .int .i64 0) (c4 := .int .i64 0) HS.out.res HS.out.bel (.int .i64 0) (.int .i64 0) (.slice none 0 0) (.int .i64 0) (.int .i64 1)
                            go_wp2
                            clear e1 e2 e3 e4 e5 x0 y0 x1 y1 x2 y2 x3 y3 x4 y4
                            obtain ⟨z0, z1, z2, z3, z4⟩ := HZ.out
                            refine bodyPost_ret (v := foundV 0 0 (.slice none 0 0) 0 1) ?_ rfl (FoundQ.bad HZB.out)
                            simp [results, Tryz.results54, go_sem, foundV, z0, z1, z2, z3, z4]
                      · have hjt' : ¬ (j : Int) < C := by omega
                        obtain rfl : j = C := by omega
                        go_wp2
                        go_round
                        case rel => exact ⟨i + 1, by simp, by omega, by have := HS.out; rw [Nat.succ_mul]; exact this, by have := HCT.out; rw [Nat.succ_mul]; exact this⟩
                        case measure => simp [intOf]; omega
                  · have hlt' : ¬ (i : Int) < R := by omega
                    obtain rfl : i = R := by omega
                    have hcan := canon_all (l := l) (fun q hq => by
                      rw [HC.out, HGG.out]
                      exact HCT.out q (by rw [HR.out, HC.out] at hq; exact hq))
                    have HCAN := hid hcan
                    clear hcan HCT
                    by_cases hmore : K4 < N
                    · have t1 : decide ((K4 : Int) < (N : Int)) = true := by simp; omega
                      have t2 : decide (K4 < N) = true := by simp; omega
                      obtain rfl : res = (6, none) := by
                        rw [← HRES.out]
                        exact box_err (boxE_7 HHEAD.out (by rw [HA2.out, HS2.out]) HCAN.out (by rw [HXL.out, HML.out]; have := HKK.out; have := HK4.out; omega)) (by decide)
                      obtain ⟨Z1, Z2, Z3, Z4, Z5, e1, e2, e3, e4, e5, x0, y0, x1, y1, x2, y2, x3, y3, x4, y4, HZ, HZB⟩ := found_steps (c0 := .int .i64 0) (c1 := .int .i64 0) (c2 := .slice none 0 0) (c3 := .int .i64 0) (c4 := .int .i64 0) HS.out.res HS.out.bel (.int .i64 0) (.int .i64 0) (.slice none 0 0) (.int .i64 0) (.int .i64 6)
                      go_wp2
                      clear e1 e2 e3 e4 e5 x0 y0 x1 y1 x2 y2 x3 y3 x4 y4
                      obtain ⟨z0, z1, z2, z3, z4⟩ := HZ.out
                      refine bodyPost_ret (v := foundV 0 0 (.slice none 0 0) 0 6) ?_ rfl (FoundQ.bad HZB.out)
                      simp [results, Tryz.results54, go_sem, foundV, z0, z1, z2, z3, z4]
                    · have t1 : decide ((K4 : Int) < (N : Int)) = false := by simp; omega
                      have t2 : decide (K4 < N) = false := by simp; omega
                      have hlen : l.length = 18 + 8 * (rowsB l * colsB l) := by rw [HXL.out, HML.out]; have := HKK.out; have := HK4.out; omega
                      have hE0 := boxE_8 HHEAD.out (by rw [HA2.out, HS2.out]) HCAN.out hlen
                      have hres2 : res.1 = 0 ∧ ∀ k R' C' f, res.2 = some (k, R', C', f) → k = kd ∧ R' = i ∧ C' = C ∧ f = G := by
                        rw [← HRES.out]
                        cases ended
                        · rw [readR_un (q := (boxE l, FSt.box l)) hE0]; exact ⟨rfl, fun _ _ _ _ h => by cases h⟩
                        · have he : endF (.box l) = some (kindB l, rowsB l, colsB l, fB l) := by simp only [endF]; rw [if_pos ⟨HHEAD.out, hlen⟩]
                          rw [readR_some (q := (boxE l, FSt.box l)) hE0 he]
                          refine ⟨rfl, fun k R' C' f h => ?_⟩
                          simp only [Option.some.injEq, Prod.mk.injEq] at h
                          exact ⟨by rw [← h.1, HKD.out], by rw [← h.2.1, HR.out], by rw [← h.2.2.1, HC.out], by rw [← h.2.2.2, HGG.out]⟩
                      obtain ⟨r1, r2⟩ := res
                      obtain ⟨hr1, hr2⟩ := hres2
                      simp only at hr1 hr2
                      subst hr1
                      have HR2 := hid hr2
                      obtain ⟨sl, hm, hown⟩ := HS.out.mat
                      obtain ⟨ao, cap, rfl⟩ : ∃ ao cap, sl = .slice ao (i * C) cap := by
                        rcases hown.2 with ⟨e, h0⟩ | ⟨g, cap, cur, e, _⟩
                        · exact ⟨none, 0, by rw [e, h0]⟩
                        · exact ⟨_, cap, e⟩
                      have hbits : BitsUp b wr (.slice ao (i * C) cap) i C G := by
                        refine ⟨ao, cap, rfl, ?_⟩
                        by_cases h0 : i * C = 0
                        · exact .inl h0
                        · rcases hown.2 with ⟨_, h3⟩ | ⟨g, cap2, cur, e, hbg, hg, _⟩
                          · exact absurd h3 h0
                          · have e' := e
                            injection e' with e1 e2 e3
                            subst e1
                            refine .inr ⟨g, rfl, by omega, (Array.getElem?_eq_some_iff.1 hg).1, fun x y hx hy => ?_⟩
                            have hlt2 := idx_lt hx hy
                            have q1 : (x * C + y) / C = x := by rw [Nat.mul_comm, Nat.mul_add_div (by omega), Nat.div_eq_of_lt hy]; omega
                            have q2 : (x * C + y) % C = y := by rw [Nat.mul_comm, Nat.mul_add_mod, Nat.mod_eq_of_lt hy]
                            rw [hown.cellAt (x * C + y) (by omega)]
                            simp [u64s, leadL, hlt2, q1, q2]
                      have HBI := hid hbits
                      have d0 := hm.cell (i := 0) rfl
                      have d1 := hm.cell (i := 1) rfl
                      have d2 := hm.cell (i := 2) rfl
                      have d3 := hm.cell (i := 3) rfl
                      have d4 := hm.cell (i := 4) rfl
                      generalize i * C = NN at *
                      clear hm hown hr2 hlen hE0 hbits HRES k0
                      obtain ⟨Z1, Z2, Z3, Z4, Z5, e1, e2, e3, e4, e5, x0, y0, x1, y1, x2, y2, x3, y3, x4, y4, HZ, HZB⟩ := found_steps (c0 := .int .i64 0) (c1 := .int .i64 0) (c2 := .slice none 0 0) (c3 := .int .i64 0) (c4 := .int .i64 0) HS.out.res HS.out.bel (.int .i64 (i : Int)) (.int .i64 (C : Int)) (.slice ao NN cap) (.int .i64 (kd : Int)) (.int .i64 0)
                      have HFW : Hid (BitsIs b Z5 (.slice ao NN cap) i C G) := by
                        subst e1; subst e2; subst e3; subst e4; subst e5
                        exact BitsIs.mono (B := b + 1) (((((BitsUp.store (b := b) HBI.out _ _).store _ _).store _ _).store _ _).store _ _) (by omega)
                      go_wp2
                      clear e1 e2 e3 e4 e5 x0 y0 x1 y1 x2 y2 x3 y3 x4 y4
                      obtain ⟨z0, z1, z2, z3, z4⟩ := HZ.out
                      refine bodyPost_ret (v := foundV (i : Int) (C : Int) (.slice ao NN cap) (kd : Int) 0) ?_ rfl ⟨i, C, kd, ao, NN, cap, rfl, HZB.out, fun k R' C' f h => ?_⟩
                      · simp [results, Tryz.results54, go_sem, foundV, z0, z1, z2, z3, z4]
                      · obtain ⟨rfl, rfl, rfl, rfl⟩ := HR2.out k R' C' f h
                        exact ⟨rfl, rfl, rfl, by omega, hR40, hC40, HFW.out⟩
              · have q1 : ((A2 : Int) != (S2 : Int)) = true := by rw [bne_iff_ne]; omega
                have q2 : ((A2 : Int) == (S2 : Int)) = false := by rw [beq_eq_false_iff_ne]; omega
                obtain rfl : res = (12, none) := by
                  rw [← HRES.out]
                  exact box_err (boxE_5 HHEAD.out HGE.out (by rw [HA2.out, HS2.out]; exact hsum2)) (by decide)
                go_wp2_with fail
                go_quiet (first | (go_at_call 86; exact Calls.quiet_of_same (HH1.out _)) | (go_at_call 76; exact Calls.quiet_of_same (HH2.out _)))
                have HAR2 : Hid (Arr (wc.drewN nq) b 39 (fndC 0 0 (.slice none 0 0) 0 0)) := HAR.out
                have HBE2 := hid (below_dn HBE.out nq)
                clear f0 f1 f3
                generalize wc.drewN nq = W5 at *
                obtain ⟨Z1, Z2, Z3, Z4, Z5, e1, e2, e3, e4, e5, x0, y0, x1, y1, x2, y2, x3, y3, x4, y4, HZ, HZB⟩ := found_steps (c0 := .int .i64 0) (c1 := .int .i64 0) (c2 := .slice none 0 0) (c3 := .int .i64 0) (c4 := .int .i64 0) HAR2.out HBE2.out (.int .i64 0) (.int .i64 0) (.slice none 0 0) (.int .i64 0) (.int .i64 12)
                go_wp2
                clear e1 e2 e3 e4 e5 x0 y0 x1 y1 x2 y2 x3 y3 x4 y4
                obtain ⟨z0, z1, z2, z3, z4⟩ := HZ.out
                refine bodyPost_ret (v := foundV 0 0 (.slice none 0 0) 0 12) ?_ rfl (FoundQ.bad HZB.out)
                simp [results, Tryz.results54, go_sem, foundV, z0, z1, z2, z3, z4]
        · have hs' : ((A : Int) != (Sm : Int)) = true := by rw [bne_iff_ne]; omega
          have hs2 : ((A : Int) == (Sm : Int)) = false := by rw [beq_eq_false_iff_ne]; omega
          obtain rfl : res = (12, none) := by
            rw [← HRES.out]
            exact box_err (boxE_2 HM.out (by rw [HXL.out]; omega) (by rw [HA.out, HSm.out]; exact hsum)) (by decide)
          go_wp2_with fail
          go_quiet (first | (go_at_call 86; exact Calls.quiet_of_same (HH1.out _)) | (go_at_call 76; exact Calls.quiet_of_same (HH2.out _)))
          have HAR2 : Hid (Arr (wr.drewN nq) b 39 (fndC 0 0 (.slice none 0 0) 0 0)) := HAR.out
          have HBE2 := hid (below_dn HBE.out nq)
          generalize wr.drewN nq = W2 at *
          obtain ⟨Z1, Z2, Z3, Z4, Z5, e1, e2, e3, e4, e5, x0, y0, x1, y1, x2, y2, x3, y3, x4, y4, HZ, HZB⟩ := found_steps (c0 := .int .i64 0) (c1 := .int .i64 0) (c2 := .slice none 0 0) (c3 := .int .i64 0) (c4 := .int .i64 0) HAR2.out HBE2.out (.int .i64 0) (.int .i64 0) (.slice none 0 0) (.int .i64 0) (.int .i64 12)
          go_wp2
          clear e1 e2 e3 e4 e5 x0 y0 x1 y1 x2 y2 x3 y3 x4 y4
          obtain ⟨z0, z1, z2, z3, z4⟩ := HZ.out
          refine bodyPost_ret (v := foundV 0 0 (.slice none 0 0) 0 12) ?_ rfl (FoundQ.bad HZB.out)
          simp [results, Tryz.results54, go_sem, foundV, z0, z1, z2, z3, z4]
end Go.Proofs.YthdcceackfdbbaaGreatDoor
