import Derived.Test.YthdcceackfdbbaaGreatDoorIqQR
import Derived.Test.YthdcceackfdbbaaGreatDoorM17R
import Derived.Test.YthdcceackfdbbaaGreatDoorRsQR
import Derived.Test.YthdcceackfdbbaaGreatDoorM10R
import Derived.Test.YthdcceackfdbbaaGreatDoorM29R
import Derived.Test.YthdcceackfdbbaaGreatDoorM09R
import Derived.Test.YthdcceackfdbbaaGreatDoorM28R
import Derived.Test.YthdcceackfdbbaaGreatDoorM07R
import Derived.Test.YthdcceackfdbbaaGreatDoorShelf2QR
import Derived.Lib.ConvBytes
import Derived.LoopTactic
import Derived.Deep.RegionHeld
import Derived.Laws.CopyOwn
import Derived.Deep.QuietTactic
namespace Go.Proofs.YthdcceackfdbbaaGreatDoor
open Go Go.RowKit
noncomputable def readF (l : List UInt8) (ended : Bool) : Int × Option (Nat × Nat × Nat × (Nat → Nat → Nat)) :=
  match l with
  | [] => if ended then (6, none) else (0, none)
  | b :: r => match fileS b with
    | some s => readR (bytesF s (b :: r)) ended
    | none => (6, none)
theorem readF_un (l : List UInt8) : (readF l false).1 = (feedS .begin l).1 := by
  cases l with
  | nil => rfl
  | cons b r =>
    simp only [readF, feedS]
    cases fileS b with
    | none => rfl
    | some s =>
      simp only
      unfold filR
      by_cases h : (bytesF s (b :: r)).1 = 0
      · rw [readR_un h, if_pos h]
      · rw [readR_err rfl h, if_neg h]
theorem readF_end {l : List UInt8} (h : (feedS .begin l).1 = 0) :
    (∃ e, readF l true = (e, none) ∧ e ≠ 0 ∧ endS (feedS .begin l).2 = ((0, 0, 0), e, .failed e)) ∨
    (∃ k R C f, readF l true = (0, some (k, R, C, f)) ∧ endS (feedS .begin l).2 = ((R, C, k), 0, .ended k R C f)) := by
  cases l with
  | nil => exact .inl ⟨6, rfl, by decide, rfl⟩
  | cons b r =>
    simp only [readF, feedS] at h ⊢
    cases hs : fileS b with
    | none => rw [hs] at h; cases h
    | some s =>
      rw [hs] at h
      simp only at h ⊢
      have h0 : (bytesF s (b :: r)).1 = 0 := by
        unfold filR at h
        split at h
        · assumption
        · exact h
      have e2 : (filR (bytesF s (b :: r))).2 = .file (bytesF s (b :: r)).2 := by unfold filR; rw [if_pos h0]
      rw [e2]
      simp only [endS]
      cases he : endF (bytesF s (b :: r)).2 with
      | none => exact .inl ⟨11, readR_none h0 he, by decide, rfl⟩
      | some y => obtain ⟨k, R, C, f⟩ := y; exact .inr ⟨k, R, C, f, readR_some h0 he, rfl⟩
set_option maxRecDepth 20000 in
set_option maxHeartbeats 2000000 in
theorem rread_any (w : World) (x : ByteArray) (hx : x.size ≤ 20000000000000) (ended : Bool) :
    Calls Tryz.prog 33 #[.string x, .bool ended] w fun e w' => FoundQ w.heap.size w (readF x.data.toList ended) e w' := by
  obtain ⟨b, hb⟩ : ∃ b, w.heap.size = b := ⟨_, rfl⟩
  rw [hb]
  have HAR : Hid (Arr (w.alloc (.cells #[.int .i64 0, .int .i64 0, .slice none 0 0, .int .i64 0, .int .i64 0] 39)) b 39 (fndC 0 0 (.slice none 0 0) 0 0)) := by rw [← hb]; exact Arr.newL w _ _
  have HBE : Hid (Below b w (w.alloc (.cells #[.int .i64 0, .int .i64 0, .slice none 0 0, .int .i64 0, .int .i64 0] 39))) := by rw [← hb]; exact Below.refl' _ _
  have hs1 : (w.alloc (.cells #[.int .i64 0, .int .i64 0, .slice none 0 0, .int .i64 0, .int .i64 0] 39)).heap.size = b + 1 := by simp [hb]
  have hs := bytes_size (s := x) rfl
  obtain ⟨res, hres⟩ : ∃ res, readF x.data.toList ended = res := ⟨_, rfl⟩
  rw [hres]
  cases hl : x.data.toList with
  | nil =>
    obtain rfl : x = ⟨#[]⟩ := nil_of hl
    rw [hl] at hres
    clear hl hs
    cases ended
    · obtain rfl : res = (0, none) := hres.symm
      clear hres
      go_enter Tryz.func33, Tryz.ntmps33
      obtain ⟨Z1, Z2, Z3, Z4, Z5, e1, e2, e3, e4, e5, x0, y0, x1, y1, x2, y2, x3, y3, x4, y4, HZ, HZB⟩ := found_steps (c0 := .int .i64 0) (c1 := .int .i64 0) (c2 := .slice none 0 0) (c3 := .int .i64 0) (c4 := .int .i64 0) HAR.out HBE.out (.int .i64 0) (.int .i64 0) (.slice none 0 0) (.int .i64 0) (.int .i64 0)
      go_wp2
      clear e1 e2 e3 e4 e5 x0 y0 x1 y1 x2 y2 x3 y3 x4 y4
      obtain ⟨z0, z1, z2, z3, z4⟩ := HZ.out
      refine bodyPost_ret (v := foundV 0 0 (.slice none 0 0) 0 0) ?_ rfl (FoundQ.bad HZB.out)
      simp [results, Tryz.results33, go_sem, foundV, z0, z1, z2, z3, z4]
    · obtain rfl : res = (6, none) := hres.symm
      clear hres
      go_enter Tryz.func33, Tryz.ntmps33
      obtain ⟨Z1, Z2, Z3, Z4, Z5, e1, e2, e3, e4, e5, x0, y0, x1, y1, x2, y2, x3, y3, x4, y4, HZ, HZB⟩ := found_steps (c0 := .int .i64 0) (c1 := .int .i64 0) (c2 := .slice none 0 0) (c3 := .int .i64 0) (c4 := .int .i64 0) HAR.out HBE.out (.int .i64 0) (.int .i64 0) (.slice none 0 0) (.int .i64 0) (.int .i64 6)
      go_wp2
      clear e1 e2 e3 e4 e5 x0 y0 x1 y1 x2 y2 x3 y3 x4 y4
      obtain ⟨z0, z1, z2, z3, z4⟩ := HZ.out
      refine bodyPost_ret (v := foundV 0 0 (.slice none 0 0) 0 6) ?_ rfl (FoundQ.bad HZB.out)
      simp [results, Tryz.results33, go_sem, foundV, z0, z1, z2, z3, z4]
  | cons c r =>
    have hx0 : 0 < x.size := by rw [hs, hl]; simp
    have hb0 : x[0] = c := by
      have := take_get hx0
      rw [hl] at this
      simpa using this.symm
    have hne : x.toList.isEmpty = false := by rw [bytes_toList, hl]; rfl
    have hne2 : (x.toList == []) = false := by rw [bytes_toList, hl]; rfl
    by_cases h37 : c = 37
    · have hR : readR (bytesF (.text .first []) x.data.toList) ended = res := by rw [← hres]; unfold readF; rw [hl, h37]; rfl
      clear hres
      have HLN := hid (lined_any (w.alloc (.cells #[.int .i64 0, .int .i64 0, .slice none 0 0, .int .i64 0, .int .i64 0] 39)) x x.size rfl hx (by rw [hl, h37]; rfl) ended)
      rw [hR] at HLN
      have hi : (x[0].toNat : Int) = 37 := by rw [hb0, h37]; rfl
      have hi2 : ((x[0].toNat : Int) == 37) = true := by rw [hi]; rfl
      clear hl hs hb0 hR
      go_enter Tryz.func33, Tryz.ntmps33
      go_wp2_with fail
      refine HLN.out.mono ?_
      rintro e W1 ⟨R9, C9, k9, ao9, n9, cap9, rfl, hW1, hf⟩
      rw [hs1] at hW1 hf
      have HAR1 := hid (HAR.out.below hW1 (by omega))
      have HBE1 := hid (HBE.out.trans (hW1.mono (by omega)))
      have HFF := hid hf
      clear hW1 hf HLN HAR HBE
      unfold foundV
      obtain ⟨r1, r2⟩ := res
      simp only at HFF
      simp only
      obtain ⟨Z1, Z2, Z3, Z4, Z5, e1, e2, e3, e4, e5, x0, y0, x1, y1, x2, y2, x3, y3, x4, y4, HZ, HZB⟩ := found_steps (c0 := .int .i64 0) (c1 := .int .i64 0) (c2 := .slice none 0 0) (c3 := .int .i64 0) (c4 := .int .i64 0) HAR1.out HBE1.out (.int .i64 R9) (.int .i64 C9) (.slice ao9 n9 cap9) (.int .i64 k9) (.int .i64 r1)
      have HFW : Hid (∀ k R' C' f, r2 = some (k, R', C', f) → R9 = R' ∧ C9 = C' ∧ k9 = k ∧ k ≤ 5 ∧ R' ≤ 40 ∧ C' ≤ 40 ∧ BitsIs b Z5 (.slice ao9 n9 cap9) R' C' f) := fun k R' C' f h => by
        obtain ⟨g1, g2, g3, g4, g5, g6, g7⟩ := HFF.out k R' C' f h
        refine ⟨g1, g2, g3, g4, g5, g6, ?_⟩
        subst e1; subst e2; subst e3; subst e4; subst e5
        exact BitsIs.mono (B := b + 1) (((((BitsUp.store (b := b) g7 _ _).store _ _).store _ _).store _ _).store _ _) (by omega)
      clear HFF
      go_wp2
      clear e1 e2 e3 e4 e5 x0 y0 x1 y1 x2 y2 x3 y3 x4 y4
      obtain ⟨z0, z1, z2, z3, z4⟩ := HZ.out
      refine bodyPost_ret (v := foundV R9 C9 (.slice ao9 n9 cap9) k9 r1) ?_ rfl ⟨R9, C9, k9, ao9, n9, cap9, rfl, HZB.out, HFW.out⟩
      simp [results, Tryz.results33, go_sem, foundV, z0, z1, z2, z3, z4]
    · have hi1 : ((x[0].toNat : Int) == 37) = false := by
        rw [beq_eq_false_iff_ne, hb0]
        intro h
        exact h37 (UInt8.toNat_inj.1 (by have : c.toNat = 37 := by omega
                                         rw [this]; rfl))
      by_cases h65 : c = 65
      · have hR : readR (boxE x.data.toList, .box x.data.toList) ended = res := by rw [← hres, ← box_readR]; unfold readF; rw [hl, h65]; rfl
        clear hres
        have HLN := hid (boxed_any (w.alloc (.cells #[.int .i64 0, .int .i64 0, .slice none 0 0, .int .i64 0, .int .i64 0] 39)) x x.size rfl hx ended)
        rw [hR] at HLN
        have hi : (x[0].toNat : Int) = 65 := by rw [hb0, h65]; rfl
        have hi2 : ((x[0].toNat : Int) == 65) = true := by rw [hi]; rfl
        clear hl hs hb0 hR
        go_enter Tryz.func33, Tryz.ntmps33
        go_wp2_with fail
        refine HLN.out.mono ?_
        rintro e W1 ⟨R9, C9, k9, ao9, n9, cap9, rfl, hW1, hf⟩
        rw [hs1] at hW1 hf
        have HAR1 := hid (HAR.out.below hW1 (by omega))
        have HBE1 := hid (HBE.out.trans (hW1.mono (by omega)))
        have HFF := hid hf
        clear hW1 hf HLN HAR HBE
        unfold foundV
        obtain ⟨r1, r2⟩ := res
        simp only at HFF
        simp only
        obtain ⟨Z1, Z2, Z3, Z4, Z5, e1, e2, e3, e4, e5, x0, y0, x1, y1, x2, y2, x3, y3, x4, y4, HZ, HZB⟩ := found_steps (c0 := .int .i64 0) (c1 := .int .i64 0) (c2 := .slice none 0 0) (c3 := .int .i64 0) (c4 := .int .i64 0) HAR1.out HBE1.out (.int .i64 R9) (.int .i64 C9) (.slice ao9 n9 cap9) (.int .i64 k9) (.int .i64 r1)
        have HFW : Hid (∀ k R' C' f, r2 = some (k, R', C', f) → R9 = R' ∧ C9 = C' ∧ k9 = k ∧ k ≤ 5 ∧ R' ≤ 40 ∧ C' ≤ 40 ∧ BitsIs b Z5 (.slice ao9 n9 cap9) R' C' f) := fun k R' C' f h => by
          obtain ⟨g1, g2, g3, g4, g5, g6, g7⟩ := HFF.out k R' C' f h
          refine ⟨g1, g2, g3, g4, g5, g6, ?_⟩
          subst e1; subst e2; subst e3; subst e4; subst e5
          exact BitsIs.mono (B := b + 1) (((((BitsUp.store (b := b) g7 _ _).store _ _).store _ _).store _ _).store _ _) (by omega)
        clear HFF
        go_wp2
        clear e1 e2 e3 e4 e5 x0 y0 x1 y1 x2 y2 x3 y3 x4 y4
        obtain ⟨z0, z1, z2, z3, z4⟩ := HZ.out
        refine bodyPost_ret (v := foundV R9 C9 (.slice ao9 n9 cap9) k9 r1) ?_ rfl ⟨R9, C9, k9, ao9, n9, cap9, rfl, HZB.out, HFW.out⟩
        simp [results, Tryz.results33, go_sem, foundV, z0, z1, z2, z3, z4]
      · obtain rfl : res = (6, none) := by
          rw [← hres, hl]
          simp only [readF]
          have : fileS c = none := by unfold fileS; rw [if_neg h37, if_neg h65]
          rw [this]
        have hi2 : ((x[0].toNat : Int) == 65) = false := by
          rw [beq_eq_false_iff_ne, hb0]
          intro h
          exact h65 (UInt8.toNat_inj.1 (by have : c.toNat = 65 := by omega
                                           rw [this]; rfl))
        clear hl hs hb0 hres
        go_enter Tryz.func33, Tryz.ntmps33
        obtain ⟨Z1, Z2, Z3, Z4, Z5, e1, e2, e3, e4, e5, x0, y0, x1, y1, x2, y2, x3, y3, x4, y4, HZ, HZB⟩ := found_steps (c0 := .int .i64 0) (c1 := .int .i64 0) (c2 := .slice none 0 0) (c3 := .int .i64 0) (c4 := .int .i64 0) HAR.out HBE.out (.int .i64 0) (.int .i64 0) (.slice none 0 0) (.int .i64 0) (.int .i64 6)
        go_wp2
        clear e1 e2 e3 e4 e5 x0 y0 x1 y1 x2 y2 x3 y3 x4 y4
        obtain ⟨z0, z1, z2, z3, z4⟩ := HZ.out
        refine bodyPost_ret (v := foundV 0 0 (.slice none 0 0) 0 6) ?_ rfl (FoundQ.bad HZB.out)
        simp [results, Tryz.results33, go_sem, foundV, z0, z1, z2, z3, z4]
end Go.Proofs.YthdcceackfdbbaaGreatDoor
namespace Go.Proofs.YthdcceackfdbbaaGreatDoor
open Go Go.RowKit
end Go.Proofs.YthdcceackfdbbaaGreatDoor
namespace Go.Proofs.YthdcceackfdbbaaGreatDoor
open Go.RowKit
end Go.Proofs.YthdcceackfdbbaaGreatDoor
namespace Go.Proofs.YthdcceackfdbbaaGreatDoor
open Go.RowKit
attribute [local go_sem ↓] Go.wp_at_zero Go.wp_at_succ
section sets
variable {w : World} {g : Nat} {v0 v1 v2 v3 v : Value} {S B A D N : Nat}
end sets
end Go.Proofs.YthdcceackfdbbaaGreatDoor
namespace Go.Proofs.YthdcceackfdbbaaGreatDoor
open Go.RowKit
attribute [local go_sem ↓] Go.wp_at_zero Go.wp_at_succ
end Go.Proofs.YthdcceackfdbbaaGreatDoor
namespace Go.Proofs.YthdcceackfdbbaaGreatDoor
open Go Go.RowKit
end Go.Proofs.YthdcceackfdbbaaGreatDoor
namespace Go.Proofs.YthdcceackfdbbaaGreatDoor
open Go.RowKit
attribute [local go_sem ↓] Go.wp_at_zero Go.wp_at_succ
end Go.Proofs.YthdcceackfdbbaaGreatDoor
namespace Go.Proofs.YthdcceackfdbbaaGreatDoor
open Go.RowKit
attribute [local go_sem ↓] Go.wp_at_zero Go.wp_at_succ
end Go.Proofs.YthdcceackfdbbaaGreatDoor
namespace Go.Proofs.YthdcceackfdbbaaGreatDoor
open Go.RowKit
attribute [local go_sem ↓] Go.wp_at_zero Go.wp_at_succ
end Go.Proofs.YthdcceackfdbbaaGreatDoor
namespace Go.Proofs.YthdcceackfdbbaaGreatDoor
open Go Go.RowKit
end Go.Proofs.YthdcceackfdbbaaGreatDoor
namespace Go.Proofs.YthdcceackfdbbaaGreatDoor
open Go Go.RowKit
set_option maxRecDepth 20000 in
set_option maxHeartbeats 2000000 in
theorem refFits_any (w : World) (R C off rs cs : Int) (n : Nat) (hn : n < 9223372036854775808) :
    Calls Tryz.prog 30 #[viewV R C off rs cs, .int .i64 (n : Int)] w fun e w' => BoolOk (FitV R C off rs cs n) e ∧ Below w.heap.size w w' := by
  have HB0 : Hid (∀ o, Below w.heap.size w (w.alloc o)) := fun o => (Below.refl _ _).alloc (Nat.le_refl _) _
  by_cases h0 : 100000 < n
  · have c0 : (100000 : Int) < n := by omega
    have HN : Hid (¬ FitV R C off rs cs n) := fun h => by have := h.1; omega
    unfold viewV
    go_enter Tryz.func30, Tryz.ntmps30
    go_wp2
    go_ret
    exact ⟨boolOk_f HN.out, HB0.out _⟩
  have c0 : ¬ (100000 : Int) < n := by omega
  by_cases h1 : R < 0
  · have HN : Hid (¬ FitV R C off rs cs n) := fun h => by have := h.2.1; omega
    unfold viewV
    go_enter Tryz.func30, Tryz.ntmps30
    go_wp2
    go_ret
    exact ⟨boolOk_f HN.out, HB0.out _⟩
  by_cases h2 : 40 < R
  · have HN : Hid (¬ FitV R C off rs cs n) := fun h => by have := h.2.1; omega
    unfold viewV
    go_enter Tryz.func30, Tryz.ntmps30
    go_wp2
    go_ret
    exact ⟨boolOk_f HN.out, HB0.out _⟩
  by_cases h3 : C < 0
  · have HN : Hid (¬ FitV R C off rs cs n) := fun h => by have := h.2.2.1; omega
    unfold viewV
    go_enter Tryz.func30, Tryz.ntmps30
    go_wp2
    go_ret
    exact ⟨boolOk_f HN.out, HB0.out _⟩
  by_cases h4 : 40 < C
  · have HN : Hid (¬ FitV R C off rs cs n) := fun h => by have := h.2.2.1; omega
    unfold viewV
    go_enter Tryz.func30, Tryz.ntmps30
    go_wp2
    go_ret
    exact ⟨boolOk_f HN.out, HB0.out _⟩
  by_cases h5 : R = 0
  · subst h5
    have HN : Hid (FitV 0 C off rs cs n) := ⟨by omega, by omega, by omega, .inl rfl⟩
    unfold viewV
    go_enter Tryz.func30, Tryz.ntmps30
    go_wp2
    go_ret
    exact ⟨boolOk_t HN.out, HB0.out _⟩
  by_cases h6 : C = 0
  · subst h6
    have HN : Hid (FitV R 0 off rs cs n) := ⟨by omega, by omega, by omega, .inr (.inl rfl)⟩
    have hr : (R == 0) = false := by simpa using h5
    unfold viewV
    go_enter Tryz.func30, Tryz.ntmps30
    go_wp2
    go_ret
    exact ⟨boolOk_t HN.out, HB0.out _⟩
  obtain ⟨r, rfl⟩ : ∃ r : Nat, R = (r : Int) := ⟨R.toNat, by omega⟩
  obtain ⟨c, rfl⟩ : ∃ c : Nat, C = (c : Int) := ⟨C.toNat, by omega⟩
  refine (refFits_main w r c off rs cs n (by omega) (by omega) (by omega)).mono ?_
  rintro e w' ⟨⟨bo, rfl, hbo⟩, hbe⟩
  refine ⟨⟨bo, rfl, hbo.trans ⟨fun h => ⟨by omega, by omega, by omega, .inr (.inr h)⟩, fun h => ?_⟩⟩, hbe⟩
  rcases h.2.2.2 with h | h | h
  · omega
  · omega
  · exact h
end Go.Proofs.YthdcceackfdbbaaGreatDoor
namespace Go.Proofs.YthdcceackfdbbaaGreatDoor
open Go Go.RowKit
theorem BufIs.below {w w' : World} {ao : Option Addr} {xs : List Nat} (h : BufIs w ao xs) (b : Below w.heap.size w w') : BufIs w' ao xs := fun k x hk => by
  obtain ⟨h1, ad, h2, h3, h4⟩ := h k x hk
  exact ⟨h1, ad, h2, Nat.lt_of_lt_of_le h3 b.size, (b.cell (p := ad.add k) (by rw [Go.ChangeShapes.block_add]; exact h3)).trans h4⟩
end Go.Proofs.YthdcceackfdbbaaGreatDoor
namespace Go.Proofs.YthdcceackfdbbaaGreatDoor
open Go Go.RowKit Go.Shelf
attribute [local go_sem] Oper.semAt_some
end Go.Proofs.YthdcceackfdbbaaGreatDoor
namespace Go.Proofs.YthdcceackfdbbaaGreatDoor
open Go Go.RowKit
def u64L (xs : List Nat) : List Value := xs.map fun (x : Nat) => .int .u64 (x : Int)
set_option maxRecDepth 20000 in
set_option maxHeartbeats 1000000 in
theorem copied_any (w : World) (ao : Option Addr) (n cap : Nat) (xs : List Nat) (hn : xs.length = n) (hn1 : n ≤ 20000000000000) (hbuf : BufIs w ao xs) :
    Calls Tryz.prog 24 #[.slice ao n cap] w fun e w' => e = .returned (.slice (some ⟨w.heap.size, 0, none⟩) (n + 2) (n + 2)) ∧ Arr w' w.heap.size 65 (u64L (xs ++ [77, 78])) ∧ Below w.heap.size w w' := by
  obtain ⟨b, hb⟩ : ∃ b, w.heap.size = b := ⟨_, rfl⟩
  obtain ⟨N, hN⟩ : ∃ N, n + 2 = N := ⟨_, rfl⟩
  have hNi : (n : Int) + 2 = (N : Int) := by omega
  obtain ⟨i0, hi, hz0, hz1, hz2⟩ := info_parts Tryz.infoU64
  have hmk := run_make1 (P := Tryz.prog) 22 65 i0 (.int .u64 0) Tryz.underlying22 hi hz0 hz1 rfl N (by rw [hz2]; omega) (by omega)
  have hsz : (Tryz.prog.info? 65).map (·.size) = some 1 := by rw [hi]; simp [hz1]
  clear hi hz0 hz1 hz2
  rw [hN, hb]
  have HBUF := hid hbuf
  clear hbuf
  obtain ⟨X, hX⟩ : ∃ X, u64L xs = X := ⟨_, rfl⟩
  have hXl : X.length = n := by rw [← hX]; simp [u64L, hn]
  have HX := hid hX
  clear hX
  go_enter Tryz.func24, Tryz.ntmps24
  go_wp2_with (refine wpList_copy_splice rfl (.tmp 10) (.tmp 11) 22 22 rfl 65 Tryz.underlying22 hsz (some ⟨b, 0, none⟩) ao N N n cap (by first | rfl | (rw [← hb]; rfl)) rfl b 0 (List.replicate N (.int .u64 0)) 65 ?c0 X ?c1 ?c2 ?c3 ?c4 b w ?c5 (Nat.le_refl _) ?_)
  case c0 => rw [List.toArray_replicate, ← hb]; exact World.alloc_heap_new w _
  case c1 => show X.length = min n N; omega
  case c2 =>
    intro hpos
    have h0 : xs[0]? = some (xs[0]'(by omega)) := by simp
    obtain ⟨_, ad, hao, _, _⟩ := HBUF.out 0 _ h0
    refine ⟨ad, hao, fun j v hj => ?_⟩
    rw [← HX.out] at hj
    obtain ⟨x, hx, rfl⟩ : ∃ x, xs[j]? = some x ∧ Value.int .u64 (x : Int) = v := by
      unfold u64L at hj; rw [List.getElem?_map] at hj
      cases h : xs[j]? with
      | none => rw [h] at hj; cases hj
      | some x => rw [h] at hj; exact ⟨x, rfl, Option.some.inj hj⟩
    obtain ⟨_, ad', hao', hlt, hc⟩ := HBUF.out j x hx
    rw [hao] at hao'; cases hao'
    exact (Sim.alloc 0 _ _).cell hc
  case c3 => simp; omega
  case c4 =>
    intro v hv
    rw [← HX.out] at hv
    obtain ⟨x, _, rfl⟩ := List.mem_map.1 hv
    rfl
  case c5 => rw [← hb]; exact Below.refl' _ _
  · intro W1 hg1 hb1
    have a1 : Arr W1 b 65 (X ++ [.int .u64 0, .int .u64 0]) := by
      have e : splice (List.replicate N (Value.int .u64 0)) 0 X = X ++ [.int .u64 0, .int .u64 0] := by
        unfold splice
        simp only [List.take_zero, List.nil_append, Nat.zero_add, List.drop_replicate]
        rw [show N - X.length = 2 by omega]; rfl
      have := hg1.out
      rw [e] at this
      exact this
    have k0 : W1.cell? ⟨b, n, none⟩ = some (.int .u64 0) := a1.cell (by rw [List.getElem?_append_right (by omega), hXl]; simp)
    have f0 := a1.frozen n
    have HA1 := hid a1
    have HB1 := hid hb1
    clear a1 hb1 hg1
    have h1 : (n : Int) < N := by omega
    have h2 : (n : Int) + 1 < N := by omega
    have k1 : (W1.setCell ⟨b, n, none⟩ (.int .u64 77)).cell? ⟨b, n + 1, none⟩ = some (.int .u64 0) := (HA1.out.set n (.int .u64 77)).cell (by rw [List.getElem?_set, if_neg (by omega), List.getElem?_append_right (by omega), hXl]; simp)
    have f1 : (W1.setCell ⟨b, n, none⟩ (.int .u64 77)).frozen? ⟨b, n + 1, none⟩ = false := (HA1.out.set n (.int .u64 77)).frozen _
    go_wp2
    go_ret
    refine ⟨rfl, ?_, (HB1.out.setCell (p := ⟨b, n, none⟩) (Nat.le_refl _) _).setCell (p := ⟨b, n + 1, none⟩) (Nat.le_refl _) _⟩
    have e : ((X ++ [Value.int .u64 0, Value.int .u64 0]).set n (Value.int .u64 77)).set (n + 1) (.int .u64 78) = u64L (xs ++ [77, 78]) := by
      rw [List.set_append_right _ _ (by omega), List.set_append_right _ _ (by omega), hXl, ← HX.out]
      simp [u64L]
    rw [← e]
    exact (HA1.out.set n _).set (n + 1) _
end Go.Proofs.YthdcceackfdbbaaGreatDoor
namespace Go.Proofs.YthdcceackfdbbaaGreatDoor
open Go Go.RowKit
theorem cell_same {w w' : World} {g i : Nat} (h : w'.heap[g]? = w.heap[g]?) : w'.cell? ⟨g, i, none⟩ = w.cell? ⟨g, i, none⟩ := by
  simp only [World.cell?]
  rw [h]
def lecC (p : Nat) (x : ByteArray) (ended : Bool) (er R C : Int) (bits : Value) (kind er2 : Int) : List Value :=
  [.pointer (some ⟨p, 0, none⟩), .string x, .bool ended, .int .i64 er, .int .i64 R, .int .i64 C, bits, .int .i64 kind, .int .i64 er2]
def BitsOwn (q p : Nat) (S Sf : Nat → Prop) (bits : Value) (n : Nat) : Prop := ∀ g l cap, bits = .slice (some ⟨g, 0, none⟩) l cap → n ≠ 0 → S g ∧ g ≠ p ∧ g ≠ q ∧ ¬ Sf g
def LecSt (w : World) (q p : Nat) (S Sf : Nat → Prop) (s : RSt) (x : ByteArray) (ended : Bool) (er R C : Int) (bits : Value) (kind : Int) : Prop :=
  (ended = false ∧ er = 0 ∧ feedS .begin x.data.toList = (0, s)) ∨ (er ≠ 0 ∧ s = .failed er) ∨
  (ended = true ∧ er = 0 ∧ ∃ (k R' C' : Nat) (f : Nat → Nat → Nat), s = .ended k R' C' f ∧ R = R' ∧ C = C' ∧ kind = k ∧ R' ≤ 40 ∧ C' ≤ 40 ∧ BitsIs 0 w bits R' C' f ∧ BitsOwn q p S Sf bits (R' * C'))
structure LecAt (w : World) (q p : Nat) (S Sf : Nat → Prop) (s : RSt) (x : ByteArray) (ended : Bool) (er R C : Int) (ao : Option Addr) (n cap : Nat) (kind er2 : Int) : Prop where
  arr : Arr w q 41 (lecC p x ended er R C (.slice ao n cap) kind er2)
  rd : ReadIs w p Sf s
  hq : S q
  hp : S p
  hs : ∀ z, Sf z → S z
  ne : p ≠ q
  nq : ¬ Sf q
  lt : ∀ z, S z → z < w.heap.size
  st : LecSt w q p S Sf s x ended er R C (.slice ao n cap) kind
def LecIs (w : World) (q : Nat) (S : Nat → Prop) (m : Nat) : Prop :=
  ∃ p Sf s x ended er R C ao n cap kind er2, LecAt w q p S Sf s x ended er R C ao n cap kind er2 ∧ x.size ≤ m
def CallL (w : World) (q : Nat) (S : Nat → Prop) (m : Nat) (w' : World) : Prop :=
  Kept S w w' ∧ ∃ S' : Nat → Prop, (∀ z, S' z → S z ∨ w.heap.size ≤ z) ∧ LecIs w' q S' m
theorem BitsIs.frame {B : Nat} {w w' : World} {sl : Value} {R C : Nat} {f : Nat → Nat → Nat} (h : BitsIs B w sl R C f) (hk : ∀ g n cap, sl = .slice (some ⟨g, 0, none⟩) n cap → R * C ≠ 0 → w'.heap[g]? = w.heap[g]?) (hsz : w.heap.size ≤ w'.heap.size) : BitsIs B w' sl R C f := by
  obtain ⟨ao, cap, e, h⟩ := h
  refine ⟨ao, cap, e, ?_⟩
  rcases h with h | ⟨g, e2, h1, h2, h3⟩
  · exact .inl h
  · by_cases h0 : R * C = 0
    · exact .inl h0
    · refine .inr ⟨g, e2, h1, Nat.lt_of_lt_of_le h2 hsz, fun i j hi hj => ?_⟩
      subst e2
      have hb := hk g _ _ e h0
      have := h3 i j hi hj
      rw [← this]
      exact cell_same hb
theorem LecSt.frame {w w' : World} {q p : Nat} {S Sf : Nat → Prop} {s : RSt} {x : ByteArray} {ended : Bool} {er R C : Int} {bits : Value} {kind : Int} (h : LecSt w q p S Sf s x ended er R C bits kind) (hk : ∀ x, S x → w'.heap[x]? = w.heap[x]?) (hsz : w.heap.size ≤ w'.heap.size) : LecSt w' q p S Sf s x ended er R C bits kind := by
  rcases h with h | h | ⟨h1, h2, k, R', C', f, h3, h4, h5, h6, h7, h8, h9, h10⟩
  · exact .inl h
  · exact .inr (.inl h)
  · exact .inr (.inr ⟨h1, h2, k, R', C', f, h3, h4, h5, h6, h7, h8, h9.frame (fun g n cap e h0 => hk g (h10 g n cap e h0).1) hsz, h10⟩)
theorem LecAt.frame {w w' : World} {q p : Nat} {S Sf : Nat → Prop} {s : RSt} {x : ByteArray} {ended : Bool} {er R C : Int} {ao : Option Addr} {n cap : Nat} {kind er2 : Int} (h : LecAt w q p S Sf s x ended er R C ao n cap kind er2) (hk : ∀ x, S x → w'.heap[x]? = w.heap[x]?) (hsz : w.heap.size ≤ w'.heap.size) : LecAt w' q p S Sf s x ended er R C ao n cap kind er2 :=
  ⟨(hk q h.hq).trans h.arr, h.rd.frame (fun z hz => hk z (by rcases hz with rfl | hz; · exact h.hp
                                                             exact h.hs z hz)) hsz, h.hq, h.hp, h.hs, h.ne, h.nq, fun z hz => Nat.lt_of_lt_of_le (h.lt z hz) hsz, h.st.frame hk hsz⟩
theorem LecAt.below {w w' : World} {q p : Nat} {S Sf : Nat → Prop} {s : RSt} {x : ByteArray} {ended : Bool} {er R C : Int} {ao : Option Addr} {n cap : Nat} {kind er2 : Int} (h : LecAt w q p S Sf s x ended er R C ao n cap kind er2) (b : Below w.heap.size w w') : LecAt w' q p S Sf s x ended er R C ao n cap kind er2 :=
  h.frame (fun z hz => b.block z (h.lt z hz)) b.size
theorem LecIs.frame {w w' : World} {q m : Nat} {S : Nat → Prop} (h : LecIs w q S m) (hk : ∀ x, S x → w'.heap[x]? = w.heap[x]?) (hsz : w.heap.size ≤ w'.heap.size) : LecIs w' q S m := by
  obtain ⟨p, Sf, s, x, ended, er, R, C, ao, n, cap, kind, er2, h, hm⟩ := h
  exact ⟨p, Sf, s, x, ended, er, R, C, ao, n, cap, kind, er2, h.frame hk hsz, hm⟩
theorem LecIs.lt {w : World} {q m : Nat} {S : Nat → Prop} (h : LecIs w q S m) : ∀ z, S z → z < w.heap.size := by
  obtain ⟨p, Sf, s, x, ended, er, R, C, ao, n, cap, kind, er2, h, hm⟩ := h
  exact h.lt
theorem LecIs.new {w : World} {q p : Nat} (ha : Arr w q 41 (lecC p ⟨#[]⟩ false 0 0 0 (.slice none 0 0) 0 0)) (hr : ReadIs w p (fun _ => False) .begin) (hne : p ≠ q) : LecIs w q (fun z => z = q ∨ z = p) 0 :=
  ⟨p, _, .begin, ⟨#[]⟩, false, 0, 0, 0, none, 0, 0, 0, 0, ⟨ha, hr, .inl rfl, .inr rfl, fun z h => h.elim, hne, fun h => h, fun z hz => by
    rcases hz with rfl | rfl
    · exact ha.lt
    · exact hr.ptr_lt, .inl ⟨rfl, rfl, rfl⟩⟩, Nat.le_refl _⟩
theorem LecAt.called {w w' : World} {q p : Nat} {S Sf : Nat → Prop} {s s' : RSt} {x : ByteArray} {ended : Bool} {er R C : Int} {ao : Option Addr} {n cap : Nat} {kind er2 : Int} (h : LecAt w q p S Sf s x ended er R C ao n cap kind er2) (hc : CallR w p Sf s' w') :
    Kept S w w' ∧ Arr w' q 41 (lecC p x ended er R C (.slice ao n cap) kind er2) ∧ ∃ Sf' : Nat → Prop, (∀ z, Sf' z → S z ∨ w.heap.size ≤ z) ∧ ReadIs w' p Sf' s' ∧ ¬ Sf' q ∧
      ∀ (R' C' : Nat) (f : Nat → Nat → Nat), BitsIs 0 w (.slice ao n cap) R' C' f → BitsOwn q p S Sf (.slice ao n cap) (R' * C') → BitsIs 0 w' (.slice ao n cap) R' C' f ∧ BitsOwn q p S Sf' (.slice ao n cap) (R' * C') := by
  obtain ⟨hk, Sf', h1, h2⟩ := hc
  refine ⟨hk.mono (fun z hz => by rcases hz with rfl | hz; · exact h.hp
                                  exact h.hs z hz), hk.arr h.arr (fun hz => by rcases hz with hz | hz; · exact h.ne hz.symm
                                                                               exact h.nq hz), Sf', fun z hz => (h1 z hz).imp (h.hs z) id, h2, fun hz => ?_, fun R' C' f hb ho => ⟨hb.frame (fun g n cap e h0 => ?_) hk.size, fun g n cap e h0 => ?_⟩⟩
  · rcases h1 q hz with h3 | h3
    · exact h.nq h3
    · have := h.arr.lt; omega
  · obtain ⟨o1, o2, o3, o4⟩ := ho g n cap e h0
    exact hk.block g (h.lt g o1) (fun hz => by rcases hz with hz | hz; · exact o2 hz
                                               exact o4 hz)
  · obtain ⟨o1, o2, o3, o4⟩ := ho g n cap e h0
    refine ⟨o1, o2, o3, fun hz => ?_⟩
    rcases h1 g hz with h3 | h3
    · exact o4 h3
    · have := h.lt g o1; omega
theorem ReadIs.off {W : World} {p q : Nat} {Sf : Nat → Prop} {s : RSt} (h : ReadIs W p Sf s) (hne : p ≠ q) (hnq : ¬ Sf q) (i : Nat) (v : Value) : ReadIs (W.setCell ⟨q, i, none⟩ v) p Sf s :=
  h.frame (fun z hz => Below.heap_setCell _ _ _ _ (fun e => by
    have e' : z = q := e
    rcases hz with hz | hz
    · exact hne (hz.symm.trans e')
    · exact hnq (e' ▸ hz))) (by simp [World.setCell])
theorem LecAt.make {w w' : World} {q p m : Nat} {S Sf' T : Nat → Prop} {s' : RSt} {x : ByteArray} {ended : Bool} {er R C : Int} {ao : Option Addr} {n cap : Nat} {kind er2 : Int}
    (hk : Kept S w w') (hq : S q) (hp : S p) (hne : p ≠ q) (hS : ∀ z, S z → z < w.heap.size) (hSf : ∀ z, Sf' z → S z ∨ w.heap.size ≤ z) (hr : ReadIs w' p Sf' s') (hnq : ¬ Sf' q)
    (ha : Arr w' q 41 (lecC p x ended er R C (.slice ao n cap) kind er2)) (hT : ∀ z, T z → w.heap.size ≤ z ∧ z < w'.heap.size) (hst : LecSt w' q p (fun z => S z ∨ Sf' z ∨ T z) Sf' s' x ended er R C (.slice ao n cap) kind) (hm : x.size ≤ m) : CallL w q S m w' := by
  refine ⟨hk, fun z => S z ∨ Sf' z ∨ T z, fun z hz => ?_, p, Sf', s', x, ended, er, R, C, ao, n, cap, kind, er2, ⟨ha, hr, .inl hq, .inl hp, fun z hz => .inr (.inl hz), hne, hnq, fun z hz => ?_, hst⟩, hm⟩
  · rcases hz with hz | hz | hz
    · exact .inl hz
    · exact hSf z hz
    · exact .inr (hT z hz).1
  · rcases hz with hz | hz | hz
    · exact Nat.lt_of_lt_of_le (hS z hz) hk.size
    · exact hr.lt z hz
    · exact (hT z hz).2
end Go.Proofs.YthdcceackfdbbaaGreatDoor
namespace Go.Proofs.YthdcceackfdbbaaGreatDoor
open Go Go.RowKit
theorem feed_next {x y : List UInt8} {s s' : RSt} {er : Int} (hs : feedS .begin x = (0, s)) (hr : feedS s y = (er, s')) : feedS .begin (x ++ y) = (er, s') ∧ (er ≠ 0 → s' = .failed er) := by
  have h : feedS .begin (x ++ y) = (er, s') := by rw [feedS_app, hs]; exact hr
  refine ⟨h, fun he => ?_⟩
  have := feedS_err (s := .begin) (l := x ++ y) (.inl rfl) (e := er) (by rw [h]) he
  rw [h] at this
  exact this
set_option maxRecDepth 20000 in
set_option maxHeartbeats 4000000 in
theorem lfeed_any (w : World) (q m : Nat) (S : Nat → Prop) (y : ByteArray) (h : LecIs w q S m) (hm : m + y.size ≤ 20000000000000) :
    Calls Tryz.prog 13 #[.pointer (some ⟨q, 0, none⟩), .string y] w fun e w' => e = .returned (.bool true) ∧ CallL w q S (m + y.size) w' := by
  obtain ⟨p, Sf, s, x, ended, er, R, C, ao, n, cap, kind, er2, h, hxm⟩ := h
  have HFD := hid (feed_any w p Sf s y (by unfold maxLen; omega) h.rd)
  obtain ⟨r, hr⟩ : ∃ r, feedS s y.data.toList = r := ⟨_, rfl⟩
  rw [hr] at HFD
  have HR := hid hr
  have H := hid h
  have c0 := h.arr.cell (i := 0) rfl
  clear h hr
  go_enter Tryz.func13, Tryz.ntmps13
  go_wp2_with fail
  refine HFD.out.mono ?_
  rintro e W1 ⟨rfl, hc⟩
  clear HFD c0
  obtain ⟨hk1, ha1, Sf', hS', hr1, hnq, hbt⟩ := H.out.called hc
  clear hc
  have c1 := ha1.cell (i := 1) rfl
  have c2 := ha1.cell (i := 2) rfl
  have c3 := ha1.cell (i := 3) rfl
  have HK1 := hid hk1
  have HA1 := hid ha1
  have HS1 := hid hS'
  have HR1 := hid hr1
  have HNQ := hid hnq
  have HBT := hid hbt
  clear hk1 ha1 hS' hr1 hnq hbt
  obtain ⟨er', s'⟩ := r
  simp only at HR1
  have fin : Hid (LecSt W1 q p (fun z => S z ∨ Sf' z ∨ False) Sf' s' x ended er R C (.slice ao n cap) kind → CallL w q S (m + y.size) W1) := fun hst =>
    LecAt.make HK1.out H.out.hq H.out.hp H.out.ne H.out.lt HS1.out HR1.out HNQ.out HA1.out (T := fun _ => False) (fun z h => h.elim) hst (by omega)
  rcases H.out.st with ⟨rfl, rfl, hs⟩ | ⟨h1, h2⟩ | ⟨rfl, rfl, k, R', C', f, hs, hrest⟩
  · obtain ⟨hf1, hf2⟩ := feed_next hs HR.out
    have e1 : (x ++ y).data.toList = x.data.toList ++ y.data.toList := by rw [ByteArray.data_append, Array.toList_append]
    rw [← e1] at hf1
    have HF1 := hid hf1
    have HF2 := hid hf2
    clear fin HR hf1 hf2 hs e1
    have f1 := HA1.out.frozen 1
    have hsz : (x ++ y).size = x.size + y.size := by rw [ByteArray.size_append]
    obtain ⟨u, hu⟩ : ∃ u, x ++ y = u := ⟨_, rfl⟩
    rw [hu] at HF1 hsz
    have HSZ := hid hsz
    clear hsz
    have hxy : (x.size : Int) + y.size ≤ 20000000000000 := by omega
    have hxy2 : x.size + y.size ≤ 20000000000000 := by omega
    obtain ⟨W2, eW2⟩ : ∃ W2, W1.setCell ⟨q, 1, none⟩ (.string u) = W2 := ⟨_, rfl⟩
    have a2 : Arr W2 q 41 (lecC p u false 0 R C (.slice ao n cap) kind er2) := by rw [← eW2]; exact HA1.out.set 1 _
    have r2 : ReadIs W2 p Sf' s' := by rw [← eW2]; exact HR1.out.off H.out.ne HNQ.out 1 _
    have k2 : Kept S w W2 := by rw [← eW2]; exact HK1.out.trans (Kept.set (S := S) H.out.hq _) (fun z h => .inl h)
    have hz2 : W2.heap.size = W1.heap.size := by rw [← eW2]; simp [World.setCell]
    have d1 := a2.cell (i := 1) rfl
    have HRD := hid (rread_any W2 u (by have := HSZ.out; omega) false)
    have hrf : (readF u.data.toList false).1 = er' := by rw [readF_un, HF1.out]
    have HA2 := hid a2
    have HR2 := hid r2
    have HK2 := hid k2
    have HZ2 := hid hz2
    clear a2 r2 k2 hz2 HK1 HR1 HA1
    go_wp2_with fail
    refine HRD.out.mono ?_
    rintro e W3 ⟨R9, C9, k9, ao9, n9, cap9, rfl, hW3, _⟩
    rw [hrf]
    clear hrf HRD eW2 d1 f1 c1 c2 c3 hu
    unfold foundV
    obtain ⟨s3, hs3⟩ : ∃ s3, W3.heap.size = s3 := ⟨_, rfl⟩
    obtain ⟨W4, eW4⟩ : ∃ W4, W3.alloc (.cells #[.int .i64 R9, .int .i64 C9, .slice ao9 n9 cap9, .int .i64 k9, .int .i64 er'] 39) = W4 := ⟨_, rfl⟩
    have b4 : Below W2.heap.size W2 W4 := by rw [← eW4]; exact hW3.alloc hW3.size _
    have a4 := HA2.out.belowAll b4
    have g4 : W4.cell? ⟨s3, 4, none⟩ = some (.int .i64 er') := by
      have : Arr W4 s3 39 [.int .i64 R9, .int .i64 C9, .slice ao9 n9 cap9, .int .i64 k9, .int .i64 er'] := by rw [← eW4, ← hs3]; exact Arr.newL W3 _ _
      exact this.cell (i := 4) rfl
    have d3 := a4.cell (i := 3) rfl
    have f3 := a4.frozen 3
    obtain ⟨W5, eW5⟩ : ∃ W5, W4.setCell ⟨q, 3, none⟩ (.int .i64 er') = W5 := ⟨_, rfl⟩
    have a5 : Arr W5 q 41 (lecC p u false er' R C (.slice ao n cap) kind er2) := by rw [← eW5]; exact a4.set 3 _
    have r4 : ReadIs W4 p Sf' s' := HR2.out.below b4
    have r5 : ReadIs W5 p Sf' s' := by rw [← eW5]; exact r4.off H.out.ne HNQ.out 3 _
    have k5 : Kept S w W5 := by
      rw [← eW5]
      exact (HK2.out.trans (Kept.ofBelow (S := S) b4) (fun z h => .inl h)).trans (Kept.set (S := S) H.out.hq _) (fun z h => .inl h)
    have g5 := a5.cell (i := 3) rfl
    have hfin : CallL w q S (m + y.size) W5 := LecAt.make k5 H.out.hq H.out.hp H.out.ne H.out.lt HS1.out r5 HNQ.out a5 (T := fun _ => False) (fun z h => h.elim) (by
      by_cases he : er' = 0
      · subst he; exact .inl ⟨rfl, rfl, HF1.out⟩
      · exact .inr (.inl ⟨he, HF2.out he⟩)) (by have := HSZ.out; omega)
    have HFIN := hid hfin
    clear hfin k5 r5 r4 a5 a4 b4 hW3 HA2 HR2 HK2 HZ2 HF1 HF2
    go_wp2
    go_ret
    exact ⟨by simp, HFIN.out⟩
  · subst h2
    have he : er' = er ∧ s' = .failed er := by have := HR.out; simp only [feedS] at this; cases this; exact ⟨rfl, rfl⟩
    obtain ⟨rfl, rfl⟩ := he
    have HFIN := hid (fin.out (.inr (.inl ⟨h1, rfl⟩)))
    have h1' : (er' == 0) = false := by simpa using h1
    clear fin
    cases ended
    · go_wp2
      go_ret
      exact ⟨by simp, HFIN.out⟩
    · go_wp2
      go_ret
      exact ⟨by simp, HFIN.out⟩
  · subst hs
    have he : er' = 11 ∧ s' = .ended k R' C' f := by have := HR.out; simp only [feedS] at this; cases this; exact ⟨rfl, rfl⟩
    obtain ⟨rfl, rfl⟩ := he
    obtain ⟨g1, g2, g3, g4, g5, g6, g7⟩ := hrest
    obtain ⟨hb1, hb2⟩ := HBT.out R' C' f g6 g7
    have HFIN := hid (fin.out (.inr (.inr ⟨rfl, rfl, k, R', C', f, rfl, g1, g2, g3, g4, g5, hb1, fun g l cap e h0 => (hb2 g l cap e h0).imp (fun h => .inl h) id⟩)))
    clear fin g1 g2 g3 g6 g7 hb1 hb2
    go_wp2
    go_ret
    exact ⟨by simp, HFIN.out⟩
end Go.Proofs.YthdcceackfdbbaaGreatDoor
