import Derived.Test.YthdcceackfdbbaaGreatDoorM28R
import Derived.Test.YthdcceackfdbbaaGreatDoorM09R
import Derived.Test.YthdcceackfdbbaaGreatDoorM00R
import Derived.Test.YthdcceackfdbbaaGreatDoorM10R
import Derived.Test.YthdcceackfdbbaaGreatDoorM07R
import Derived.Test.YthdcceackfdbbaaGreatDoorM11R
import Derived.Deep.QuietTactic
import Derived.BigQuiet
import Derived.Carry
import Derived.SizedLaws
import Derived.RangeFuncOwn
import Derived.Lib.SmallJoins
namespace Go.Proofs.YthdcceackfdbbaaGreatDoor
open Go Go.RowKit
theorem Arr.newL2 {w : World} {b : Nat} (hb : w.heap.size = b) (o : Obj) (t : TypeId) (l : List Value) : Arr ((w.alloc o).alloc (.cells l.toArray t)) (b + 1) t l := by
  have := Arr.newL (w.alloc o) t l
  rw [show (w.alloc o).heap.size = b + 1 by simp [hb]] at this
  exact this
def foundV (R C : Int) (bits : Value) (kind er : Int) : Value := .agg #[.int .i64 R, .int .i64 C, bits, .int .i64 kind, .int .i64 er]
def FoundQ (B : Nat) (w : World) (r : Int × Option (Nat × Nat × Nat × (Nat → Nat → Nat))) (e : Ending) (w' : World) : Prop :=
  ∃ (R C kind : Int) (ao : Option Addr) (n cap : Nat), e = .returned (foundV R C (.slice ao n cap) kind r.1) ∧ Below B w w' ∧
    ∀ k R' C' f, r.2 = some (k, R', C', f) → R = R' ∧ C = C' ∧ kind = k ∧ k ≤ 5 ∧ R' ≤ 40 ∧ C' ≤ 40 ∧ BitsIs B w' (.slice ao n cap) R' C' f
theorem FoundQ.bad {B : Nat} {w w' : World} {er : Int} (h : Below B w w') : FoundQ B w (er, none) (.returned (foundV 0 0 (.slice none 0 0) 0 er)) w' :=
  ⟨0, 0, 0, none, 0, 0, rfl, h, fun _ _ _ _ h => by cases h⟩
def fndC (R C : Int) (bits : Value) (kind er : Int) : List Value := [.int .i64 R, .int .i64 C, bits, .int .i64 kind, .int .i64 er]
def fndW (W : World) (b : Nat) (v0 v1 v2 v3 v4 : Value) : World := ((((W.setCell ⟨b, 0, none⟩ v0).setCell ⟨b, 1, none⟩ v1).setCell ⟨b, 2, none⟩ v2).setCell ⟨b, 3, none⟩ v3).setCell ⟨b, 4, none⟩ v4
theorem found_arr {W : World} {b : Nat} {c0 c1 c2 c3 c4 : Value} (h : Arr W b 39 [c0, c1, c2, c3, c4]) (v0 v1 v2 v3 v4 : Value) : Arr (fndW W b v0 v1 v2 v3 v4) b 39 [v0, v1, v2, v3, v4] :=
  ((((h.set 0 v0).set 1 v1).set 2 v2).set 3 v3).set 4 v4
theorem found_below {W w : World} {b : Nat} (h : Below b w W) (v0 v1 v2 v3 v4 : Value) : Below b w (fndW W b v0 v1 v2 v3 v4) :=
  ((((h.setCell (p := ⟨b, 0, none⟩) (Nat.le_refl _) v0).setCell (p := ⟨b, 1, none⟩) (Nat.le_refl _) v1).setCell (p := ⟨b, 2, none⟩) (Nat.le_refl _) v2).setCell (p := ⟨b, 3, none⟩) (Nat.le_refl _) v3).setCell (p := ⟨b, 4, none⟩) (Nat.le_refl _) v4
theorem found_steps {W w : World} {b : Nat} {c0 c1 c2 c3 c4 : Value} (h : Arr W b 39 [c0, c1, c2, c3, c4]) (hb : Below b w W) (v0 v1 v2 v3 v4 : Value) :
    ∃ Z1 Z2 Z3 Z4 Z5 : World, W.setCell ⟨b, 0, none⟩ v0 = Z1 ∧ Z1.setCell ⟨b, 1, none⟩ v1 = Z2 ∧ Z2.setCell ⟨b, 2, none⟩ v2 = Z3 ∧ Z3.setCell ⟨b, 3, none⟩ v3 = Z4 ∧ Z4.setCell ⟨b, 4, none⟩ v4 = Z5 ∧
    W.cell? ⟨b, 0, none⟩ = some c0 ∧ W.frozen? ⟨b, 0, none⟩ = false ∧ Z1.cell? ⟨b, 1, none⟩ = some c1 ∧ Z1.frozen? ⟨b, 1, none⟩ = false ∧ Z2.cell? ⟨b, 2, none⟩ = some c2 ∧ Z2.frozen? ⟨b, 2, none⟩ = false ∧
    Z3.cell? ⟨b, 3, none⟩ = some c3 ∧ Z3.frozen? ⟨b, 3, none⟩ = false ∧ Z4.cell? ⟨b, 4, none⟩ = some c4 ∧ Z4.frozen? ⟨b, 4, none⟩ = false ∧
    Hid (Z5.cell? ⟨b, 0, none⟩ = some v0 ∧ Z5.cell? ⟨b, 1, none⟩ = some v1 ∧ Z5.cell? ⟨b, 2, none⟩ = some v2 ∧ Z5.cell? ⟨b, 3, none⟩ = some v3 ∧ Z5.cell? ⟨b, 4, none⟩ = some v4) ∧ Hid (Below b w Z5) := by
  have a := found_arr h v0 v1 v2 v3 v4
  exact ⟨_, _, _, _, _, rfl, rfl, rfl, rfl, rfl, h.cell (i := 0) rfl, h.frozen 0, (h.set 0 v0).cell (i := 1) rfl, (h.set 0 v0).frozen 1, ((h.set 0 v0).set 1 v1).cell (i := 2) rfl, ((h.set 0 v0).set 1 v1).frozen 2,
    (((h.set 0 v0).set 1 v1).set 2 v2).cell (i := 3) rfl, (((h.set 0 v0).set 1 v1).set 2 v2).frozen 3, ((((h.set 0 v0).set 1 v1).set 2 v2).set 3 v3).cell (i := 4) rfl, ((((h.set 0 v0).set 1 v1).set 2 v2).set 3 v3).frozen 4,
    ⟨a.cell (i := 0) rfl, a.cell (i := 1) rfl, a.cell (i := 2) rfl, a.cell (i := 3) rfl, a.cell (i := 4) rfl⟩, found_below hb v0 v1 v2 v3 v4⟩
theorem TxtIs.found {B : Nat} {w : World} {p : Nat} {k R C left : Nat} {free : List (Nat × Nat)} {f : Nat → Nat → Nat} (h : TxtIs B w p (.ent k R C left free f)) :
    ∃ (had g hh : Nat), Arr w p 133 (txtC k true (had + left) had R C (.slice (some ⟨g, 0, none⟩) (R * C) (R * C)) (.slice (some ⟨hh, 0, none⟩) (R * C) (R * C))) ∧ k ≤ 3 ∧ R ≤ 40 ∧ C ≤ 40 ∧ had + left ≤ 1600 ∧ BitsIs B w (.slice (some ⟨g, 0, none⟩) (R * C) (R * C)) R C f := by
  obtain ⟨h1, h2, h3, h4, had, g, hh, bl, ha, hg, _, _, _, _, ⟨L, hL, hLl, hLf⟩, _, _, hw, _⟩ := h
  have hp : (plsL k R C).length ≤ 1600 := by
    have hRC : R * C ≤ 40 * 40 := Nat.mul_le_mul h2 h3
    by_cases hk : k = 1 ∨ k = 3
    · have := h4 hk
      subst this
      rw [pls_len_half hk h2]
      have : C * (C + 1) ≤ 40 * 41 := Nat.mul_le_mul h2 (by omega)
      omega
    · rw [pls_len_full (by omega)]; omega
  exact ⟨had, g, hh, ha, h1, h2, h3, by omega, _, _, rfl, .inr ⟨g, rfl, hg, hL.lt, fun i j hi hj => hL.cell (hLf i j hi hj)⟩⟩
theorem BitsIs.mono {B B' : Nat} {w : World} {sl : Value} {R C : Nat} {f : Nat → Nat → Nat} (h : BitsIs B w sl R C f) (hB : B' ≤ B) : BitsIs B' w sl R C f := by
  obtain ⟨ao, cap, e, h⟩ := h
  refine ⟨ao, cap, e, h.imp id ?_⟩
  rintro ⟨g, e2, h1, h2, h3⟩
  exact ⟨g, e2, by omega, h2, h3⟩
theorem BitsUp.aux {w : World} {b g i c : Nat} {v x : Value} (h : w.cell? ⟨g, c, none⟩ = some x) (hg : g ≠ b) : (w.setCell ⟨b, i, none⟩ v).cell? ⟨g, c, none⟩ = some x := by
  rw [World.cell?_setCell_far _ _ _ _ (by first | exact hg | exact Ne.symm hg)]; exact h
def BitsUp (b : Nat) (w : World) (sl : Value) (R C : Nat) (f : Nat → Nat → Nat) : Prop := BitsIs (b + 1) w sl R C f
theorem BitsUp.store {b : Nat} {w : World} {sl : Value} {R C : Nat} {f : Nat → Nat → Nat} (h : BitsUp b w sl R C f) (i : Nat) (v : Value) : BitsUp b (w.setCell ⟨b, i, none⟩ v) sl R C f := by
  obtain ⟨ao, cap, e, h⟩ := h
  refine ⟨ao, cap, e, h.imp id ?_⟩
  rintro ⟨g, e2, h1, h2, h3⟩
  exact ⟨g, e2, h1, by simpa [World.setCell] using h2, fun x y hx hy => BitsUp.aux (h3 x y hx hy) (by omega)⟩
theorem txt_end {B : Nat} {w : World} {p : Nat} {t : TSt} (cur : List UInt8) (h : TxtIs B w p t) :
    ∃ (kd want had R C : Nat) (sized : Bool) (ao : Option Addr) (nn cap : Nat) (seen : Value), Arr w p 133 (txtC kd sized want had R C (.slice ao nn cap) seen) ∧ want ≤ 1600 ∧ had ≤ 1600 ∧
      ((endF (.text t cur) = none ∧ (cur ≠ [] ∨ sized = false ∨ had < want)) ∨
       (∃ f, endF (.text t cur) = some (kd, R, C, f) ∧ cur = [] ∧ sized = true ∧ ¬ had < want ∧ kd ≤ 5 ∧ R ≤ 40 ∧ C ≤ 40 ∧ BitsIs B w (.slice ao nn cap) R C f)) := by
  cases t with
  | first => exact ⟨0, 0, 0, 0, 0, false, none, 0, 0, _, h, by omega, by omega, .inl ⟨rfl, .inr (.inl rfl)⟩⟩
  | sizes k => exact ⟨k, 0, 0, 0, 0, false, none, 0, 0, _, h.2, by omega, by omega, .inl ⟨rfl, .inr (.inl rfl)⟩⟩
  | ent k R C left free f =>
    obtain ⟨had, g, hh, ha, hk, hR, hC, hw, hbits⟩ := h.found
    refine ⟨k, had + left, had, R, C, true, _, _, _, _, ha, hw, by omega, ?_⟩
    cases cur with
    | cons c r => exact .inl ⟨by cases left <;> rfl, .inl (by simp)⟩
    | nil =>
      cases left with
      | zero => exact .inr ⟨f, rfl, rfl, rfl, by omega, by omega, hR, hC, hbits⟩
      | succ m => exact .inl ⟨rfl, .inr (.inr (by omega))⟩
set_option maxRecDepth 20000 in
set_option maxHeartbeats 4000000 in
theorem lined_any (w : World) (x : ByteArray) (N : Nat) (hN : x.size = N) (hN1 : N ≤ 20000000000000) (h37 : x.data.toList.head? = some 37) (ended : Bool) :
    Calls Tryz.prog 53 #[.string x, .bool ended] w fun e w' => FoundQ w.heap.size w (readR (bytesF (.text .first []) x.data.toList) ended) e w' := by
  obtain ⟨b, hb⟩ : ∃ b, w.heap.size = b := ⟨_, rfl⟩
  have hxl : x.data.toList.length = N := by rw [← hN]; exact (bytes_size rfl).symm
  obtain ⟨l, hl⟩ : ∃ l, x.data.toList = l := ⟨_, rfl⟩
  rw [hl] at h37 hxl ⊢
  obtain ⟨q, hq⟩ : ∃ q, bytesF (.text .first []) l = q := ⟨_, rfl⟩
  rw [hq]
  obtain ⟨res, hres⟩ : ∃ res, readR q ended = res := ⟨_, rfl⟩
  rw [hres, hb]
  have HQ := hid hq
  have HRES := hid hres
  have HL := hid hl
  have HXL := hid hxl
  have H37 := hid h37
  clear hq hres hl hxl h37
  go_enter Tryz.func53, Tryz.ntmps53
  go_wp2_with fail
  go_loopw [6, 7] (fun va vn wr => ∃ (a n : Nat) (t : TSt), va = .int .i64 (a : Int) ∧ vn = .int .i64 (n : Int) ∧ n ≤ a ∧ a ≤ N ∧ b + 1 < wr.heap.size ∧ Hid (bytesF (.text .first []) (l.take a) = (0, .text t [])) ∧ Hid (TxtIs (b + 1) wr (b + 1) t) ∧ Hid (Below b w wr) ∧ Hid (Arr wr b 39 (fndC 0 0 (.slice none 0 0) 0 0)) ∧ Hid (n = 0 → a = 0 ∧ t = .first) ∧ Hid (0 < n → t ≠ .first)) (fun va _ _ => N + 1 - (intOf va).toNat)
  case atStart => exact ⟨0, 0, .first, rfl, rfl, by omega, by omega, by simp; omega, by show _ = _; simp [bytesF], Arr.newL2 hb _ _ _, by rw [← hb]; exact ((Below.refl _ w).alloc (Nat.le_refl _) _).alloc (by simp) _, by rw [← hb]; exact (Arr.newL w _ _).alloc _, fun _ => ⟨rfl, rfl⟩, fun h => by omega⟩
  case round =>
    obtain ⟨a, n, t, rfl, rfl, hna, haN, hzr, HBY, HTX, HBW, HFD, HN0, HN1⟩ := hrel
    go_wp2_with fail
    go_loopw [8] (fun ve wr2 => ∃ k : Nat, ve = .int .i64 (k : Int) ∧ a ≤ k ∧ k ≤ N ∧ k ≤ a + 201 ∧ Hid (∀ j, a ≤ j → j < k → l[j]? ≠ some 10) ∧ wr2 = wr) (fun ve _ => N - (intOf ve).toNat)
    case atStart => exact ⟨a, rfl, by omega, by omega, by omega, fun j h1 h2 => by omega, rfl⟩
    case round =>
      obtain ⟨k, rfl, hak, hkN, hk201, HNO, rfl⟩ := hrel
      have long : 200 < k - a → Hid (res = (7, none)) := fun h => by
        have := lined_long HBY.out HNO.out (by rw [HXL.out]; exact hkN) h
        rw [HQ.out] at this
        rw [← HRES.out]; exact readR_err this (by decide)
      obtain ⟨d, hd⟩ : ∃ d : Nat, (k : Int) - a = (d : Int) := ⟨k - a, by omega⟩
      by_cases hlt : k < N
      · have hlt' : (k : Int) < N := by omega
        have hkx : k < x.size := by omega
        have hg : l[k]? = some x[k] := by rw [← HL.out]; exact take_get hkx
        have HG := hid hg
        clear hg
        by_cases h10 : x[k] = 10
        · have h10' : (x[k].toNat : Int) = 10 := by rw [h10]; rfl
          by_cases hlong : 200 < k - a
          · have hl2 : decide ((200 : Int) < (d : Int)) = true := by simp; omega
            obtain rfl := (long hlong).out
            clear long
            obtain ⟨Z1, Z2, Z3, Z4, Z5, e1, e2, e3, e4, e5, x0, y0, x1, y1, x2, y2, x3, y3, x4, y4, HZ, HZB⟩ := found_steps (c0 := .int .i64 0) (c1 := .int .i64 0) (c2 := .slice none 0 0) (c3 := .int .i64 0) (c4 := .int .i64 0) HFD.out HBW.out (.int .i64 0) (.int .i64 0) (.slice none 0 0) (.int .i64 0) (.int .i64 7)
            go_wp2
            clear e1 e2 e3 e4 e5 x0 y0 x1 y1 x2 y2 x3 y3 x4 y4
            obtain ⟨z0, z1, z2, z3, z4⟩ := HZ.out
            refine bodyPost_ret (v := foundV 0 0 (.slice none 0 0) 0 7) ?_ rfl (FoundQ.bad HZB.out)
            simp [results, Tryz.results53, go_sem, foundV, z0, z1, z2, z3, z4]
          · have hl2 : decide ((200 : Int) < (d : Int)) = false := by simp; omega
            have hline := lined_line HBY.out HNO.out (by rw [HG.out, h10]) hak (by omega)
            have hext : (x.extract a k).data.toList = (l.drop a).take (k - a) := by rw [ext_list, HL.out]
            have hesz : (x.extract a k).size ≤ 1000 := by rw [ByteArray.size_extract]; omega
            have hLQ : Calls Tryz.prog (if n = 0 then 83 else 84) #[.pointer (some ⟨b + 1, 0, none⟩), .string (x.extract a k)] wr fun e w' => LineQ (b + 1) wr (b + 1) (lineT t ((l.drop a).take (k - a))) e w' := by
              by_cases hn0 : n = 0
              · rw [if_pos hn0]
                obtain ⟨ha0, rfl⟩ := HN0.out hn0
                subst ha0
                refine (rfirst_any wr (b + 1) (x.extract 0 k) hesz HTX.out).mono (fun e w' h => ?_)
                rw [hext] at h
                refine h.lineQ ?_ (Nat.le_refl _) (by omega)
                have h3 := H37.out
                cases l with
                | nil => cases h3
                | cons c r =>
                  have hk0 : 0 < k := by
                    rcases Nat.eq_zero_or_pos k with h0 | h0
                    · exfalso
                      subst h0
                      injection h3 with h3
                      have := HG.out
                      rw [h10] at this
                      simp at this
                      rw [this] at h3
                      exact absurd h3 (by decide)
                    · exact h0
                  obtain ⟨j, rfl⟩ : ∃ j, k = j + 1 := ⟨k - 1, by omega⟩
                  simpa using h3
              · rw [if_neg hn0, ← hext]
                have htx := HTX.out
                have hnf := HN1.out (by omega)
                cases t with
                | first => exact (hnf rfl).elim
                | sizes kk => exact rline_1 wr (b + 1) (b + 1) kk (x.extract a k) (by omega) htx (Nat.le_refl _)
                | ent kk R C left free f => exact rline_2 wr (b + 1) (b + 1) kk R C left free f (x.extract a k) (by omega) htx (Nat.le_refl _)
            have HLQ := hid hLQ
            have hnx : (lineT t ((l.drop a).take (k - a))).1 = 0 → (lineT t ((l.drop a).take (k - a))).2 ≠ .first := fun h => by
              refine lineT_next h ?_
              by_cases hn0 : n = 0
              · right
                obtain ⟨ha0, rfl⟩ := HN0.out hn0
                subst ha0
                have h3 := H37.out
                cases l with
                | nil => cases h3
                | cons c r =>
                  have hk0 : 0 < k := by
                    rcases Nat.eq_zero_or_pos k with h0 | h0
                    · exfalso
                      subst h0
                      injection h3 with h3
                      have := HG.out
                      rw [h10] at this
                      simp at this
                      rw [this] at h3
                      exact absurd h3 (by decide)
                    · exact h0
                  obtain ⟨j, rfl⟩ : ∃ j, k = j + 1 := ⟨k - 1, by omega⟩
                  simpa using h3
              · exact .inl (HN1.out (by omega))
            have HNX := hid hnx
            have HLINE := hid hline
            clear hLQ hnx hline hext hesz long
            obtain ⟨⟨er, t'⟩, hr⟩ : ∃ r, lineT t ((l.drop a).take (k - a)) = r := ⟨_, rfl⟩
            rw [hr] at HLQ HNX HLINE
            clear hr
            have hkN' : ((k : Int) == x.size) = false := by rw [beq_eq_false_iff_ne]; omega
            have HFQ := hid HFD.out
            have after : ∀ (e : Ending) (W2 : World), LineQ (b + 1) wr (b + 1) (er, t') e W2 → Hid (e = .returned (.int .i64 (er : Int)) ∧ Arr W2 b 39 (fndC 0 0 (.slice none 0 0) 0 0) ∧ Below b w W2 ∧ b + 1 < W2.heap.size ∧ (er = 0 → TxtIs (b + 1) W2 (b + 1) t')) := fun e W2 h =>
              ⟨h.1, HFD.out.below h.2.1 (by omega), HBW.out.trans (h.2.1.mono (by omega)), by have := h.2.1.size; omega, h.2.2⟩
            have HAF := hid after
            clear after
            by_cases hn0 : n = 0
            · have hn0' : ((n : Int) == 0) = true := by simpa using hn0
              rw [if_pos hn0] at HLQ
              go_wp2_with fail
              refine HLQ.out.mono ?_
              rintro e W2 hq
              obtain ⟨rfl, ha2, hb2, hz2, ht2⟩ := (HAF.out e W2 hq).out
              have HA2 := hid ha2
              have HB2 := hid hb2
              have HT2 := hid ht2
              clear hq ha2 hb2 ht2 HAF HLQ HFD HFQ HBW HTX
              by_cases he : er = 0
              · subst he
                go_wp2
                go_round
                case rel => exact ⟨k + 1, n + 1, t', by simp, by first | (simp; done) | (simp; omega), by omega, by omega, by omega, HLINE.out, HT2.out (by first | rfl | trivial), HB2.out, HA2.out, fun h => by omega, fun _ => HNX.out (by first | rfl | trivial)⟩
                case measure => simp [intOf]; omega
              · have he' : ((er : Int) == 0) = false := by rw [beq_eq_false_iff_ne]; omega
                have he2 : ((er : Int) != 0) = true := by rw [bne_iff_ne]; omega
                obtain rfl : res = ((er : Int), none) := by
                  rw [← HRES.out]
                  refine readR_err ?_ (by omega)
                  rw [← HQ.out]
                  conv => lhs; rw [← List.take_append_drop (k + 1) l]
                  rw [bytesF_app (by rw [HLINE.out]; simpa using he), HLINE.out]
                obtain ⟨Z1, Z2, Z3, Z4, Z5, e1, e2, e3, e4, e5, x0, y0, x1, y1, x2, y2, x3, y3, x4, y4, HZ, HZB⟩ := found_steps (c0 := .int .i64 0) (c1 := .int .i64 0) (c2 := .slice none 0 0) (c3 := .int .i64 0) (c4 := .int .i64 0) HA2.out HB2.out (.int .i64 0) (.int .i64 0) (.slice none 0 0) (.int .i64 0) (.int .i64 (er : Int))
                go_wp2
                clear e1 e2 e3 e4 e5 x0 y0 x1 y1 x2 y2 x3 y3 x4 y4
                obtain ⟨z0, z1, z2, z3, z4⟩ := HZ.out
                refine bodyPost_ret (v := foundV 0 0 (.slice none 0 0) 0 (er : Int)) ?_ rfl (FoundQ.bad HZB.out)
                simp [results, Tryz.results53, go_sem, foundV, z0, z1, z2, z3, z4]
            · have hn0' : ((n : Int) == 0) = false := by rw [beq_eq_false_iff_ne]; omega
              rw [if_neg hn0] at HLQ
              go_wp2_with fail
              refine HLQ.out.mono ?_
              rintro e W2 hq
              obtain ⟨rfl, ha2, hb2, hz2, ht2⟩ := (HAF.out e W2 hq).out
              have HA2 := hid ha2
              have HB2 := hid hb2
              have HT2 := hid ht2
              clear hq ha2 hb2 ht2 HAF HLQ HFD HFQ HBW HTX
              by_cases he : er = 0
              · subst he
                go_wp2
                go_round
                case rel => exact ⟨k + 1, n + 1, t', by simp, by first | (simp; done) | (simp; omega), by omega, by omega, by omega, HLINE.out, HT2.out (by first | rfl | trivial), HB2.out, HA2.out, fun h => by omega, fun _ => HNX.out (by first | rfl | trivial)⟩
                case measure => simp [intOf]; omega
              · have he' : ((er : Int) == 0) = false := by rw [beq_eq_false_iff_ne]; omega
                have he2 : ((er : Int) != 0) = true := by rw [bne_iff_ne]; omega
                obtain rfl : res = ((er : Int), none) := by
                  rw [← HRES.out]
                  refine readR_err ?_ (by omega)
                  rw [← HQ.out]
                  conv => lhs; rw [← List.take_append_drop (k + 1) l]
                  rw [bytesF_app (by rw [HLINE.out]; simpa using he), HLINE.out]
                obtain ⟨Z1, Z2, Z3, Z4, Z5, e1, e2, e3, e4, e5, x0, y0, x1, y1, x2, y2, x3, y3, x4, y4, HZ, HZB⟩ := found_steps (c0 := .int .i64 0) (c1 := .int .i64 0) (c2 := .slice none 0 0) (c3 := .int .i64 0) (c4 := .int .i64 0) HA2.out HB2.out (.int .i64 0) (.int .i64 0) (.slice none 0 0) (.int .i64 0) (.int .i64 (er : Int))
                go_wp2
                clear e1 e2 e3 e4 e5 x0 y0 x1 y1 x2 y2 x3 y3 x4 y4
                obtain ⟨z0, z1, z2, z3, z4⟩ := HZ.out
                refine bodyPost_ret (v := foundV 0 0 (.slice none 0 0) 0 (er : Int)) ?_ rfl (FoundQ.bad HZB.out)
                simp [results, Tryz.results53, go_sem, foundV, z0, z1, z2, z3, z4]
        · have h10' : ((x[k].toNat : Int) != 10) = true := by
            rw [bne_iff_ne]
            intro h
            exact h10 (UInt8.toNat_inj.1 (by have : x[k].toNat = 10 := by omega
                                             rw [this]; rfl))
          by_cases hlong : 200 < k - a
          · have hl2 : decide ((200 : Int) < (d : Int)) = true := by simp; omega
            have hl3 : decide ((d : Int) ≤ 200) = false := by simp; omega
            obtain rfl := (long hlong).out
            clear long
            obtain ⟨Z1, Z2, Z3, Z4, Z5, e1, e2, e3, e4, e5, x0, y0, x1, y1, x2, y2, x3, y3, x4, y4, HZ, HZB⟩ := found_steps (c0 := .int .i64 0) (c1 := .int .i64 0) (c2 := .slice none 0 0) (c3 := .int .i64 0) (c4 := .int .i64 0) HFD.out HBW.out (.int .i64 0) (.int .i64 0) (.slice none 0 0) (.int .i64 0) (.int .i64 7)
            go_wp2
            clear e1 e2 e3 e4 e5 x0 y0 x1 y1 x2 y2 x3 y3 x4 y4
            obtain ⟨z0, z1, z2, z3, z4⟩ := HZ.out
            refine bodyPost_ret (v := foundV 0 0 (.slice none 0 0) 0 7) ?_ rfl (FoundQ.bad HZB.out)
            simp [results, Tryz.results53, go_sem, foundV, z0, z1, z2, z3, z4]
          · have hl2 : decide ((d : Int) ≤ 200) = true := by simp; omega
            clear long
            go_wp2
            go_round
            case rel => exact ⟨k + 1, by simp, by omega, by omega, by omega, fun j h1 h2 => by
              by_cases e : j = k
              · subst e; rw [HG.out]; intro h; exact h10 (Option.some.inj h)
              · exact HNO.out j h1 (by omega), by first | rfl | trivial⟩
            case measure => simp [intOf]; omega
      · obtain rfl : k = N := by omega
        have hlt' : ¬ (k : Int) < x.size := by omega
        by_cases hlong : 200 < k - a
        · have hl2 : decide ((200 : Int) < (d : Int)) = true := by simp; omega
          obtain rfl := (long hlong).out
          clear long
          obtain ⟨Z1, Z2, Z3, Z4, Z5, e1, e2, e3, e4, e5, x0, y0, x1, y1, x2, y2, x3, y3, x4, y4, HZ, HZB⟩ := found_steps (c0 := .int .i64 0) (c1 := .int .i64 0) (c2 := .slice none 0 0) (c3 := .int .i64 0) (c4 := .int .i64 0) HFD.out HBW.out (.int .i64 0) (.int .i64 0) (.slice none 0 0) (.int .i64 0) (.int .i64 7)
          go_wp2
          clear e1 e2 e3 e4 e5 x0 y0 x1 y1 x2 y2 x3 y3 x4 y4
          obtain ⟨z0, z1, z2, z3, z4⟩ := HZ.out
          refine bodyPost_ret (v := foundV 0 0 (.slice none 0 0) 0 7) ?_ rfl (FoundQ.bad HZB.out)
          simp [results, Tryz.results53, go_sem, foundV, z0, z1, z2, z3, z4]
        · have hl2 : decide ((200 : Int) < (d : Int)) = false := by simp; omega
          obtain rfl : q = (0, .text t (l.drop a)) := by rw [← HQ.out]; exact lined_end HBY.out HNO.out HXL.out.symm (by omega)
          clear long HQ HBY HNO HN0 HN1
          have hkN' : ((k : Int) == x.size) = true := by rw [beq_iff_eq]; omega
          obtain ⟨kd, want, had, R, C, sized, ao, nn, cap, seen, hat, hw1, hw2, hfin⟩ := txt_end (l.drop a) HTX.out
          have HAT := hid hat
          have HFIN := hid hfin
          clear hat hfin HTX
          have c0 := HAT.out.cell (i := 0) rfl
          have c1 := HAT.out.cell (i := 1) rfl
          have c2 := HAT.out.cell (i := 2) rfl
          have c3 := HAT.out.cell (i := 3) rfl
          have c4 := HAT.out.cell (i := 4) rfl
          have c5 := HAT.out.cell (i := 5) rfl
          have c6 := HAT.out.cell (i := 6) rfl
          cases ended
          · obtain rfl : res = (0, none) := by rw [← HRES.out]; exact readR_un rfl
            clear HFIN HRES c1 c2 c3
            go_wp2_with fail
            go_quiet (fail)
            have HA2 : Hid (Arr (wr.drewN nq) b 39 (fndC 0 0 (.slice none 0 0) 0 0)) := HFD.out
            have HB2 := hid (below_dn HBW.out nq)
            have d0 : (wr.drewN nq).cell? ⟨b + 1, 0, none⟩ = _ := c0
            have d4 : (wr.drewN nq).cell? ⟨b + 1, 4, none⟩ = _ := c4
            have d5 : (wr.drewN nq).cell? ⟨b + 1, 5, none⟩ = _ := c5
            have d6 : (wr.drewN nq).cell? ⟨b + 1, 6, none⟩ = _ := c6
            clear c0 c4 c5 c6
            generalize wr.drewN nq = W2 at *
            obtain ⟨Z1, Z2, Z3, Z4, Z5, e1, e2, e3, e4, e5, x0, y0, x1, y1, x2, y2, x3, y3, x4, y4, HZ, HZB⟩ := found_steps (c0 := .int .i64 0) (c1 := .int .i64 0) (c2 := .slice none 0 0) (c3 := .int .i64 0) (c4 := .int .i64 0) HA2.out HB2.out (.int .i64 (R : Int)) (.int .i64 (C : Int)) (.slice ao nn cap) (.int .i64 (kd : Int)) (.int .i64 0)
            go_wp2_with fail
            go_region
            clear e1 e2 e3 e4 e5 x0 y0 x1 y1 x2 y2 x3 y3 x4 y4
            have HZB2 : Hid (Below b w Z5.drew) := below_dn HZB.out 1
            have hzz : Z5.drew.cell? ⟨b, 0, none⟩ = _ ∧ Z5.drew.cell? ⟨b, 1, none⟩ = _ ∧ Z5.drew.cell? ⟨b, 2, none⟩ = _ ∧ Z5.drew.cell? ⟨b, 3, none⟩ = _ ∧ Z5.drew.cell? ⟨b, 4, none⟩ = _ := HZ.out
            generalize Z5.drew = Y at *
            obtain ⟨z0, z1, z2, z3, z4⟩ := hzz
            go_wp2
            refine bodyPost_ret (v := foundV (R : Int) (C : Int) (.slice ao nn cap) (kd : Int) 0) ?_ rfl ⟨R, C, kd, ao, nn, cap, rfl, HZB2.out, fun _ _ _ _ h => by cases h⟩
            simp [results, Tryz.results53, go_sem, foundV, z0, z1, z2, z3, z4]
          · rcases HFIN.out with ⟨he, hor⟩ | ⟨f, he, hc0, hsz, hnw, hk5, hR, hC, hbits⟩
            · obtain rfl : res = (11, none) := by rw [← HRES.out]; exact readR_none rfl he
              clear HFIN HRES he
              by_cases haN2 : a < k
              · have haN' : (a : Int) < x.size := by omega
                clear hor
                go_wp2_with fail
                go_quiet (fail)
                have HA2 : Hid (Arr (wr.drewN nq) b 39 (fndC 0 0 (.slice none 0 0) 0 0)) := HFD.out
                have HB2 := hid (below_dn HBW.out nq)
                clear c0 c1 c2 c3 c4 c5 c6
                generalize wr.drewN nq = W2 at *
                obtain ⟨Z1, Z2, Z3, Z4, Z5, e1, e2, e3, e4, e5, x0, y0, x1, y1, x2, y2, x3, y3, x4, y4, HZ, HZB⟩ := found_steps (c0 := .int .i64 0) (c1 := .int .i64 0) (c2 := .slice none 0 0) (c3 := .int .i64 0) (c4 := .int .i64 0) HA2.out HB2.out (.int .i64 0) (.int .i64 0) (.slice none 0 0) (.int .i64 0) (.int .i64 11)
                go_wp2
                clear e1 e2 e3 e4 e5 x0 y0 x1 y1 x2 y2 x3 y3 x4 y4
                obtain ⟨z0, z1, z2, z3, z4⟩ := HZ.out
                refine bodyPost_ret (v := foundV 0 0 (.slice none 0 0) 0 11) ?_ rfl (FoundQ.bad HZB.out)
                simp [results, Tryz.results53, go_sem, foundV, z0, z1, z2, z3, z4]
              · have haN' : decide ((a : Int) < x.size) = false := by simp; omega
                cases sized
                · clear hor
                  go_wp2_with fail
                  go_quiet (fail)
                  have HA2 : Hid (Arr (wr.drewN nq) b 39 (fndC 0 0 (.slice none 0 0) 0 0)) := HFD.out
                  have HB2 := hid (below_dn HBW.out nq)
                  clear c0 c1 c2 c3 c4 c5 c6
                  generalize wr.drewN nq = W2 at *
                  obtain ⟨Z1, Z2, Z3, Z4, Z5, e1, e2, e3, e4, e5, x0, y0, x1, y1, x2, y2, x3, y3, x4, y4, HZ, HZB⟩ := found_steps (c0 := .int .i64 0) (c1 := .int .i64 0) (c2 := .slice none 0 0) (c3 := .int .i64 0) (c4 := .int .i64 0) HA2.out HB2.out (.int .i64 0) (.int .i64 0) (.slice none 0 0) (.int .i64 0) (.int .i64 11)
                  go_wp2
                  clear e1 e2 e3 e4 e5 x0 y0 x1 y1 x2 y2 x3 y3 x4 y4
                  obtain ⟨z0, z1, z2, z3, z4⟩ := HZ.out
                  refine bodyPost_ret (v := foundV 0 0 (.slice none 0 0) 0 11) ?_ rfl (FoundQ.bad HZB.out)
                  simp [results, Tryz.results53, go_sem, foundV, z0, z1, z2, z3, z4]
                · have hhw : (had : Int) < want := by
                    rcases hor with h | h | h
                    · exfalso
                      apply h
                      exact List.drop_of_length_le (by rw [HXL.out]; omega)
                    · cases h
                    · omega
                  clear hor
                  go_wp2_with fail
                  go_quiet (fail)
                  have HA2 : Hid (Arr (wr.drewN nq) b 39 (fndC 0 0 (.slice none 0 0) 0 0)) := HFD.out
                  have HB2 := hid (below_dn HBW.out nq)
                  clear c0 c1 c2 c3 c4 c5 c6
                  generalize wr.drewN nq = W2 at *
                  obtain ⟨Z1, Z2, Z3, Z4, Z5, e1, e2, e3, e4, e5, x0, y0, x1, y1, x2, y2, x3, y3, x4, y4, HZ, HZB⟩ := found_steps (c0 := .int .i64 0) (c1 := .int .i64 0) (c2 := .slice none 0 0) (c3 := .int .i64 0) (c4 := .int .i64 0) HA2.out HB2.out (.int .i64 0) (.int .i64 0) (.slice none 0 0) (.int .i64 0) (.int .i64 11)
                  go_wp2
                  clear e1 e2 e3 e4 e5 x0 y0 x1 y1 x2 y2 x3 y3 x4 y4
                  obtain ⟨z0, z1, z2, z3, z4⟩ := HZ.out
                  refine bodyPost_ret (v := foundV 0 0 (.slice none 0 0) 0 11) ?_ rfl (FoundQ.bad HZB.out)
                  simp [results, Tryz.results53, go_sem, foundV, z0, z1, z2, z3, z4]
            · obtain rfl : res = (0, some (kd, R, C, f)) := by rw [← HRES.out]; exact readR_some rfl he
              have HBI := hid hbits
              subst hsz
              have haN' : decide ((a : Int) < x.size) = false := by
                have h1 := congrArg List.length hc0
                rw [List.length_drop, HXL.out] at h1
                simp at h1 ⊢
                omega
              have hhw : decide ((had : Int) < want) = false := by simp; omega
              have hhw2 : decide (had < want) = false := by simp; omega
              have haN2 : decide (a < k) = false := by
                have h1 := congrArg List.length hc0
                rw [List.length_drop, HXL.out] at h1
                simp at h1 ⊢
                omega
              clear HFIN HRES he hc0 hbits hnw
              go_wp2_with fail
              go_quiet (fail)
              have HA2 : Hid (Arr (wr.drewN nq) b 39 (fndC 0 0 (.slice none 0 0) 0 0)) := HFD.out
              have HB2 := hid (below_dn HBW.out nq)
              have HBI2 : Hid (BitsIs (b + 1) (wr.drewN nq) (.slice ao nn cap) R C f) := HBI.out
              have d0 : (wr.drewN nq).cell? ⟨b + 1, 0, none⟩ = _ := c0
              have d4 : (wr.drewN nq).cell? ⟨b + 1, 4, none⟩ = _ := c4
              have d5 : (wr.drewN nq).cell? ⟨b + 1, 5, none⟩ = _ := c5
              have d6 : (wr.drewN nq).cell? ⟨b + 1, 6, none⟩ = _ := c6
              clear c0 c1 c2 c3 c4 c5 c6 HBI
              generalize wr.drewN nq = W2 at *
              obtain ⟨Z1, Z2, Z3, Z4, Z5, e1, e2, e3, e4, e5, x0, y0, x1, y1, x2, y2, x3, y3, x4, y4, HZ, HZB⟩ := found_steps (c0 := .int .i64 0) (c1 := .int .i64 0) (c2 := .slice none 0 0) (c3 := .int .i64 0) (c4 := .int .i64 0) HA2.out HB2.out (.int .i64 (R : Int)) (.int .i64 (C : Int)) (.slice ao nn cap) (.int .i64 (kd : Int)) (.int .i64 0)
              have HFW : Hid (BitsIs b Z5 (.slice ao nn cap) R C f) := by
                subst e1; subst e2; subst e3; subst e4; subst e5
                exact BitsIs.mono (B := b + 1) (((((BitsUp.store (b := b) HBI2.out _ _).store _ _).store _ _).store _ _).store _ _) (by omega)
              go_wp2_with fail
              go_region
              clear e1 e2 e3 e4 e5 x0 y0 x1 y1 x2 y2 x3 y3 x4 y4
              have HZB2 : Hid (Below b w Z5.drew) := below_dn HZB.out 1
              have hzz : Z5.drew.cell? ⟨b, 0, none⟩ = _ ∧ Z5.drew.cell? ⟨b, 1, none⟩ = _ ∧ Z5.drew.cell? ⟨b, 2, none⟩ = _ ∧ Z5.drew.cell? ⟨b, 3, none⟩ = _ ∧ Z5.drew.cell? ⟨b, 4, none⟩ = _ := HZ.out
              have HFW2 : Hid (BitsIs b Z5.drew (.slice ao nn cap) R C f) := HFW.out
              generalize Z5.drew = Y at *
              obtain ⟨z0, z1, z2, z3, z4⟩ := hzz
              go_wp2
              refine bodyPost_ret (v := foundV (R : Int) (C : Int) (.slice ao nn cap) (kd : Int) 0) ?_ rfl ⟨R, C, kd, ao, nn, cap, rfl, HZB2.out, fun _ _ _ _ h => by cases h; exact ⟨rfl, rfl, rfl, hk5, hR, hC, HFW2.out⟩⟩
              simp [results, Tryz.results53, go_sem, foundV, z0, z1, z2, z3, z4]
end Go.Proofs.YthdcceackfdbbaaGreatDoor
namespace Go.Proofs.YthdcceackfdbbaaGreatDoor
open Go Go.RowKit
end Go.Proofs.YthdcceackfdbbaaGreatDoor
namespace Go.Proofs.YthdcceackfdbbaaGreatDoor
open Go Go.ChangeShapes Go.WideShapes Go.ChangeAt Go.RowKit
theorem Tryz.laidOutF : laidOutB Tryz.prog = true := by kernel_rfl
def BufIs (w : World) (ao : Option Addr) (xs : List Nat) : Prop := ∀ (k x : Nat), xs[k]? = some x → x < 18446744073709551616 ∧ ∃ ad : Addr, ao = some ad ∧ ad.block < w.heap.size ∧ w.cell? (ad.add k) = some (.int .u64 (x : Int))
theorem lt_of_cell {w : World} {a : Addr} {v : Value} (h : w.cell? a = some v) : a.block < w.heap.size := by
  obtain ⟨o, ho, _⟩ := cells_of_cell h
  exact (Array.getElem?_eq_some_iff.1 ho).1
section
variable {H : Type} {enc : TypeId × Value → H} {w : World} {base b0 : Nat} {sp : Nat → Bool} {held : Bool} {r : Reach}
theorem lits_length (k : IntKind) (l : List Int) : (lits (H := H) k l).length = l.length := by simp [lits]
set_option maxRecDepth 100000 in
theorem open_u64s {v : Value} {d : DataW H} {p : List MemPlace} (hv : Value.okWide Tryz.prog w r b0 22 v) (h : DataW.Trod enc Tryz.prog w base sp held 22 v d p) :
    ∃ (ao : Option Addr) (n cap : Nat) (xs : List Nat), v = .slice ao n cap ∧ xs.length = n ∧ BufIs w ao xs ∧ ((d = .nil ∧ n = 0) ∨ ∃ el spr, d = .slice el spr ∧ el.length = n) := by
  obtain ⟨ao, n, cap, rfl⟩ := okWide_slice Tryz.underlying22 hv
  obtain ⟨fuel, hf⟩ := h
  rcases open_ints Tryz.underlying22 Tryz.underlying65 cellsU64 hf with ⟨hcs, hx⟩ | ⟨a, len, cap', zs, hcs, _, hl, hm, hz, hx, hcell, hwz⟩
  · have hcs' : Value.slice ao n cap = .slice none 0 0 := by simpa [Value.cells] using hcs
    cases hcs'
    exact ⟨none, 0, 0, [], rfl, rfl, fun k x hk => by simp at hk, .inl ⟨by simpa using congrArg Prod.fst hx, rfl⟩⟩
  · have hcs' : Value.slice ao n cap = .slice (some a) len cap' := by simpa [Value.cells] using hcs
    cases hcs'
    have hzl : n ≤ zs.length := by rw [hz]; split <;> omega
    refine ⟨some a, n, cap, (zs.take n).map Int.toNat, rfl, by simp; omega, fun k x hk => ?_, .inr ⟨_, _, congrArg Prod.fst hx, by rw [lits_length]; simp; omega⟩⟩
    rw [List.getElem?_map, List.getElem?_take] at hk
    by_cases hkn : k < n
    · rw [if_pos hkn] at hk
      have hkz : k < zs.length := by omega
      rw [List.getElem?_eq_getElem hkz] at hk
      obtain rfl : (zs[k]'hkz).toNat = x := by simpa using hk
      have hw := hwz _ (List.getElem_mem hkz)
      have hw' : 0 ≤ zs[k]'hkz ∧ zs[k]'hkz ≤ 18446744073709551615 := by simpa [Lit.wf, IntKind.min, IntKind.max, IntKind.signed, IntKind.bits] using hw
      have hc := hcell k hkz
      rw [show zs.getD k 0 = zs[k]'hkz by simp [hkz]] at hc
      refine ⟨by omega, a, rfl, ?_, ?_⟩
      · have := lt_of_cell hc; rw [block_add] at this; exact this
      · rw [hc, Int.toNat_of_nonneg hw'.1]
    · rw [if_neg hkn] at hk; cases hk
end
end Go.Proofs.YthdcceackfdbbaaGreatDoor
namespace Go.Proofs.YthdcceackfdbbaaGreatDoor
open Go Go.RowKit
def u64s (l : List Nat) : List Value := l.map fun x : Nat => Value.int .u64 (x : Int)
theorem ownsRow_other {w : World} {B e size n : Nat} {v : Value} {l : List Value} (h : w.ownsRow B e size v n l) {g i : Nat} (hg : g < B) (x : Value) : (w.setCell ⟨g, i, none⟩ x).ownsRow B e size v n l := by
  refine ⟨h.1, ?_⟩
  rcases h.2 with h | ⟨g', cap, cur, e, hb, hg', r⟩
  · exact .inl h
  · exact .inr ⟨g', cap, cur, e, hb, by rw [Below.heap_setCell _ _ _ _ (by simp; omega)]; exact hg', r⟩
def leadL (C : Nat) (f : Nat → Nat → Nat) (k : Nat) : List Nat := (List.range k).map fun q => f (q / C) (q % C)
theorem leadL_snoc {C i j : Nat} (f : Nat → Nat → Nat) (hj : j < C) : leadL C f (i * C + j + 1) = leadL C f (i * C + j) ++ [f i j] := by
  unfold leadL
  rw [List.range_succ, List.map_append]
  have h1 : (i * C + j) / C = i := by rw [Nat.mul_comm, Nat.mul_add_div (by omega), Nat.div_eq_of_lt hj]; omega
  have h2 : (i * C + j) % C = j := by rw [Nat.mul_comm, Nat.mul_add_mod, Nat.mod_eq_of_lt hj]
  simp [h1, h2]
end Go.Proofs.YthdcceackfdbbaaGreatDoor
