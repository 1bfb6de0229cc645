import Derived.Test.YthdcceackfdbbaaGreatDoorM07R
import Derived.Test.YthdcceackfdbbaaGreatDoorM02R
import Derived.Deep.RegionHeld
namespace Go.Proofs.YthdcceackfdbbaaGreatDoor
open Go Go.RowKit Go.Shelf
attribute [local go_sem] Oper.semAt_some
def canon (x : Nat) : Nat := if 9218868437227405312 < x % 9223372036854775808 then 9221120237041090560 else x
def CanonOk : Prop := ∀ (w : World) (x : Nat), x < 18446744073709551616 → Calls Tryz.prog 102 #[.int .u64 (x : Int)] w fun e w' => e = .returned (.int .u64 (canon x : Int)) ∧ w' = w
theorem places_rows (w : World) (R C g : Nat) :
    Calls Tryz.prog 63 #[matV R C g, .int .i64 4] w fun e w' => e = .returned (.func (.func 97) #[matV R C g] #[]) ∧ w' = w.alloc (matO R C g) :=
  places_any w 4 R C g (by omega)
end Go.Proofs.YthdcceackfdbbaaGreatDoor
namespace Go.Proofs.YthdcceackfdbbaaGreatDoor
open Go Go.RowKit
def markL : List UInt8 := [65, 66, 65, 67, 1]
def markOk (l : List UInt8) : Prop := ∀ i x, l[i]? = some x → (i < 5 → markL[i]? = some x) ∧ (i = 5 → x.toNat ≤ 1)
def rowsB (l : List UInt8) : Nat := valL ((l.drop 6).take 2)
def colsB (l : List UInt8) : Nat := valL ((l.drop 8).take 2)
def numB (l : List UInt8) (k : Nat) : Nat := valL ((l.drop (14 + 8 * k)).take 8)
def kindB (l : List UInt8) : Nat := if l[5]? = some 1 then 5 else 4
def fB (l : List UInt8) (i j : Nat) : Nat := if kindB l = 4 then numB l (i * colsB l + j) else numB l (j * rowsB l + i)
open Classical in
noncomputable def boxE (l : List UInt8) : Int :=
  if ¬ markOk l then 6 else
  if l.length < 14 then 0 else
  if valL ((l.drop 10).take 4) ≠ sumL (l.take 10) then 12 else
  if 40 < rowsB l ∨ 40 < colsB l then 8 else
  if l.length < 18 + 8 * (rowsB l * colsB l) then 0 else
  if valL ((l.drop (14 + 8 * (rowsB l * colsB l))).take 4) ≠ sumL ((l.drop 14).take (8 * (rowsB l * colsB l))) then 12 else
  if ∃ k, k < rowsB l * colsB l ∧ canon (numB l k) ≠ numB l k then 1 else
  if 18 + 8 * (rowsB l * colsB l) < l.length then 6 else 0
structure HeadOk (l : List UInt8) : Prop where
  mark : markOk l
  len : 14 ≤ l.length
  sum : valL ((l.drop 10).take 4) = sumL (l.take 10)
  hR : rowsB l ≤ 40
  hC : colsB l ≤ 40
def stV (F p : Nat) : Value := .func (.func F) #[.pointer (some ⟨p, 0, none⟩)] #[]
def boxC (st held : Value) (kind R C : Nat) (num : Value) (whole : Bool) : List Value := [st, held, .int .i64 (kind : Int), .int .i64 (R : Int), .int .i64 (C : Int), num, .bool whole]
def BoxIs (w : World) (p : Nat) (S : Nat → Prop) (l : List UInt8) : Prop := S p ∧
  ((l.length ≤ 5 ∧ markOk l ∧ ∃ held, Arr w p 171 (boxC (stV 115 p) held 0 0 0 (.slice none 0 0) false) ∧ RowIn w S 5 1 held l.length (u8s l)) ∨
   (6 ≤ l.length ∧ l.length < 14 ∧ markOk l ∧ ∃ held, Arr w p 171 (boxC (stV 150 p) held 0 0 0 (.slice none 0 0) false) ∧ RowIn w S 5 1 held l.length (u8s l)) ∨
   (HeadOk l ∧ l.length < 18 + 8 * (rowsB l * colsB l) ∧ ∃ held g, Arr w p 171 (boxC (stV 186 p) held (kindB l) (rowsB l) (colsB l) (.slice (some ⟨g, 0, none⟩) (rowsB l * colsB l) (rowsB l * colsB l)) false) ∧
      RowIn w S 5 1 held (l.length - 14) (u8s (l.drop 14)) ∧ Arr w g 65 (List.replicate (rowsB l * colsB l) (.int .u64 0)) ∧ S g) ∨
   (HeadOk l ∧ l.length = 18 + 8 * (rowsB l * colsB l) ∧ boxE l = 0 ∧ ∃ g v, Arr w p 171 (boxC (stV 217 p) (.slice none 0 0) (kindB l) (rowsB l) (colsB l) (.slice (some ⟨g, 0, none⟩) (rowsB l * colsB l) (rowsB l * colsB l)) true) ∧
      Arr w g 65 v ∧ MemM (colsB l) g (rowsB l) (fB l) w ∧ S g))
def StepB (w : World) (p : Nat) (S : Nat → Prop) (l : List UInt8) (e : Ending) (w' : World) : Prop :=
  ∃ st : Value, e = .returned (.tuple #[st, .int .i64 (boxE l)]) ∧ (∃ F a b, st = .func F a b ∨ st = .nilFunc) ∧ Kept S w w' ∧ (∃ c, Arr w' p 171 c ∧ c.length = 7) ∧ (boxE l = 0 → BoxIs (w'.setCell ⟨p, 0, none⟩ st) p (plus S w w') l)
theorem grown_arr {w w2 : World} {S : Nat → Prop} {e t : TypeId} {size n p : Nat} {v : Value} {xs c : List Value} (hg : w.grownBy w2 v.ownBlock) (hr : RowIn w S e size v n xs) (ha : Arr w p t c) (ht : t ≠ e) : Arr w2 p t c := by
  refine (hg.block p ha.lt (fun h => ?_)).trans ha
  obtain ⟨_, c', hc⟩ := hr.lt p h.symm
  rw [show w.heap[p]? = _ from ha] at hc
  cases hc
  exact ht rfl
theorem RowIn.toPlus {w w2 w' : World} {S : Nat → Prop} {e : TypeId} {size n B : Nat} {v : Value} {xs : List Value} (h : RowIn w2 (fun q => S q ∨ B ≤ q) e size v n xs) (hB : w.heap.size ≤ B) (hw : w2.heap.size ≤ w'.heap.size) : RowIn w2 (plus S w w') e size v n xs :=
  ⟨h.row, fun g hg => (h.own g hg).imp id (fun hb => ⟨Nat.le_trans hB hb, Nat.lt_of_lt_of_le (h.lt g hg).1 hw⟩)⟩
theorem markOk_snoc {l : List UInt8} {b : UInt8} (h : markOk l) : markOk (l ++ [b]) ↔ (l.length < 5 → markL[l.length]? = some b) ∧ (l.length = 5 → b.toNat ≤ 1) := by
  constructor
  · intro h2
    have := h2 l.length b (by simp)
    exact this
  · intro h2 i x hx
    by_cases hi : i < l.length
    · rw [List.getElem?_append_left hi] at hx; exact h i x hx
    · have hi2 : i < (l ++ [b]).length := (List.getElem?_eq_some_iff.1 hx).1
      rw [List.length_append, List.length_singleton] at hi2
      obtain rfl : i = l.length := by omega
      rw [List.getElem?_append_right (Nat.le_refl _)] at hx
      simp at hx
      subst hx
      exact h2
theorem boxE_bad {l : List UInt8} (h : ¬ markOk l) : boxE l = 6 := by unfold boxE; rw [if_pos h]
theorem boxE_short {l : List UInt8} (h : markOk l) (hl : l.length < 14) : boxE l = 0 := by unfold boxE; rw [if_neg (fun k => k h), if_pos hl]
set_option maxRecDepth 20000 in
set_option maxHeartbeats 1000000 in
theorem begin_step (w : World) (p : Nat) (S : Nat → Prop) (l : List UInt8) (b : UInt8) (held : Value) (n : Nat) (hn : l.length = n) (hS : S p) (hl : n ≤ 5) (hm : markOk l) (ha : Arr w p 171 (boxC (stV 115 p) held 0 0 0 (.slice none 0 0) false)) (hr : RowIn w S 5 1 held n (u8s l)) :
    Calls Tryz.prog 115 #[.pointer (some ⟨p, 0, none⟩), .int .u8 (b.toNat : Int)] w fun e w' => StepB w p S (l ++ [b]) e w' := by
  have hmf : ∀ (fn : Fn) (first cap : Array Value) (w : World), (Instr.makeFunc fn first cap).run Tryz.prog w = .ok (.func fn first cap) w := fun _ _ _ _ => rfl
  obtain ⟨i0, hi, hz0, hz1, hz2⟩ := info_parts Tryz.infoU8
  have HI := hid hi
  have c1 := ha.cell (i := 1) rfl
  have HA := hid ha
  have HR := hid hr
  have HM := hid hm
  have hb8 := b.toNat_lt
  have HN := hid hn
  clear hn
  obtain ⟨ao, cap, rfl, _, _⟩ := hr.shape
  clear ha hr hm hi
  have k1 : ∀ o, (w.alloc o).cell? ⟨p, 1, none⟩ = some (.slice ao n cap) := fun o => (HA.out.alloc o).cell (i := 1) rfl
  go_enter Tryz.func115, Tryz.ntmps115
  go_wp2_with (at_builtin; refine wpList_append_mine _ rfl _ _ 72 rfl S 5 i0 (.int .u8 0) 1 1 Tryz.underlying72 HI.out hz0 hz1 hz2 rfl (by decide) _ _ _ rfl (HR.out.below (Below.refl' _ _)) ⟨w.heap.size, 0, none⟩ 1 1 [.int .u8 (b.toNat : Int)] rfl rfl ?c1 ?c2 ?c3 ?c4 ?_)
  case c1 => exact cell_one_new _ _ _
  case c2 => intro u hu; simp at hu; subst hu; rfl
  case c3 => unfold maxLen; omega
  case c4 => omega
  · intro v' w2 hrow hgrow
    have a1 : Arr (w.alloc (.cells #[.int .u8 (b.toNat : Int)] 5)) p 171 (boxC (stV 115 p) (.slice ao n cap) 0 0 0 (.slice none 0 0) false) := HA.out.alloc _
    have a2 : Arr w2 p 171 (boxC (stV 115 p) (.slice ao n cap) 0 0 0 (.slice none 0 0) false) := grown_arr hgrow (HR.out.below (Below.refl' _ _)) a1 (by decide)
    have kw : Kept S w w2 := (Kept.ofBelow (Below.refl' w _)).trans (Kept.grown hgrow (fun k hk => HR.out.own k hk)) (fun q h => .inl h)
    have d1 := a2.cell (i := 1) rfl
    have f1 := a2.frozen 1
    have hrow2 : RowIn w2 (fun q => S q ∨ w.heap.size + 1 ≤ q) 5 1 v' (n + 1) (u8s (l ++ [b])) := by
      rw [u8s_snoc]; simpa using hrow
    obtain ⟨ao', cap', rfl, _, _⟩ := hrow.shape
    have HA2 := hid a2
    have HKW := hid kw
    have HR2 := hid hrow2
    clear hrow hrow2 a1 a2 kw hgrow
    have fin : ∀ st, Hid (∀ S', S' = plus S w (w2.setCell ⟨p, 1, none⟩ (.slice ao' (n + 1) cap')) → S' p ∧ Arr ((w2.setCell ⟨p, 1, none⟩ (.slice ao' (n + 1) cap')).setCell ⟨p, 0, none⟩ st) p 171 (boxC st (.slice ao' (n + 1) cap') 0 0 0 (.slice none 0 0) false) ∧
        RowIn ((w2.setCell ⟨p, 1, none⟩ (.slice ao' (n + 1) cap')).setCell ⟨p, 0, none⟩ st) S' 5 1 (.slice ao' (n + 1) cap') (l ++ [b]).length (u8s (l ++ [b]))) := fun st S' hS' => by
      have x1 := HA2.out.set 1 (.slice ao' (n + 1) cap')
      refine ⟨by rw [hS']; exact .inl hS, x1.set 0 st, ?_⟩
      rw [hS', List.length_append, List.length_singleton, HN.out]
      exact ((HR2.out.toPlus (w' := w2.setCell ⟨p, 1, none⟩ (.slice ao' (n + 1) cap')) (by omega) (by simp [World.setCell])).set HA2.out (by decide) _).set x1 (by decide) _
    have HK : Hid (Kept S w (w2.setCell ⟨p, 1, none⟩ (.slice ao' (n + 1) cap')) ∧ ∃ c, Arr (w2.setCell ⟨p, 1, none⟩ (.slice ao' (n + 1) cap')) p 171 c ∧ c.length = 7) := ⟨HKW.out.trans (Kept.set hS _) (fun q h => .inl h), _, HA2.out.set 1 _, rfl⟩
    have bad : ¬ markOk (l ++ [b]) → Hid (StepB w p S (l ++ [b]) (.returned (.tuple #[.nilFunc, .int .i64 6])) (w2.setCell ⟨p, 1, none⟩ (.slice ao' (n + 1) cap'))) := fun h => by
      have hE := boxE_bad h
      exact ⟨_, by rw [hE], ⟨default, default, default, .inr rfl⟩, HK.out.1, HK.out.2, fun h => by rw [hE] at h; cases h⟩
    have good : markOk (l ++ [b]) → Hid (StepB w p S (l ++ [b]) (.returned (.tuple #[stV (if n = 5 then 150 else 115) p, .int .i64 0])) (w2.setCell ⟨p, 1, none⟩ (.slice ao' (n + 1) cap'))) := fun hok => by
      have hln : (l ++ [b]).length = n + 1 := by rw [List.length_append, List.length_singleton, HN.out]
      have hE : boxE (l ++ [b]) = 0 := boxE_short hok (by omega)
      refine ⟨stV (if n = 5 then 150 else 115) p, by rw [hE], ⟨_, _, _, .inl rfl⟩, HK.out.1, HK.out.2, fun _ => ?_⟩
      by_cases h5 : n = 5
      · rw [if_pos h5]
        obtain ⟨x1, x2, x3⟩ := (fin (stV 150 p)).out _ rfl
        exact ⟨x1, .inr (.inl ⟨by omega, by omega, hok, _, x2, x3⟩)⟩
      · rw [if_neg h5]
        obtain ⟨x1, x2, x3⟩ := (fin (stV 115 p)).out _ rfl
        exact ⟨x1, .inl ⟨by omega, hok, _, x2, x3⟩⟩
    have hms := markOk_snoc (b := b) HM.out
    rw [HN.out] at hms
    have HMS := hid hms
    clear hms fin
    by_cases hok : markOk (l ++ [b])
    · have hg := good hok
      have hm2 := HMS.out.1 hok
      clear good bad HMS
      rcases (by omega : n = 0 ∨ n = 1 ∨ n = 2 ∨ n = 3 ∨ n = 4 ∨ n = 5) with rfl | rfl | rfl | rfl | rfl | rfl
      · obtain rfl : b = 65 := by have := hm2.1 (by omega); simpa [markL] using this.symm
        go_wp2
        go_ret2
        exact hg.out
      · obtain rfl : b = 66 := by have := hm2.1 (by omega); simpa [markL] using this.symm
        go_wp2
        go_ret2
        exact hg.out
      · obtain rfl : b = 65 := by have := hm2.1 (by omega); simpa [markL] using this.symm
        go_wp2
        go_ret2
        exact hg.out
      · obtain rfl : b = 67 := by have := hm2.1 (by omega); simpa [markL] using this.symm
        go_wp2
        go_ret2
        exact hg.out
      · obtain rfl : b = 1 := by have := hm2.1 (by omega); simpa [markL] using this.symm
        go_wp2
        go_ret2
        exact hg.out
      · have hb' : (b.toNat : Int) ≤ 1 := by have := hm2.2 rfl; omega
        clear hm2
        go_wp2
        go_ret2
        exact hg.out
    · have hg := bad hok
      have hm2 : ¬ _ := fun h => hok (HMS.out.2 h)
      clear good bad HMS
      have ne : ∀ c : UInt8, b ≠ c → ((b.toNat : Int) == (c.toNat : Int)) = false := fun c h => by
        simp; intro e; exact h (UInt8.toNat_inj.1 (by omega))
      rcases (by omega : n = 0 ∨ n = 1 ∨ n = 2 ∨ n = 3 ∨ n = 4 ∨ n = 5) with rfl | rfl | rfl | rfl | rfl | rfl
      · have h1 : ((b.toNat : Int) == (((({ data := #[65, 66, 65, 67, 1] } : ByteArray)[0]'(by decide)).toNat : Nat) : Int)) = false := ne 65 (fun e => hm2 ⟨fun _ => by rw [e]; rfl, fun h => by omega⟩)
        clear hm2 ne
        go_wp2
        go_ret2
        exact hg.out
      · have h1 : ((b.toNat : Int) == (((({ data := #[65, 66, 65, 67, 1] } : ByteArray)[1]'(by decide)).toNat : Nat) : Int)) = false := ne 66 (fun e => hm2 ⟨fun _ => by rw [e]; rfl, fun h => by omega⟩)
        clear hm2 ne
        go_wp2
        go_ret2
        exact hg.out
      · have h1 : ((b.toNat : Int) == (((({ data := #[65, 66, 65, 67, 1] } : ByteArray)[2]'(by decide)).toNat : Nat) : Int)) = false := ne 65 (fun e => hm2 ⟨fun _ => by rw [e]; rfl, fun h => by omega⟩)
        clear hm2 ne
        go_wp2
        go_ret2
        exact hg.out
      · have h1 : ((b.toNat : Int) == (((({ data := #[65, 66, 65, 67, 1] } : ByteArray)[3]'(by decide)).toNat : Nat) : Int)) = false := ne 67 (fun e => hm2 ⟨fun _ => by rw [e]; rfl, fun h => by omega⟩)
        clear hm2 ne
        go_wp2
        go_ret2
        exact hg.out
      · have h1 : ((b.toNat : Int) == (((({ data := #[65, 66, 65, 67, 1] } : ByteArray)[4]'(by decide)).toNat : Nat) : Int)) = false := ne 1 (fun e => hm2 ⟨fun _ => by rw [e]; rfl, fun h => by omega⟩)
        clear hm2 ne
        go_wp2
        go_ret2
        exact hg.out
      · have hb' : ¬ (b.toNat : Int) ≤ 1 := fun h => hm2 ⟨fun h => by omega, fun _ => by omega⟩
        clear hm2 ne
        go_wp2
        go_ret2
        exact hg.out
end Go.Proofs.YthdcceackfdbbaaGreatDoor
