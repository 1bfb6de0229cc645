import Derived.Test.YthdcceackfdbbaaGreatDoorM18K
import Derived.Test.YthdcceackfdbbaaGreatDoorM14K
import Derived.Test.YthdcceackfdbbaaGreatDoorProg
import Derived.Deep.QuietTactic
import Derived.WalkKit
import Derived.Lib.FieldsP
import Derived.Lib.MapLaws
/- Own text: the reader of texts: wholes. -/
namespace Go.Proofs.YthdcceackfdbbaaGreatDoor
open Go Go.RowKit

/-- a row of words -/
def StrsAt (w : World) (ao : Option Addr) (ws : List ByteArray) : Prop := ∀ (k : Nat) (x : ByteArray), ws[k]? = some x → ∃ g off : Nat, ao = some ⟨g, off, none⟩ ∧ g < w.heap.size ∧ w.cell? ⟨g, off + k, none⟩ = some (.string x)

theorem StrsAt.below {w w' : World} {ao : Option Addr} {ws : List ByteArray} (h : StrsAt w ao ws) (b : Below w.heap.size w w') : StrsAt w' ao ws := fun k x hk => by
  obtain ⟨g, off, h2, h3, h4⟩ := h k x hk
  exact ⟨g, off, h2, Nat.lt_of_lt_of_le h3 b.size, (b.cell (p := ⟨g, off + k, none⟩) h3).trans h4⟩

def intL (l : List Nat) : List Value := l.map fun (n : Nat) => .int .i64 (n : Int)

theorem wholesL_snoc {a : List (List UInt8)} {x : List UInt8} : wholesL (a ++ [x]) = match wholesL a, wholeL x with | some l, some n => some (l ++ [n]) | _, _ => none := by
  induction a with
  | nil => simp only [List.nil_append, wholesL]; cases wholeL x <;> rfl
  | cons y r ih =>
    simp only [List.cons_append, wholesL, ih]
    cases wholeL y <;> cases wholesL r <;> cases wholeL x <;> rfl

theorem wholesL_bad {a : List (List UInt8)} {k : Nat} {x : List UInt8} (h : a[k]? = some x) (hx : wholeL x = none) : wholesL a = none := by
  induction a generalizing k with
  | nil => simp at h
  | cons y r ih =>
    cases k with
    | zero => simp at h; subst h; simp only [wholesL, hx]
    | succ k => simp at h; simp only [wholesL, ih h]; cases wholeL y <;> rfl

theorem Tryz.infoInt : (Tryz.prog.info? 3).map (fun i => (i.zero, i.size, i.bytes)) = some (some (.int .i64 0), 1, 8) := by kernel_rfl

def WholesR (B : Nat) (r : Option (List Nat)) (e : Ending) (w' : World) : Prop :=
  (r = none ∧ e = .returned (.tuple #[.slice none 0 0, .bool false])) ∨ ∃ l v, r = some l ∧ e = .returned (.tuple #[v, .bool true]) ∧ w'.ownsRow B 3 1 v l.length (intL l)

set_option maxRecDepth 20000 in
set_option maxHeartbeats 1000000 in
theorem wholes_any (w : World) (ao : Option Addr) (n cap : Nat) (ws : List ByteArray) (hn : ws.length = n) (hn1 : n ≤ 1000000) (hsz : ∀ x ∈ ws, x.size ≤ 1000000) (hws : StrsAt w ao ws) :
    Calls Tryz.prog 211 #[.slice ao n cap] w fun e w' => WholesR w.heap.size (wholesL (ws.map (·.data.toList))) e w' ∧ Below w.heap.size w w' := by
  obtain ⟨b, hb⟩ : ∃ b, w.heap.size = b := ⟨_, rfl⟩
  obtain ⟨i0, hi, hz0, hz1, hz2⟩ := info_parts Tryz.infoInt
  have HI := hid hi
  have HWS := hid hws
  have HSZ := hid hsz
  clear hi hws hsz
  rw [hb]
  go_enter Tryz.func211, Tryz.ntmps211
  go_wp2
  go_loopw [4, 11] (fun v i wr => ∃ (k : Nat) (l : List Nat), k ≤ n ∧ i = .int .i64 (k : Int) ∧ Hid (wholesL ((ws.take k).map (·.data.toList)) = some l) ∧ l.length = k ∧ Hid (wr.ownsRow b 3 1 v k (intL l)) ∧ Hid (Below b w wr)) (fun _ i _ => n - (intOf i).toNat)
  case atStart => exact ⟨0, [], Nat.zero_le _, rfl, by rw [List.take_zero]; rfl, rfl, World.ownsRow_nil _ _ _ _, by rw [← hb]; exact Below.refl _ _⟩
  case round =>
    obtain ⟨k, l, hk, rfl, HL, hlk, HO, HB⟩ := hrel
    by_cases hlt : k < n
    · have hlt' : (k : Int) < n := by omega
      obtain ⟨x, hx⟩ : ∃ x, ws[k]? = some x := ⟨ws[k]'(by omega), by simp⟩
      obtain ⟨g, off, rfl, hg, hc⟩ := HWS.out k x hx
      have hc1 : wr.cell? ⟨g, off + k, none⟩ = some (.string x) := (HB.out.cell (p := ⟨g, off + k, none⟩) (by show g < b; omega)).trans hc
      have hxs := HSZ.out x (List.mem_of_getElem? hx)
      have HW := hid (mwhole_any wr x hxs)
      have HX := hid hx
      have HST : Hid (wholesL ((ws.take (k + 1)).map (·.data.toList)) = match wholeL x.data.toList with | some m => some (l ++ [m]) | none => none) := by
        show _ = _
        rw [take_snoc_get hx, List.map_append, List.map_singleton, wholesL_snoc, HL.out]
        cases wholeL x.data.toList <;> rfl
      clear hc hx
      cases hwl : wholeL x.data.toList with
      | none =>
        rw [hwl] at HW
        have HBAD : Hid (wholesL (ws.map (·.data.toList)) = none) := wholesL_bad (k := k) (by rw [List.getElem?_map, HX.out]; rfl) hwl
        clear hwl HST
        unfold tupN at HW
        go_wp2_with fail
        refine HW.out.mono ?_
        rintro e w1 ⟨rfl, hw1⟩
        rw [hw1]
        clear hw1 HW
        go_wp2
        go_ret2
        exact ⟨.inl ⟨HBAD.out, rfl⟩, HB.out⟩
      | some m =>
        rw [hwl] at HW HST
        clear hwl
        unfold tupN at HW
        have hs := HB.out.size
        go_wp2_with fail
        refine HW.out.mono ?_
        rintro e w1 ⟨rfl, hw1⟩
        rw [hw1]
        clear hw1 HW
        go_wp2_with (at_builtin; refine wpList_append_own _ rfl _ _ 25 rfl b 3 i0 (.int .i64 0) 1 8 Tryz.underlying25 HI.out hz0 hz1 hz2 rfl (by decide) _ _ _ rfl (HO.out.alloc _) ⟨wr.heap.size, 0, none⟩ 1 1 [.int .i64 (m : Int)] rfl rfl ?c1 ?c2 ?c3 ?c4 ?c5 ?_)
        case c1 => exact cell_one_new _ _ _
        case c2 => intro u hu; simp at hu; subst hu; rfl
        case c3 => unfold maxLen; omega
        case c4 => omega
        case c5 => simp; omega
        · intro v' w2 hown' hgrow _
          have b2 : Below b wr w2 := ((Below.refl _ wr).alloc (by omega) _).grown hgrow (by simp; omega) (fun q hq => (HO.out.lt q hq).1)
          have HB2 := hid (HB.out.trans b2)
          have HO2 : Hid (w2.ownsRow b 3 1 v' (k + 1) (intL (l ++ [m]))) := by
            show World.ownsRow _ _ _ _ _ _ _
            rw [show intL (l ++ [m]) = intL l ++ [.int .i64 (m : Int)] by simp [intL]]; exact hown'
          clear b2 hown' hgrow
          go_wp2
          go_round
          case rel => exact ⟨k + 1, l ++ [m], by omega, by simp, HST, by simp [hlk], HO2, HB2⟩
          case measure => simp [intOf]; omega
    · have hlt' : ¬ (k : Int) < n := by omega
      obtain rfl : k = n := by omega
      go_wp2
      go_ret2
      refine ⟨.inr ⟨l, _, ?_, rfl, by rw [hlk]; exact HO.out⟩, HB.out⟩
      have := HL.out
      rw [List.take_of_length_le (by omega)] at this
      exact this

end Go.Proofs.YthdcceackfdbbaaGreatDoor
/- Own text: containers: what their bytes are; the reader of containers, byte by byte. -/
namespace Go.Proofs.YthdcceackfdbbaaGreatDoor
open Go Go.RowKit

def markL : List UInt8 := [65, 66, 65, 67, 1]
/-- the first six bytes are as told, as far as they have come -/
def markOk (l : List UInt8) : Prop := ∀ i x, l[i]? = some x → (i < 5 → markL[i]? = some x) ∧ (i = 5 → x.toNat ≤ 1)
def rowsB (l : List UInt8) : Nat := valL ((l.drop 6).take 2)
def colsB (l : List UInt8) : Nat := valL ((l.drop 8).take 2)
def numB (l : List UInt8) (k : Nat) : Nat := valL ((l.drop (14 + 8 * k)).take 8)
def kindB (l : List UInt8) : Nat := if l[5]? = some 1 then 5 else 4
/-- the number in a row and a column -/
def fB (l : List UInt8) (i j : Nat) : Nat := if kindB l = 4 then numB l (i * colsB l + j) else numB l (j * rowsB l + i)

open Classical in
/-- the error of a container's bytes so far -/
noncomputable def boxE (l : List UInt8) : Int :=
  if ¬ markOk l then 6 else
  if l.length < 14 then 0 else
  if valL ((l.drop 10).take 4) ≠ sumL (l.take 10) then 12 else
  if 40 < rowsB l ∨ 40 < colsB l then 8 else
  if l.length < 18 + 8 * (rowsB l * colsB l) then 0 else
  if valL ((l.drop (14 + 8 * (rowsB l * colsB l))).take 4) ≠ sumL ((l.drop 14).take (8 * (rowsB l * colsB l))) then 12 else
  if ∃ k, k < rowsB l * colsB l ∧ canon (numB l k) ≠ numB l k then 1 else
  if 18 + 8 * (rowsB l * colsB l) < l.length then 6 else 0

/-- behind the head -/
structure HeadOk (l : List UInt8) : Prop where
  mark : markOk l
  len : 14 ≤ l.length
  sum : valL ((l.drop 10).take 4) = sumL (l.take 10)
  hR : rowsB l ≤ 40
  hC : colsB l ≤ 40

def stV (F p : Nat) : Value := .func (.func F) #[.pointer (some ⟨p, 0, none⟩)] #[]
def boxC (st held : Value) (kind R C : Nat) (num : Value) (whole : Bool) : List Value := [st, held, .int .i64 (kind : Int), .int .i64 (R : Int), .int .i64 (C : Int), num, .bool whole]
def BoxAt (w : World) (p : Nat) (l : List Value) : Prop := Arr w p 171 l

/-- the reader of a container that has come so far, with no error -/
def BoxIs (w : World) (p : Nat) (S : Nat → Prop) (l : List UInt8) : Prop := S p ∧
  ((l.length ≤ 5 ∧ markOk l ∧ ∃ held, Arr w p 171 (boxC (stV 115 p) held 0 0 0 (.slice none 0 0) false) ∧ RowIn w S 5 1 held l.length (u8s l)) ∨
   (6 ≤ l.length ∧ l.length < 14 ∧ markOk l ∧ ∃ held, Arr w p 171 (boxC (stV 150 p) held 0 0 0 (.slice none 0 0) false) ∧ RowIn w S 5 1 held l.length (u8s l)) ∨
   (HeadOk l ∧ l.length < 18 + 8 * (rowsB l * colsB l) ∧ ∃ held g, Arr w p 171 (boxC (stV 186 p) held (kindB l) (rowsB l) (colsB l) (.slice (some ⟨g, 0, none⟩) (rowsB l * colsB l) (rowsB l * colsB l)) false) ∧
      RowIn w S 5 1 held (l.length - 14) (u8s (l.drop 14)) ∧ Arr w g 65 (List.replicate (rowsB l * colsB l) (.int .u64 0)) ∧ S g) ∨
   (HeadOk l ∧ l.length = 18 + 8 * (rowsB l * colsB l) ∧ boxE l = 0 ∧ ∃ g v, Arr w p 171 (boxC (stV 217 p) (.slice none 0 0) (kindB l) (rowsB l) (colsB l) (.slice (some ⟨g, 0, none⟩) (rowsB l * colsB l) (rowsB l * colsB l)) true) ∧
      Arr w g 65 v ∧ MemM (colsB l) g (rowsB l) (fB l) w ∧ S g))

/-- what a state answers -/
def StepB (w : World) (p : Nat) (S : Nat → Prop) (l : List UInt8) (e : Ending) (w' : World) : Prop :=
  ∃ st : Value, e = .returned (.tuple #[st, .int .i64 (boxE l)]) ∧ (∃ F a b, st = .func F a b ∨ st = .nilFunc) ∧ Kept S w w' ∧ (∃ c, Arr w' p 171 c ∧ c.length = 7) ∧ (boxE l = 0 → BoxIs (w'.setCell ⟨p, 0, none⟩ st) p (plus S w w') l)

theorem grown_arr {w w2 : World} {S : Nat → Prop} {e t : TypeId} {size n p : Nat} {v : Value} {xs c : List Value} (hg : w.grownBy w2 v.ownBlock) (hr : RowIn w S e size v n xs) (ha : Arr w p t c) (ht : t ≠ e) : Arr w2 p t c := by
  refine (hg.block p ha.lt (fun h => ?_)).trans ha
  obtain ⟨_, c', hc⟩ := hr.lt p h.symm
  rw [show w.heap[p]? = _ from ha] at hc
  cases hc
  exact ht rfl

theorem RowIn.toPlus {w w2 w' : World} {S : Nat → Prop} {e : TypeId} {size n B : Nat} {v : Value} {xs : List Value} (h : RowIn w2 (fun q => S q ∨ B ≤ q) e size v n xs) (hB : w.heap.size ≤ B) (hw : w2.heap.size ≤ w'.heap.size) : RowIn w2 (plus S w w') e size v n xs :=
  ⟨h.row, fun g hg => (h.own g hg).imp id (fun hb => ⟨Nat.le_trans hB hb, Nat.lt_of_lt_of_le (h.lt g hg).1 hw⟩)⟩

theorem markOk_snoc {l : List UInt8} {b : UInt8} (h : markOk l) : markOk (l ++ [b]) ↔ (l.length < 5 → markL[l.length]? = some b) ∧ (l.length = 5 → b.toNat ≤ 1) := by
  constructor
  · intro h2
    have := h2 l.length b (by simp)
    exact this
  · intro h2 i x hx
    by_cases hi : i < l.length
    · rw [List.getElem?_append_left hi] at hx; exact h i x hx
    · have hi2 : i < (l ++ [b]).length := (List.getElem?_eq_some_iff.1 hx).1
      rw [List.length_append, List.length_singleton] at hi2
      obtain rfl : i = l.length := by omega
      rw [List.getElem?_append_right (Nat.le_refl _)] at hx
      simp at hx
      subst hx
      exact h2

theorem boxE_bad {l : List UInt8} (h : ¬ markOk l) : boxE l = 6 := by unfold boxE; rw [if_pos h]
theorem boxE_short {l : List UInt8} (h : markOk l) (hl : l.length < 14) : boxE l = 0 := by unfold boxE; rw [if_neg (fun k => k h), if_pos hl]

theorem u8_nil_of {l : List UInt8} (h : l.length = 0) : l = [] := List.eq_nil_of_length_eq_zero h

set_option maxRecDepth 20000 in
set_option maxHeartbeats 1000000 in
theorem begin_step (w : World) (p : Nat) (S : Nat → Prop) (l : List UInt8) (b : UInt8) (held : Value) (n : Nat) (hn : l.length = n) (hS : S p) (hl : n ≤ 5) (hm : markOk l) (ha : Arr w p 171 (boxC (stV 115 p) held 0 0 0 (.slice none 0 0) false)) (hr : RowIn w S 5 1 held n (u8s l)) :
    Calls Tryz.prog 115 #[.pointer (some ⟨p, 0, none⟩), .int .u8 (b.toNat : Int)] w fun e w' => StepB w p S (l ++ [b]) e w' := by
  have hmf : ∀ (fn : Fn) (first cap : Array Value) (w : World), (Instr.makeFunc fn first cap).run Tryz.prog w = .ok (.func fn first cap) w := fun _ _ _ _ => rfl
  obtain ⟨i0, hi, hz0, hz1, hz2⟩ := info_parts Tryz.infoU8
  have HI := hid hi
  have c1 := ha.cell (i := 1) rfl
  have HA := hid ha
  have HR := hid hr
  have HM := hid hm
  have hb8 := b.toNat_lt
  have HN := hid hn
  clear hn
  obtain ⟨ao, cap, rfl, _, _⟩ := hr.shape
  clear ha hr hm hi
  have k1 : ∀ o, (w.alloc o).cell? ⟨p, 1, none⟩ = some (.slice ao n cap) := fun o => (HA.out.alloc o).cell (i := 1) rfl
  go_enter Tryz.func115, Tryz.ntmps115
  go_wp2_with (at_builtin; refine wpList_append_mine _ rfl _ _ 72 rfl S 5 i0 (.int .u8 0) 1 1 Tryz.underlying72 HI.out hz0 hz1 hz2 rfl (by decide) _ _ _ rfl (HR.out.below (Below.refl' _ _)) ⟨w.heap.size, 0, none⟩ 1 1 [.int .u8 (b.toNat : Int)] rfl rfl ?c1 ?c2 ?c3 ?c4 ?_)
  case c1 => exact cell_one_new _ _ _
  case c2 => intro u hu; simp at hu; subst hu; rfl
  case c3 => unfold maxLen; omega
  case c4 => omega
  · intro v' w2 hrow hgrow
    have a1 : Arr (w.alloc (.cells #[.int .u8 (b.toNat : Int)] 5)) p 171 (boxC (stV 115 p) (.slice ao n cap) 0 0 0 (.slice none 0 0) false) := HA.out.alloc _
    have a2 : Arr w2 p 171 (boxC (stV 115 p) (.slice ao n cap) 0 0 0 (.slice none 0 0) false) := grown_arr hgrow (HR.out.below (Below.refl' _ _)) a1 (by decide)
    have kw : Kept S w w2 := (Kept.ofBelow (Below.refl' w _)).trans (Kept.grown hgrow (fun k hk => HR.out.own k hk)) (fun q h => .inl h)
    have d1 := a2.cell (i := 1) rfl
    have f1 := a2.frozen 1
    have hrow2 : RowIn w2 (fun q => S q ∨ w.heap.size + 1 ≤ q) 5 1 v' (n + 1) (u8s (l ++ [b])) := by
      rw [u8s_snoc]; simpa using hrow
    obtain ⟨ao', cap', rfl, _, _⟩ := hrow.shape
    have HA2 := hid a2
    have HKW := hid kw
    have HR2 := hid hrow2
    clear hrow hrow2 a1 a2 kw hgrow
    have fin : ∀ st, Hid (∀ S', S' = plus S w (w2.setCell ⟨p, 1, none⟩ (.slice ao' (n + 1) cap')) → S' p ∧ Arr ((w2.setCell ⟨p, 1, none⟩ (.slice ao' (n + 1) cap')).setCell ⟨p, 0, none⟩ st) p 171 (boxC st (.slice ao' (n + 1) cap') 0 0 0 (.slice none 0 0) false) ∧
        RowIn ((w2.setCell ⟨p, 1, none⟩ (.slice ao' (n + 1) cap')).setCell ⟨p, 0, none⟩ st) S' 5 1 (.slice ao' (n + 1) cap') (l ++ [b]).length (u8s (l ++ [b]))) := fun st S' hS' => by
      have x1 := HA2.out.set 1 (.slice ao' (n + 1) cap')
      refine ⟨by rw [hS']; exact .inl hS, x1.set 0 st, ?_⟩
      rw [hS', List.length_append, List.length_singleton, HN.out]
      exact ((HR2.out.toPlus (w' := w2.setCell ⟨p, 1, none⟩ (.slice ao' (n + 1) cap')) (by omega) (by simp [World.setCell])).set HA2.out (by decide) _).set x1 (by decide) _
    have HK : Hid (Kept S w (w2.setCell ⟨p, 1, none⟩ (.slice ao' (n + 1) cap')) ∧ ∃ c, Arr (w2.setCell ⟨p, 1, none⟩ (.slice ao' (n + 1) cap')) p 171 c ∧ c.length = 7) := ⟨HKW.out.trans (Kept.set hS _) (fun q h => .inl h), _, HA2.out.set 1 _, rfl⟩
    have bad : ¬ markOk (l ++ [b]) → Hid (StepB w p S (l ++ [b]) (.returned (.tuple #[.nilFunc, .int .i64 6])) (w2.setCell ⟨p, 1, none⟩ (.slice ao' (n + 1) cap'))) := fun h => by
      have hE := boxE_bad h
      exact ⟨_, by rw [hE], ⟨default, default, default, .inr rfl⟩, HK.out.1, HK.out.2, fun h => by rw [hE] at h; cases h⟩
    have good : markOk (l ++ [b]) → Hid (StepB w p S (l ++ [b]) (.returned (.tuple #[stV (if n = 5 then 150 else 115) p, .int .i64 0])) (w2.setCell ⟨p, 1, none⟩ (.slice ao' (n + 1) cap'))) := fun hok => by
      have hln : (l ++ [b]).length = n + 1 := by rw [List.length_append, List.length_singleton, HN.out]
      have hE : boxE (l ++ [b]) = 0 := boxE_short hok (by omega)
      refine ⟨stV (if n = 5 then 150 else 115) p, by rw [hE], ⟨_, _, _, .inl rfl⟩, HK.out.1, HK.out.2, fun _ => ?_⟩
      by_cases h5 : n = 5
      · rw [if_pos h5]
        obtain ⟨x1, x2, x3⟩ := (fin (stV 150 p)).out _ rfl
        exact ⟨x1, .inr (.inl ⟨by omega, by omega, hok, _, x2, x3⟩)⟩
      · rw [if_neg h5]
        obtain ⟨x1, x2, x3⟩ := (fin (stV 115 p)).out _ rfl
        exact ⟨x1, .inl ⟨by omega, hok, _, x2, x3⟩⟩
    have hms := markOk_snoc (b := b) HM.out
    rw [HN.out] at hms
    have HMS := hid hms
    clear hms fin
    by_cases hok : markOk (l ++ [b])
    · have hg := good hok
      have hm2 := HMS.out.1 hok
      clear good bad HMS
      rcases (by omega : n = 0 ∨ n = 1 ∨ n = 2 ∨ n = 3 ∨ n = 4 ∨ n = 5) with rfl | rfl | rfl | rfl | rfl | rfl
      · obtain rfl : b = 65 := by have := hm2.1 (by omega); simpa [markL] using this.symm
        go_wp2
        go_ret2
        exact hg.out
      · obtain rfl : b = 66 := by have := hm2.1 (by omega); simpa [markL] using this.symm
        go_wp2
        go_ret2
        exact hg.out
      · obtain rfl : b = 65 := by have := hm2.1 (by omega); simpa [markL] using this.symm
        go_wp2
        go_ret2
        exact hg.out
      · obtain rfl : b = 67 := by have := hm2.1 (by omega); simpa [markL] using this.symm
        go_wp2
        go_ret2
        exact hg.out
      · obtain rfl : b = 1 := by have := hm2.1 (by omega); simpa [markL] using this.symm
        go_wp2
        go_ret2
        exact hg.out
      · have hb' : (b.toNat : Int) ≤ 1 := by have := hm2.2 rfl; omega
        clear hm2
        go_wp2
        go_ret2
        exact hg.out
    · have hg := bad hok
      have hm2 : ¬ _ := fun h => hok (HMS.out.2 h)
      clear good bad HMS
      have ne : ∀ c : UInt8, b ≠ c → ((b.toNat : Int) == (c.toNat : Int)) = false := fun c h => by
        simp; intro e; exact h (UInt8.toNat_inj.1 (by omega))
      rcases (by omega : n = 0 ∨ n = 1 ∨ n = 2 ∨ n = 3 ∨ n = 4 ∨ n = 5) with rfl | rfl | rfl | rfl | rfl | rfl
      · have h1 : ((b.toNat : Int) == (((({ data := #[65, 66, 65, 67, 1] } : ByteArray)[0]'(by decide)).toNat : Nat) : Int)) = false := ne 65 (fun e => hm2 ⟨fun _ => by rw [e]; rfl, fun h => by omega⟩)
        clear hm2 ne
        go_wp2
        go_ret2
        exact hg.out
      · have h1 : ((b.toNat : Int) == (((({ data := #[65, 66, 65, 67, 1] } : ByteArray)[1]'(by decide)).toNat : Nat) : Int)) = false := ne 66 (fun e => hm2 ⟨fun _ => by rw [e]; rfl, fun h => by omega⟩)
        clear hm2 ne
        go_wp2
        go_ret2
        exact hg.out
      · have h1 : ((b.toNat : Int) == (((({ data := #[65, 66, 65, 67, 1] } : ByteArray)[2]'(by decide)).toNat : Nat) : Int)) = false := ne 65 (fun e => hm2 ⟨fun _ => by rw [e]; rfl, fun h => by omega⟩)
        clear hm2 ne
        go_wp2
        go_ret2
        exact hg.out
      · have h1 : ((b.toNat : Int) == (((({ data := #[65, 66, 65, 67, 1] } : ByteArray)[3]'(by decide)).toNat : Nat) : Int)) = false := ne 67 (fun e => hm2 ⟨fun _ => by rw [e]; rfl, fun h => by omega⟩)
        clear hm2 ne
        go_wp2
        go_ret2
        exact hg.out
      · have h1 : ((b.toNat : Int) == (((({ data := #[65, 66, 65, 67, 1] } : ByteArray)[4]'(by decide)).toNat : Nat) : Int)) = false := ne 1 (fun e => hm2 ⟨fun _ => by rw [e]; rfl, fun h => by omega⟩)
        clear hm2 ne
        go_wp2
        go_ret2
        exact hg.out
      · have hb' : ¬ (b.toNat : Int) ≤ 1 := fun h => hm2 ⟨fun h => by omega, fun _ => by omega⟩
        clear hm2 ne
        go_wp2
        go_ret2
        exact hg.out

end Go.Proofs.YthdcceackfdbbaaGreatDoor
/- Own text: the words of a line. -/
namespace Go.Proofs.YthdcceackfdbbaaGreatDoor
open Go Go.RowKit

def blankP (r : Nat) : Bool := decide (r = 32 ∨ r = 9 ∨ r = 13)

/-- the words of a line: what has come of one, and what is still to come -/
def wordsGo : List UInt8 → List UInt8 → List (List UInt8)
  | cur, [] => if cur = [] then [] else [cur]
  | cur, b :: r => if blankP b.toNat = true then (if cur = [] then wordsGo [] r else cur :: wordsGo [] r) else wordsGo (cur ++ [b]) r
def wordsL (l : List UInt8) : List (List UInt8) := wordsGo [] l

theorem wordsGo_skip : ∀ (chunk cur rest : List UInt8), (∀ b ∈ chunk, blankP b.toNat = false) → wordsGo cur (chunk ++ rest) = wordsGo (cur ++ chunk) rest
  | [], cur, rest, _ => by simp
  | b :: r, cur, rest, h => by
    rw [List.cons_append, wordsGo, if_neg (by rw [h b (by simp)]; simp), wordsGo_skip r (cur ++ [b]) rest (fun c hc => h c (by simp [hc]))]
    simp

theorem ext_list (s : ByteArray) (a b : Nat) : (s.extract a b).data.toList = (s.data.toList.drop a).take (b - a) := by
  simp

theorem get_bang {s : ByteArray} {i : Nat} (h : i < s.size) : s.data.toList[i]? = some (s.get! i) := by
  have hl : i < s.data.size := h
  simp only [ByteArray.get!, Array.getElem?_toList]
  rw [getElem!_pos s.data i hl, Array.getElem?_eq_getElem hl]

theorem decode_step (s : ByteArray) (pos : Nat) (h : pos < s.size) : 1 ≤ (Utf8.decode s pos).2 ∧ pos + (Utf8.decode s pos).2 ≤ s.size ∧
    (((Utf8.decode s pos).2 = 1 ∧ (Utf8.decode s pos).1 = (s.get! pos).toNat) ∨ (128 ≤ (Utf8.decode s pos).1 ∧ ∀ k, k < (Utf8.decode s pos).2 → 128 ≤ (s.get! (pos + k)).toNat)) := by
  rw [Lib.decode_at]
  have h0 := (s.get! pos).toNat_lt
  rcases Lib.decodeN_shape (s.size - pos) (s.get! pos).toNat (s.get! (pos + 1)).toNat (s.get! (pos + 2)).toNat (s.get! (pos + 3)).toNat with ⟨a1, a2⟩ | ⟨a1, a2, a3, a4, a5⟩ | ⟨a1, a2, a3, a4, a5, a6, a7⟩ | ⟨a1, a2, a3, a4, a5, a6, a7, a8⟩ | a1
  · rw [a2]; exact ⟨by simp, by simp only; omega, .inl ⟨rfl, rfl⟩⟩
  · rw [a5]
    refine ⟨by simp, by simp only; omega, .inr ⟨a4, fun k hk => ?_⟩⟩
    simp only at hk
    rcases (by omega : k = 0 ∨ k = 1) with rfl | rfl
    · rw [Nat.add_zero]; omega
    · omega
  · rw [a7]
    refine ⟨by simp, by simp only; omega, .inr ⟨by simp only; omega, fun k hk => ?_⟩⟩
    simp only at hk
    rcases (by omega : k = 0 ∨ k = 1 ∨ k = 2) with rfl | rfl | rfl
    · rw [Nat.add_zero]; omega
    · omega
    · omega
  · rw [a8]
    refine ⟨by simp, by simp only; omega, .inr ⟨by simp only; omega, fun k hk => ?_⟩⟩
    simp only at hk
    rcases (by omega : k = 0 ∨ k = 1 ∨ k = 2 ∨ k = 3) with rfl | rfl | rfl | rfl
    · rw [Nat.add_zero]; omega
    · omega
    · omega
    · omega
  · rw [a1]
    refine ⟨by simp, by simp only; omega, .inr ⟨by simp only; omega, fun k hk => ?_⟩⟩
    simp only at hk
    obtain rfl : k = 0 := by omega
    rw [Nat.add_zero]
    by_cases hb : (s.get! pos).toNat < 128
    · unfold Lib.decodeN at a1
      rw [if_pos hb] at a1
      have := congrArg Prod.fst a1
      simp only at this
      omega
    · omega

def extL (s : ByteArray) (x : Nat × Nat) : List UInt8 := (s.extract x.1 x.2).data.toList
def curL (s : ByteArray) (pos : Nat) : Option Nat → List UInt8
  | none => []
  | some a => (s.data.toList.drop a).take (pos - a)

theorem blank_ascii {r : Nat} (h : blankP r = true) : r < 128 := by
  unfold blankP at h
  have := of_decide_eq_true h
  omega

theorem spans_words (s : ByteArray) : ∀ (f pos : Nat) (st : Option Nat) (acc : List (Nat × Nat)), s.size ≤ pos + f → pos ≤ s.size → (∀ a, st = some a → a < pos) →
    (Lib.closeSpans s (Lib.spansFromP blankP s f pos st acc)).map (extL s) = acc.map (extL s) ++ wordsGo (curL s pos st) (s.data.toList.drop pos)
  | f, pos, st, acc, hf, hp, hst => by
    have hlen : s.data.toList.length = s.size := by simp
    by_cases hlt : pos < s.size
    · obtain ⟨f', rfl⟩ : ∃ f', f = f' + 1 := ⟨f - 1, by omega⟩
      obtain ⟨w1, w2, w3⟩ := decode_step s pos hlt
      unfold Lib.spansFromP
      rw [if_pos hlt]
      have hdrop : s.data.toList.drop pos = s.get! pos :: s.data.toList.drop (pos + 1) := by
        rw [List.drop_eq_getElem_cons (by omega)]
        have := get_bang hlt
        rw [List.getElem?_eq_getElem (by omega)] at this
        rw [Option.some.inj this]
      by_cases hb : blankP (Utf8.decode s pos).1 = true
      · rw [if_pos hb]
        have hr : (Utf8.decode s pos).2 = 1 ∧ (Utf8.decode s pos).1 = (s.get! pos).toNat := by
          rcases w3 with h | ⟨h, _⟩
          · exact h
          · have := blank_ascii hb; omega
        rw [hr.2] at hb
        rw [hr.1, hdrop]
        cases st with
        | none =>
          simp only
          rw [spans_words s f' (pos + 1) none acc (by omega) (by omega) (fun a h => by cases h)]
          simp only [curL]
          rw [wordsGo, if_pos hb, if_pos rfl]
        | some a =>
          simp only
          rw [spans_words s f' (pos + 1) none (acc ++ [(a, pos)]) (by omega) (by omega) (fun a h => by cases h)]
          have ha := hst a rfl
          have hne : curL s pos (some a) ≠ [] := by
            simp only [curL]
            intro h
            have := congrArg List.length h
            rw [List.length_take, List.length_drop, hlen] at this
            simp at this; omega
          rw [wordsGo, if_pos hb, if_neg hne, List.map_append, List.map_singleton, List.append_assoc]
          simp only [curL, List.singleton_append]
          rw [show extL s (a, pos) = (s.data.toList.drop a).take (pos - a) from ext_list s a pos]
      · rw [if_neg hb]
        have hchunk : ∀ b ∈ (s.data.toList.drop pos).take (Utf8.decode s pos).2, blankP b.toNat = false := by
          intro b hbm
          obtain ⟨k, hk, hke⟩ := List.getElem_of_mem hbm
          rw [List.length_take, List.length_drop, hlen] at hk
          have hk2 : ((s.data.toList.drop pos).take (Utf8.decode s pos).2)[k]? = some b := by rw [List.getElem?_eq_getElem (by rw [List.length_take, List.length_drop, hlen]; exact hk), hke]
          rw [List.getElem?_take, if_pos (by omega), List.getElem?_drop] at hk2
          rw [get_bang (by omega)] at hk2
          have hbe := Option.some.inj hk2
          rcases w3 with ⟨e1, e2⟩ | ⟨_, e2⟩
          · obtain rfl : k = 0 := by omega
            rw [Nat.add_zero] at hbe
            rw [← hbe, ← e2]; simpa using hb
          · have := e2 k (by omega)
            rw [hbe] at this
            cases hbb : blankP b.toNat with
            | false => rfl
            | true => have := blank_ascii hbb; omega
        have hsplit : s.data.toList.drop pos = (s.data.toList.drop pos).take (Utf8.decode s pos).2 ++ s.data.toList.drop (pos + (Utf8.decode s pos).2) := by
          rw [← List.drop_drop]; exact (List.take_append_drop _ _).symm
        cases st with
        | none =>
          simp only
          rw [spans_words s f' (pos + (Utf8.decode s pos).2) (some pos) acc (by omega) w2 (fun a h => by cases h; omega)]
          congr 1
          conv => rhs; rw [hsplit]
          rw [wordsGo_skip _ _ _ hchunk]
          simp only [curL, List.nil_append]
          rw [Nat.add_sub_cancel_left]
        | some a =>
          simp only
          have ha := hst a rfl
          rw [spans_words s f' (pos + (Utf8.decode s pos).2) (some a) acc (by omega) w2 (fun a' h => by cases h; omega)]
          congr 1
          conv => rhs; rw [hsplit]
          rw [wordsGo_skip _ _ _ hchunk]
          congr 1
          simp only [curL]
          rw [show pos + (Utf8.decode s pos).2 - a = (pos - a) + (Utf8.decode s pos).2 by omega, List.take_add, List.drop_drop, show a + (pos - a) = pos by omega]
    · obtain rfl : pos = s.size := by omega
      rw [Lib.spansFromP_end _ _ _ _ _ _ hlt, List.drop_of_length_le (by omega), wordsGo]
      cases st with
      | none => simp [Lib.closeSpans, curL]
      | some a =>
        have ha := hst a rfl
        have hne : curL s s.size (some a) ≠ [] := by
          simp only [curL]
          intro h
          have := congrArg List.length h
          rw [List.length_take, List.length_drop, hlen] at this
          simp at this; omega
        rw [if_neg hne]
        simp only [Lib.closeSpans, List.map_append, List.map_singleton, curL]
        rw [show extL s (a, s.size) = (s.data.toList.drop a).take (s.size - a) from ext_list s a s.size]
termination_by f => f

theorem fields_words (s : ByteArray) : (Lib.goFieldsP blankP s).map (·.data.toList) = wordsL s.data.toList := by
  unfold Lib.goFieldsP Lib.spansOfP wordsL
  rw [List.map_map]
  have := spans_words s s.size 0 none [] (by omega) (by omega) (fun a h => by cases h)
  rw [List.map_nil, List.nil_append, List.drop_zero] at this
  exact this

end Go.Proofs.YthdcceackfdbbaaGreatDoor
