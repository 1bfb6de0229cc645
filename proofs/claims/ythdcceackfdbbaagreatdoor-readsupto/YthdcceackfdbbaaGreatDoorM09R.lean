import Derived.Test.YthdcceackfdbbaaGreatDoorM05R
import Derived.Test.YthdcceackfdbbaaGreatDoorM08R
import Derived.Test.YthdcceackfdbbaaGreatDoorM06R
import Derived.Test.YthdcceackfdbbaaGreatDoorShelfQR
import Derived.Test.YthdcceackfdbbaaGreatDoorShelf3QR
import Derived.Test.YthdcceackfdbbaaGreatDoorM01R
import Derived.Deep.QuietTactic
import Derived.Laws.StructEq
import Derived.ArgAppend
import Derived.Lib.SmallJoins
import Derived.Laws.IdiomStrings
namespace Go.Proofs.YthdcceackfdbbaaGreatDoor
open Go Go.RowKit Go.Shelf
theorem isBlank_any (w : World) (x : Nat) (hx : x ≤ 1114111) : Calls Tryz.prog 277 #[.int .i32 (x : Int)] w fun e w' => e = .returned (.bool (blankP x)) ∧ w' = w := by
  by_cases h1 : x = 32
  · subst h1
    go_enter Tryz.func277, Tryz.ntmps277
    go_wp2
    go_ret
    exact ⟨rfl, rfl⟩
  · by_cases h2 : x = 9
    · subst h2
      go_enter Tryz.func277, Tryz.ntmps277
      go_wp2
      go_ret
      exact ⟨rfl, rfl⟩
    · have h1' : ((x : Int) == 32) = false := by simp; omega
      have h2' : ((x : Int) == 9) = false := by simp; omega
      have h3 : blankP x = ((x : Int) == 13) := by
        unfold blankP
        rw [Bool.eq_iff_iff]; simp; omega
      rw [h3]
      go_enter Tryz.func277, Tryz.ntmps277
      go_wp2
      go_ret
      exact ⟨rfl, rfl⟩
def lineV (A n : Nat) (c : Bool) : Value := .agg #[.slice (some ⟨A, 0, none⟩) n n, .bool c]
structure LineAt (w : World) (B A : Nat) (ws : List ByteArray) : Prop where
  lo : B ≤ A
  strs : StrsAt w (some ⟨A, 0, none⟩) ws
  lt : A < w.heap.size
set_option maxRecDepth 20000 in
set_option maxHeartbeats 1000000 in
theorem split_any (w : World) (s : ByteArray) (hs : s.size ≤ 1000000) :
    Calls Tryz.prog 275 #[.string s] w fun e w' => ∃ A ws, e = .returned (lineV A ws.length (decide (s.data.toList.head? = some 37))) ∧ ws.map (·.data.toList) = wordsL s.data.toList ∧ LineAt w' w.heap.size A ws ∧ Below w.heap.size w w' := by
  obtain ⟨b, hb⟩ : ∃ b, w.heap.size = b := ⟨_, rfl⟩
  obtain ⟨V, hV⟩ : ∃ V, w.alloc (.cells #[.slice none 0 0, .bool false] 213) = V := ⟨_, rfl⟩
  have rV : Arr V b 213 [.slice none 0 0, .bool false] := by rw [← hV, ← hb]; exact Arr.newL w _ _
  have bV : Below b w V := by rw [← hV, ← hb]; exact Below.refl' _ _
  have zV : V.heap.size = b + 1 := by rw [← hV]; simp [hb]
  have hpred : PredAtRunes Tryz.prog 277 #[] blankP V := fun W x hx _ => (isBlank_any W x hx).mono (fun e w' h => ⟨h.1, 0, h.2⟩)
  have HF := hid (Tryz.strings_FieldsFunc_runes 277 #[] (enters_of Tryz.func277 (by kernel_rfl) rfl) blankP s V (by omega) hpred)
  have hpre : Lib.hasPrefix s.data.toList [37] = decide (s.data.toList.head? = some 37) := by
    cases s.data.toList with
    | nil => rfl
    | cons c r =>
      simp only [Lib.hasPrefix, List.isPrefixOf, Bool.and_true, List.head?_cons, Option.some.injEq]
      rw [Bool.eq_iff_iff, beq_iff_eq, decide_eq_true_iff]; exact eq_comm
  obtain ⟨cb, hcb⟩ : ∃ cb, decide (s.data.toList.head? = some 37) = cb := ⟨_, rfl⟩
  rw [hcb] at hpre ⊢
  clear hcb
  have HPR := hid hpre
  have HV := hid hV
  have HRV := hid rV
  have HBV := hid bV
  have HFW := hid (fields_words s)
  clear hV rV bV hpred hpre
  generalize Lib.goFieldsP blankP s = ws at *
  go_enter Tryz.func275, Tryz.ntmps275
  go_wp2_with fail
  rw [HV.out]
  refine HF.out.mono ?_
  rintro e W1 ⟨A, rfl, hA, hown, b1⟩
  have HOW := hid hown
  have HB1 := hid b1
  clear hown b1 HF
  go_wp2_with fail
  refine (Tryz.strings_HasPrefix s _ _).mono ?_
  rintro e w2 ⟨rfl, hw2⟩
  rw [hw2]
  clear hw2
  rw [show (({ data := #[37] } : ByteArray)).data.toList = [37] from rfl, HPR.out]
  clear HPR
  have r1 := HRV.out.belowAll HB1.out
  have x0 := r1.cell (i := 0) rfl
  have y0 := r1.frozen 0
  have x1 := (r1.set 0 (.slice (some ⟨A, 0, none⟩) ws.length ws.length)).cell (i := 1) rfl
  have y1 := (r1.set 0 (.slice (some ⟨A, 0, none⟩) ws.length ws.length)).frozen 1
  have HR1 := hid r1
  clear r1
  go_wp2
  have r3 := (HR1.out.set 0 (.slice (some ⟨A, 0, none⟩) ws.length ws.length)).set 1 (.bool cb)
  have z0 := r3.cell (i := 0) rfl
  have z1 := r3.cell (i := 1) rfl
  refine bodyPost_ret (v := lineV A ws.length cb) (by simp [results, Tryz.results275, go_sem, lineV, z0, z1]) rfl ⟨A, ws, rfl, HFW.out, ⟨by omega, ?_, ?_⟩, ?_⟩
  · intro k x hx
    have hne : A ≠ b := by omega
    refine ⟨A, 0, rfl, ?_, ?_⟩
    · have := (HOW.out.lt A rfl).2; simpa [World.setCell] using this
    · rw [Nat.zero_add]
      obtain ⟨h0, ⟨h1, _⟩ | ⟨g', cap', cur, e1, hB, h2, h3, h4, h5, h6⟩⟩ := HOW.out
      · cases h1
      · simp only [Value.slice.injEq, Option.some.injEq, Addr.mk.injEq] at e1
        obtain ⟨⟨rfl, _⟩, _, rfl⟩ := e1
        have hk : k < ws.length := (List.getElem?_eq_some_iff.1 hx).1
        have h7 : (cur.toList.take (ws.length * 1))[k]? = (ws.map Value.string)[k]? := by rw [h6]
        rw [List.getElem?_take, if_pos (by omega), List.getElem?_map, hx] at h7
        have ha : Arr W1 A 9 cur.toList := by unfold Arr; rw [Array.toArray_toList]; exact h2
        exact ((ha.other _ hne).other _ hne).cell h7
  · have := (HOW.out.lt A rfl).2; simpa [World.setCell] using this
  · rw [hb]
    exact ((HBV.out.trans (HB1.out.mono (by omega))).setCell (p := ⟨b, 0, none⟩) (Nat.le_refl _) _).setCell (p := ⟨b, 1, none⟩) (Nat.le_refl _) _
end Go.Proofs.YthdcceackfdbbaaGreatDoor
namespace Go.Proofs.YthdcceackfdbbaaGreatDoor
open Go Go.RowKit
def PlcsAt (w : World) (ao : Option Addr) (ps : List (Nat × Nat)) : Prop := ∀ (k : Nat) (q : Nat × Nat), ps[k]? = some q → ∃ g : Nat, ao = some ⟨g, 0, none⟩ ∧ g < w.heap.size ∧ w.cell? ⟨g, k * 2, none⟩ = some (.int .i64 (q.1 : Int)) ∧ w.cell? ⟨g, k * 2 + 1, none⟩ = some (.int .i64 (q.2 : Int))
def eqB (x y a b : Int) : Bool := decide (a = x ∧ b = y)
def isAt (x y : Int) (q : Nat × Nat) : Bool := eqB x y (q.1 : Int) (q.2 : Int)
def idxP (ps : List (Nat × Nat)) (x y : Int) : Option Nat := ps.findIdx? (isAt x y)
def idxV : Option Nat → Int
  | some k => k
  | none => -1
theorem idxP_none {ps : List (Nat × Nat)} {x y : Int} (h : ∀ (k : Nat) q, ps[k]? = some q → isAt x y q = false) : idxP ps x y = none := by
  unfold idxP
  rw [List.findIdx?_eq_none_iff]
  intro q hq
  obtain ⟨k, hk, he⟩ := List.getElem_of_mem hq
  exact h k q (by rw [List.getElem?_eq_getElem hk, he])
theorem idxP_some {ps : List (Nat × Nat)} {x y : Int} {k : Nat} {q : Nat × Nat} (h : ps[k]? = some q) (hq : isAt x y q = true) (h2 : ∀ (j : Nat) p, j < k → ps[j]? = some p → isAt x y p = false) : idxP ps x y = some k := by
  unfold idxP
  have hk : k < ps.length := (List.getElem?_eq_some_iff.1 h).1
  rw [List.findIdx?_eq_some_iff_getElem]
  refine ⟨hk, ?_, fun j hj => ?_⟩
  · rw [(List.getElem?_eq_some_iff.1 h).2]; exact hq
  · have := h2 j (ps[j]'(by omega)) hj (List.getElem?_eq_getElem (by omega))
    rw [this]; simp
theorem plc_guard (w : World) (x y : Operand) (xs ys : Array Value) : (eqGuard .eql 117 x y (.agg xs) (.agg ys)).run Tryz.prog w = .ok () w := run_eqGuard_agg w .eql _ x y xs ys (by kernel_rfl)
theorem plc_eql (w : World) (x y a b : Int) : (binOp .eql 117 (.agg #[.int .i64 x, .int .i64 y]) (.agg #[.int .i64 a, .int .i64 b])).run Tryz.prog w = .ok (.bool (eqB x y a b)) w := by
  have hu := Tryz.underlying117
  obtain ⟨fs, hfs⟩ : ∃ fs, fs = (#[{ name := "Row", type := 3, offset := 0, embedded := false, tag := "", pkgPath := "", byteOffset := 0 }, { name := "Col", type := 3, offset := 1, embedded := false, tag := "", pkgPath := "", byteOffset := 8 }] : Array Field) := ⟨_, rfl⟩
  rw [← hfs] at hu
  have hf : Tryz.prog.fieldsOf 117 = fs := by unfold Program.fieldsOf; rw [hu]
  rw [run_eql_struct, run_equalIn_struct w 9999 117 _ _ (by rw [hf]; exact hu) (by kernel_rfl), hf, hfs]
  have hi := Tryz.underlying3
  simp [Op.eqFields, go_sem, part, hi]
  unfold eqB
  by_cases h1 : x = a
  · by_cases h2 : y = b
    · rw [if_pos h1, if_pos h2]; simp [h1, h2]
    · rw [if_pos h1, if_neg h2]; simp [h1, Ne.symm h2]
  · rw [if_neg h1]; simp [Ne.symm h1]
set_option maxRecDepth 20000 in
set_option maxHeartbeats 1000000 in
theorem index_any (w : World) (ao : Option Addr) (n cap : Nat) (ps : List (Nat × Nat)) (x y : Int) (hn : ps.length = n) (hn1 : n ≤ 1000000) (hps : PlcsAt w ao ps) :
    Calls Tryz.prog 234 #[.slice ao n cap, .agg #[.int .i64 x, .int .i64 y]] w fun e w' => e = .returned (.int .i64 (idxV (idxP ps x y))) ∧ Below w.heap.size w w' := by
  obtain ⟨b, hb⟩ : ∃ b, w.heap.size = b := ⟨_, rfl⟩
  obtain ⟨r, hr⟩ : ∃ r, idxP ps x y = r := ⟨_, rfl⟩
  rw [hr, hb]
  have HR := hid hr
  have HPS := hid hps
  clear hr hps
  obtain ⟨V, hV⟩ : ∃ V, w.alloc (.cells #[.int .i64 x, .int .i64 y] 117) = V := ⟨_, rfl⟩
  have aV : Arr V b 117 [.int .i64 x, .int .i64 y] := by rw [← hV, ← hb]; exact Arr.newL w _ _
  have bV : Below b w V := by rw [← hV, ← hb]; exact Below.refl' _ _
  have HV := hid hV
  have HAV := hid aV
  have HBV := hid bV
  clear hV aV bV
  go_enter Tryz.func234, Tryz.ntmps234
  go_wp2
  rw [HV.out]
  go_loopw [8] (fun i wr => ∃ k m : Nat, k ≤ n ∧ i = .int .i64 (k : Int) ∧ wr = V.drewN m ∧ Hid (∀ (j : Nat) p, j < k → ps[j]? = some p → isAt x y p = false)) (fun i _ => n - (intOf i).toNat)
  case atStart => exact ⟨0, 0, Nat.zero_le _, rfl, (World.drewN_zero V).symm, fun j p h => by omega⟩
  case round =>
    obtain ⟨k, m, hk, rfl, rfl, HN⟩ := hrel
    by_cases hlt : k < n
    · have hlt' : (k : Int) < n := by omega
      obtain ⟨q, hq⟩ : ∃ q, ps[k]? = some q := ⟨ps[k]'(by omega), by simp⟩
      obtain ⟨g, rfl, hg, hc0, hc1⟩ := HPS.out k q hq
      have d0 : V.cell? ⟨g, k * 2, none⟩ = some (.int .i64 (q.1 : Int)) := (HBV.out.cell (p := ⟨g, k * 2, none⟩) (by show g < b; omega)).trans hc0
      have d1 : V.cell? ⟨g, k * 2 + 1, none⟩ = some (.int .i64 (q.2 : Int)) := (HBV.out.cell (p := ⟨g, k * 2 + 1, none⟩) (by show g < b; omega)).trans hc1
      have x0 := HAV.out.cell (i := 0) rfl
      have x1 := HAV.out.cell (i := 1) rfl
      have HQ := hid hq
      clear hc0 hc1 hq
      obtain ⟨ev, hev⟩ : ∃ ev, eqB x y (q.1 : Int) (q.2 : Int) = ev := ⟨_, rfl⟩
      have HEV : Hid (isAt x y q = ev) := hev
      have hE := fun w => plc_eql w x y (q.1 : Int) (q.2 : Int)
      rw [hev] at hE
      clear hev
      have hG := plc_guard
      obtain ⟨Vd, hVd⟩ : ∃ Vd, V.drewN m = Vd := ⟨_, rfl⟩
      have e0 : Vd.cell? ⟨g, k * 2, none⟩ = some (.int .i64 (q.1 : Int)) := by rw [← hVd]; exact d0
      have e1 : Vd.cell? ⟨g, k * 2 + 1, none⟩ = some (.int .i64 (q.2 : Int)) := by rw [← hVd]; exact d1
      have f0 : Vd.cell? ⟨b, 0, none⟩ = some (.int .i64 x) := by rw [← hVd]; exact x0
      have f1 : Vd.cell? ⟨b, 1, none⟩ = some (.int .i64 y) := by rw [← hVd]; exact x1
      rw [hVd]
      have HVD := hid hVd
      clear hVd d0 d1 x0 x1
      go_wp2
      go_quiet (fail)
      have hwn : Vd.drewN nq = V.drewN (m + nq) := by rw [← HVD.out, World.drewN_drewN]
      rw [hwn]
      clear hwn e0 e1 f0 f1
      cases ev with
      | true =>
        have hrs : r = some k := by rw [← HR.out]; exact idxP_some HQ.out HEV.out HN.out
        subst hrs
        go_wp2
        go_ret
        exact ⟨rfl, below_dn HBV.out _⟩
      | false =>
        go_wp2
        go_round
        case rel =>
          refine ⟨k + 1, m + nq, by omega, by simp, rfl, fun j p hj hp => ?_⟩
          by_cases e : j = k
          · subst e; rw [HQ.out] at hp; cases hp; exact HEV.out
          · exact HN.out j p (by omega) hp
        case measure => simp [intOf]; omega
    · have hlt' : ¬ (k : Int) < n := by omega
      have hrs : r = none := by
        rw [← HR.out]
        exact idxP_none (fun j q hq => HN.out j q (by have := (List.getElem?_eq_some_iff.1 hq).1; omega) hq)
      subst hrs
      go_wp2
      go_ret
      exact ⟨rfl, below_dn HBV.out _⟩
end Go.Proofs.YthdcceackfdbbaaGreatDoor
namespace Go.Proofs.YthdcceackfdbbaaGreatDoor
open Go Go.RowKit Go.Shelf
attribute [local go_sem] Oper.semAt_some
theorem MemM.below {W W' : World} {B R C g : Nat} {f : Nat → Nat → Nat} (h : MemM C g R f W) (b : Below B W W') (hg : g < B) : MemM C g R f W' :=
  ⟨Nat.lt_of_lt_of_le h.1 b.size, fun i j hi hj => (b.cell (p := ⟨g, i * C + j, none⟩) hg).trans (h.2 i j hi hj)⟩
theorem Below.ofSim {b B : Nat} {W W' : World} (s : Sim B W W') (hb : b ≤ B) (hs : b ≤ W.heap.size) : Below b W W' :=
  ⟨s.os, s.tape, s.output, s.size, fun q hq => by
    obtain ⟨o, ho⟩ : ∃ o, W.heap[q]? = some o := ⟨W.heap[q]'(by omega), by simp⟩
    exact (s.block q o ho (.inl (by omega))).trans ho.symm⟩
end Go.Proofs.YthdcceackfdbbaaGreatDoor
namespace Go.Proofs.YthdcceackfdbbaaGreatDoor
open Go Go.RowKit Go.Shelf
attribute [local go_sem] Oper.semAt_some
end Go.Proofs.YthdcceackfdbbaaGreatDoor
namespace Go.Proofs.YthdcceackfdbbaaGreatDoor
open Go Go.RowKit
end Go.Proofs.YthdcceackfdbbaaGreatDoor
namespace Go.Proofs.YthdcceackfdbbaaGreatDoor
open Go Go.RowKit
end Go.Proofs.YthdcceackfdbbaaGreatDoor
