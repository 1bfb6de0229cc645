import Derived.Test.YthdcceackfdbbabGreatDoorM06P
import Derived.Test.YthdcceackfdbbabGreatDoorM08P
import Derived.Test.YthdcceackfdbbabGreatDoorShelf
import Derived.Test.YthdcceackfdbbabGreatDoorShelf3
import Derived.Test.YthdcceackfdbbabGreatDoorM07P
import Derived.Test.YthdcceackfdbbabGreatDoorM01P
import Derived.Test.YthdcceackfdbbabGreatDoorM05P
import Derived.Deep.QuietTactic
import Derived.Laws.StructEq
import Derived.ArgAppend
import Derived.Lib.SmallJoins
import Derived.Laws.IdiomStrings
import Derived.Deep.RegionHeld3
import Derived.Deep.DrawnRows
import Derived.Deep.CutRange
import Derived.Deep.RegionWith
/- Own text: the reader of texts: split. -/
namespace Go.Proofs.YthdcceackfdbbabGreatDoor
open Go Go.RowKit Go.Shelf

theorem isBlank_any (w : World) (x : Nat) (hx : x ≤ 1114111) : Calls Tryz.prog 140 #[.int .i32 (x : Int)] w fun e w' => e = .returned (.bool (blankP x)) ∧ w' = w := by
  by_cases h1 : x = 32
  · subst h1
    go_enter Tryz.func140, Tryz.ntmps140
    go_wp2
    go_ret
    exact ⟨rfl, rfl⟩
  · by_cases h2 : x = 9
    · subst h2
      go_enter Tryz.func140, Tryz.ntmps140
      go_wp2
      go_ret
      exact ⟨rfl, rfl⟩
    · have h1' : ((x : Int) == 32) = false := by simp; omega
      have h2' : ((x : Int) == 9) = false := by simp; omega
      have h3 : blankP x = ((x : Int) == 13) := by
        unfold blankP
        rw [Bool.eq_iff_iff]; simp; omega
      rw [h3]
      go_enter Tryz.func140, Tryz.ntmps140
      go_wp2
      go_ret
      exact ⟨rfl, rfl⟩

/-- a line as the states are handed it -/
def lineV (A n : Nat) (c : Bool) : Value := .agg #[.slice (some ⟨A, 0, none⟩) n n, .bool c]
/-- the words of a line lie in a row -/
structure LineAt (w : World) (B A : Nat) (ws : List ByteArray) : Prop where
  lo : B ≤ A
  strs : StrsAt w (some ⟨A, 0, none⟩) ws
  lt : A < w.heap.size

set_option maxRecDepth 20000 in
set_option maxHeartbeats 1000000 in
theorem split_any (w : World) (s : ByteArray) (hs : s.size ≤ 1000000) :
    Calls Tryz.prog 138 #[.string s] w fun e w' => ∃ A ws, e = .returned (lineV A ws.length (decide (s.data.toList.head? = some 37))) ∧ ws.map (·.data.toList) = wordsL s.data.toList ∧ LineAt w' w.heap.size A ws ∧ Below w.heap.size w w' := by
  obtain ⟨b, hb⟩ : ∃ b, w.heap.size = b := ⟨_, rfl⟩
  obtain ⟨V, hV⟩ : ∃ V, w.alloc (.cells #[.slice none 0 0, .bool false] 83) = V := ⟨_, rfl⟩
  have rV : Arr V b 83 [.slice none 0 0, .bool false] := by rw [← hV, ← hb]; exact Arr.newL w _ _
  have bV : Below b w V := by rw [← hV, ← hb]; exact Below.refl' _ _
  have zV : V.heap.size = b + 1 := by rw [← hV]; simp [hb]
  have hpred : PredAtRunes Tryz.prog 140 #[] blankP V := fun W x hx _ => (isBlank_any W x hx).mono (fun e w' h => ⟨h.1, 0, h.2⟩)
  have HF := hid (Tryz.strings_FieldsFunc_runes 140 #[] (enters_of Tryz.func140 (by kernel_rfl) rfl) blankP s V (by omega) hpred)
  have hpre : Lib.hasPrefix s.data.toList [37] = decide (s.data.toList.head? = some 37) := by
    cases s.data.toList with
    | nil => rfl
    | cons c r =>
      simp only [Lib.hasPrefix, List.isPrefixOf, Bool.and_true, List.head?_cons, Option.some.injEq]
      rw [Bool.eq_iff_iff, beq_iff_eq, decide_eq_true_iff]; exact eq_comm
  obtain ⟨cb, hcb⟩ : ∃ cb, decide (s.data.toList.head? = some 37) = cb := ⟨_, rfl⟩
  rw [hcb] at hpre ⊢
  clear hcb
  have HPR := hid hpre
  have HV := hid hV
  have HRV := hid rV
  have HBV := hid bV
  have HFW := hid (fields_words s)
  clear hV rV bV hpred hpre
  generalize Lib.goFieldsP blankP s = ws at *
  go_enter Tryz.func138, Tryz.ntmps138
  go_wp2_with fail
  rw [HV.out]
  refine HF.out.mono ?_
  rintro e W1 ⟨A, rfl, hA, hown, b1⟩
  have HOW := hid hown
  have HB1 := hid b1
  clear hown b1 HF
  go_wp2_with fail
  refine (Tryz.strings_HasPrefix s _ _).mono ?_
  rintro e w2 ⟨rfl, hw2⟩
  rw [hw2]
  clear hw2
  rw [show (({ data := #[37] } : ByteArray)).data.toList = [37] from rfl, HPR.out]
  clear HPR
  have r1 := HRV.out.belowAll HB1.out
  have x0 := r1.cell (i := 0) rfl
  have y0 := r1.frozen 0
  have x1 := (r1.set 0 (.slice (some ⟨A, 0, none⟩) ws.length ws.length)).cell (i := 1) rfl
  have y1 := (r1.set 0 (.slice (some ⟨A, 0, none⟩) ws.length ws.length)).frozen 1
  have HR1 := hid r1
  clear r1
  go_wp2
  have r3 := (HR1.out.set 0 (.slice (some ⟨A, 0, none⟩) ws.length ws.length)).set 1 (.bool cb)
  have z0 := r3.cell (i := 0) rfl
  have z1 := r3.cell (i := 1) rfl
  refine bodyPost_ret (v := lineV A ws.length cb) (by simp [results, Tryz.results138, go_sem, lineV, z0, z1]) rfl ⟨A, ws, rfl, HFW.out, ⟨by omega, ?_, ?_⟩, ?_⟩
  · intro k x hx
    have hne : A ≠ b := by omega
    refine ⟨A, 0, rfl, ?_, ?_⟩
    · have := (HOW.out.lt A rfl).2; simpa [World.setCell] using this
    · rw [Nat.zero_add]
      obtain ⟨h0, ⟨h1, _⟩ | ⟨g', cap', cur, e1, hB, h2, h3, h4, h5, h6⟩⟩ := HOW.out
      · cases h1
      · simp only [Value.slice.injEq, Option.some.injEq, Addr.mk.injEq] at e1
        obtain ⟨⟨rfl, _⟩, _, rfl⟩ := e1
        have hk : k < ws.length := (List.getElem?_eq_some_iff.1 hx).1
        have h7 : (cur.toList.take (ws.length * 1))[k]? = (ws.map Value.string)[k]? := by rw [h6]
        rw [List.getElem?_take, if_pos (by omega), List.getElem?_map, hx] at h7
        have ha : Arr W1 A 9 cur.toList := by unfold Arr; rw [Array.toArray_toList]; exact h2
        exact ((ha.other _ hne).other _ hne).cell h7
  · have := (HOW.out.lt A rfl).2; simpa [World.setCell] using this
  · rw [hb]
    exact ((HBV.out.trans (HB1.out.mono (by omega))).setCell (p := ⟨b, 0, none⟩) (Nat.le_refl _) _).setCell (p := ⟨b, 1, none⟩) (Nat.le_refl _) _

end Go.Proofs.YthdcceackfdbbabGreatDoor
/- Own text: rows of places: Index. -/
namespace Go.Proofs.YthdcceackfdbbabGreatDoor
open Go Go.RowKit

/-- a row of places -/
def PlcsAt (w : World) (ao : Option Addr) (ps : List (Nat × Nat)) : Prop := ∀ (k : Nat) (q : Nat × Nat), ps[k]? = some q → ∃ g : Nat, ao = some ⟨g, 0, none⟩ ∧ g < w.heap.size ∧ w.cell? ⟨g, k * 2, none⟩ = some (.int .i64 (q.1 : Int)) ∧ w.cell? ⟨g, k * 2 + 1, none⟩ = some (.int .i64 (q.2 : Int))

def eqB (x y a b : Int) : Bool := decide (a = x ∧ b = y)
def isAt (x y : Int) (q : Nat × Nat) : Bool := eqB x y (q.1 : Int) (q.2 : Int)
/-- where a place stands in a row -/
def idxP (ps : List (Nat × Nat)) (x y : Int) : Option Nat := ps.findIdx? (isAt x y)
def idxV : Option Nat → Int
  | some k => k
  | none => -1

theorem idxP_none {ps : List (Nat × Nat)} {x y : Int} (h : ∀ (k : Nat) q, ps[k]? = some q → isAt x y q = false) : idxP ps x y = none := by
  unfold idxP
  rw [List.findIdx?_eq_none_iff]
  intro q hq
  obtain ⟨k, hk, he⟩ := List.getElem_of_mem hq
  exact h k q (by rw [List.getElem?_eq_getElem hk, he])

theorem idxP_some {ps : List (Nat × Nat)} {x y : Int} {k : Nat} {q : Nat × Nat} (h : ps[k]? = some q) (hq : isAt x y q = true) (h2 : ∀ (j : Nat) p, j < k → ps[j]? = some p → isAt x y p = false) : idxP ps x y = some k := by
  unfold idxP
  have hk : k < ps.length := (List.getElem?_eq_some_iff.1 h).1
  rw [List.findIdx?_eq_some_iff_getElem]
  refine ⟨hk, ?_, fun j hj => ?_⟩
  · rw [(List.getElem?_eq_some_iff.1 h).2]; exact hq
  · have := h2 j (ps[j]'(by omega)) hj (List.getElem?_eq_getElem (by omega))
    rw [this]; simp

theorem plc_guard (w : World) (x y : Operand) (xs ys : Array Value) : (eqGuard .eql 61 x y (.agg xs) (.agg ys)).run Tryz.prog w = .ok () w := run_eqGuard_agg w .eql _ x y xs ys (by kernel_rfl)

theorem plc_eql (w : World) (x y a b : Int) : (binOp .eql 61 (.agg #[.int .i64 x, .int .i64 y]) (.agg #[.int .i64 a, .int .i64 b])).run Tryz.prog w = .ok (.bool (eqB x y a b)) w := by
  have hu := Tryz.underlying61
  obtain ⟨fs, hfs⟩ : ∃ fs, fs = (#[{ name := "Row", type := 3, offset := 0, embedded := false, tag := "", pkgPath := "", byteOffset := 0 }, { name := "Col", type := 3, offset := 1, embedded := false, tag := "", pkgPath := "", byteOffset := 8 }] : Array Field) := ⟨_, rfl⟩
  rw [← hfs] at hu
  have hf : Tryz.prog.fieldsOf 61 = fs := by unfold Program.fieldsOf; rw [hu]
  rw [run_eql_struct, run_equalIn_struct w 9999 61 _ _ (by rw [hf]; exact hu) (by kernel_rfl), hf, hfs]
  have hi := Tryz.underlying3
  simp [Op.eqFields, go_sem, part, hi]
  unfold eqB
  by_cases h1 : x = a
  · by_cases h2 : y = b
    · rw [if_pos h1, if_pos h2]; simp [h1, h2]
    · rw [if_pos h1, if_neg h2]; simp [h1, Ne.symm h2]
  · rw [if_neg h1]; simp [Ne.symm h1]

set_option maxRecDepth 20000 in
set_option maxHeartbeats 1000000 in
theorem index_any (w : World) (ao : Option Addr) (n cap : Nat) (ps : List (Nat × Nat)) (x y : Int) (hn : ps.length = n) (hn1 : n ≤ 1000000) (hps : PlcsAt w ao ps) :
    Calls Tryz.prog 60 #[.slice ao n cap, .agg #[.int .i64 x, .int .i64 y]] w fun e w' => e = .returned (.int .i64 (idxV (idxP ps x y))) ∧ Below w.heap.size w w' := by
  obtain ⟨b, hb⟩ : ∃ b, w.heap.size = b := ⟨_, rfl⟩
  obtain ⟨r, hr⟩ : ∃ r, idxP ps x y = r := ⟨_, rfl⟩
  rw [hr, hb]
  have HR := hid hr
  have HPS := hid hps
  clear hr hps
  obtain ⟨V, hV⟩ : ∃ V, w.alloc (.cells #[.int .i64 x, .int .i64 y] 61) = V := ⟨_, rfl⟩
  have aV : Arr V b 61 [.int .i64 x, .int .i64 y] := by rw [← hV, ← hb]; exact Arr.newL w _ _
  have bV : Below b w V := by rw [← hV, ← hb]; exact Below.refl' _ _
  have HV := hid hV
  have HAV := hid aV
  have HBV := hid bV
  clear hV aV bV
  go_enter Tryz.func60, Tryz.ntmps60
  go_wp2
  rw [HV.out]
  go_loopw [8] (fun i wr => ∃ k m : Nat, k ≤ n ∧ i = .int .i64 (k : Int) ∧ wr = V.drewN m ∧ Hid (∀ (j : Nat) p, j < k → ps[j]? = some p → isAt x y p = false)) (fun i _ => n - (intOf i).toNat)
  case atStart => exact ⟨0, 0, Nat.zero_le _, rfl, (World.drewN_zero V).symm, fun j p h => by omega⟩
  case round =>
    obtain ⟨k, m, hk, rfl, rfl, HN⟩ := hrel
    by_cases hlt : k < n
    · have hlt' : (k : Int) < n := by omega
      obtain ⟨q, hq⟩ : ∃ q, ps[k]? = some q := ⟨ps[k]'(by omega), by simp⟩
      obtain ⟨g, rfl, hg, hc0, hc1⟩ := HPS.out k q hq
      have d0 : V.cell? ⟨g, k * 2, none⟩ = some (.int .i64 (q.1 : Int)) := (HBV.out.cell (p := ⟨g, k * 2, none⟩) (by show g < b; omega)).trans hc0
      have d1 : V.cell? ⟨g, k * 2 + 1, none⟩ = some (.int .i64 (q.2 : Int)) := (HBV.out.cell (p := ⟨g, k * 2 + 1, none⟩) (by show g < b; omega)).trans hc1
      have x0 := HAV.out.cell (i := 0) rfl
      have x1 := HAV.out.cell (i := 1) rfl
      have HQ := hid hq
      clear hc0 hc1 hq
      obtain ⟨ev, hev⟩ : ∃ ev, eqB x y (q.1 : Int) (q.2 : Int) = ev := ⟨_, rfl⟩
      have HEV : Hid (isAt x y q = ev) := hev
      have hE := fun w => plc_eql w x y (q.1 : Int) (q.2 : Int)
      rw [hev] at hE
      clear hev
      have hG := plc_guard
      obtain ⟨Vd, hVd⟩ : ∃ Vd, V.drewN m = Vd := ⟨_, rfl⟩
      have e0 : Vd.cell? ⟨g, k * 2, none⟩ = some (.int .i64 (q.1 : Int)) := by rw [← hVd]; exact d0
      have e1 : Vd.cell? ⟨g, k * 2 + 1, none⟩ = some (.int .i64 (q.2 : Int)) := by rw [← hVd]; exact d1
      have f0 : Vd.cell? ⟨b, 0, none⟩ = some (.int .i64 x) := by rw [← hVd]; exact x0
      have f1 : Vd.cell? ⟨b, 1, none⟩ = some (.int .i64 y) := by rw [← hVd]; exact x1
      rw [hVd]
      have HVD := hid hVd
      clear hVd d0 d1 x0 x1
      go_wp2
      go_quiet (fail)
      have hwn : Vd.drewN nq = V.drewN (m + nq) := by rw [← HVD.out, World.drewN_drewN]
      rw [hwn]
      clear hwn e0 e1 f0 f1
      cases ev with
      | true =>
        have hrs : r = some k := by rw [← HR.out]; exact idxP_some HQ.out HEV.out HN.out
        subst hrs
        go_wp2
        go_ret
        exact ⟨rfl, below_dn HBV.out _⟩
      | false =>
        go_wp2
        go_round
        case rel =>
          refine ⟨k + 1, m + nq, by omega, by simp, rfl, fun j p hj hp => ?_⟩
          by_cases e : j = k
          · subst e; rw [HQ.out] at hp; cases hp; exact HEV.out
          · exact HN.out j p (by omega) hp
        case measure => simp [intOf]; omega
    · have hlt' : ¬ (k : Int) < n := by omega
      have hrs : r = none := by
        rw [← HR.out]
        exact idxP_none (fun j q hq => HN.out j q (by have := (List.getElem?_eq_some_iff.1 hq).1; omega) hq)
      subst hrs
      go_wp2
      go_ret
      exact ⟨rfl, below_dn HBV.out _⟩

end Go.Proofs.YthdcceackfdbbabGreatDoor
namespace Go.Proofs.YthdcceackfdbbabGreatDoor
open Go Go.RowKit Go.Shelf
attribute [local go_sem] Oper.semAt_some

/-- the same with rows and columns exchanged -/
def SymM (R : Nat) (f : Nat → Nat → Nat) : Prop := ∀ i j, i < R → j < R → j ≤ i → f j i = f i j

theorem MemM.below {W W' : World} {B R C g : Nat} {f : Nat → Nat → Nat} (h : MemM C g R f W) (b : Below B W W') (hg : g < B) : MemM C g R f W' :=
  ⟨Nat.lt_of_lt_of_le h.1 b.size, fun i j hi hj => (b.cell (p := ⟨g, i * C + j, none⟩) hg).trans (h.2 i j hi hj)⟩

theorem Below.ofSim {b B : Nat} {W W' : World} (s : Sim B W W') (hb : b ≤ B) (hs : b ≤ W.heap.size) : Below b W W' :=
  ⟨s.os, s.tape, s.output, s.size, fun q hq => by
    obtain ⟨o, ho⟩ : ∃ o, W.heap[q]? = some o := ⟨W.heap[q]'(by omega), by simp⟩
    exact (s.block q o ho (.inl (by omega))).trans ho.symm⟩

end Go.Proofs.YthdcceackfdbbabGreatDoor
namespace Go.Proofs.YthdcceackfdbbabGreatDoor
open Go Go.RowKit Go.Shelf
attribute [local go_sem] Oper.semAt_some

theorem OwnU.keep {w w' : World} {B : Nat} {v : Value} {l : List UInt8} (h : OwnU w B v l) (hk : ∀ g cur, v.ownBlock = some g → w.heap[g]? = some (.cells cur 5 (0, 0)) → w'.heap[g]? = some (.cells cur 5 (0, 0))) : OwnU w' B v l := by
  obtain ⟨h0, h1 | ⟨g, cap, cur, rfl, hB, h2, h3⟩⟩ := h.row
  · exact ⟨h0, .inl h1⟩
  · exact ⟨h0, .inr ⟨g, cap, cur, rfl, hB, hk g cur rfl h2, h3⟩⟩
theorem OwnU.sim {B' : Nat} {w w' : World} {B : Nat} {v : Value} {l : List UInt8} (h : OwnU w B v l) (s : Sim B' w w') : OwnU w' B v l := h.keep (fun g _ _ hc => s.block g _ hc (.inr rfl))
theorem OwnU.alloc {w : World} {B : Nat} {v : Value} {l : List UInt8} (h : OwnU w B v l) (o : Obj) : OwnU (w.alloc o) B v l := h.sim (Sim.alloc 0 _ _)
theorem OwnU.other {w : World} {B : Nat} {v : Value} {l : List UInt8} (h : OwnU w B v l) {b j : Nat} {t : TypeId} {c : List Value} (ha : Arr w b t c) (ht : t ≠ 5) (u : Value) : OwnU (w.setCell ⟨b, j, none⟩ u) B v l :=
  h.keep (fun g _ _ hc => by
    rw [Below.heap_setCell _ _ _ _ (fun e => by have e' : g = b := e; rw [e', show w.heap[b]? = _ from ha] at hc; cases hc; exact ht rfl)]; exact hc)
theorem ownU_nil (w : World) (B : Nat) : OwnU w B (.slice none 0 0) [] := ⟨rfl, .inl ⟨rfl, rfl⟩⟩
theorem OwnU.one {w : World} {B : Nat} {v : Value} {l : List UInt8} (h : OwnU w B v l) : ∃ a n c, v = .slice a n c := by
  obtain ⟨_, ⟨h1, _⟩ | ⟨g, cap, cur, rfl, _⟩⟩ := h.row
  · exact ⟨_, _, _, h1⟩
  · exact ⟨_, _, _, rfl⟩

theorem others_sim {b : Option Nat} {W0 W W' : World} (h : Lib.OthersKept 5 b W0 W) (s : Sim W0.heap.size W W') : Lib.OthersKept 5 b W0 W' :=
  fun k o hk hb ho => s.block k o (h k o hk hb ho) (.inl (Array.getElem?_eq_some_iff.1 hk).1)
theorem others_none {b : Option Nat} {W W' : World} (h : Lib.OthersKept 5 Option.none W W') : Lib.OthersKept 5 b W W' :=
  fun k o hk _ ho => h k o hk (by simp) ho
theorem MemM.others {b : Option Nat} {W W' : World} {R C g : Nat} {f : Nat → Nat → Nat} {l : List Value} (h : MemM C g R f W) (k : Lib.OthersKept 5 b W W') (ha : Arr W g 37 l) (hg : some g ≠ b) (hs : W.heap.size ≤ W'.heap.size) : MemM C g R f W' := by
  have hb : W'.heap[g]? = W.heap[g]? := (k g _ ha hg (fun c fz e => by cases e)).trans ha.symm
  refine ⟨Nat.lt_of_lt_of_le h.1 hs, fun i j hi hj => ?_⟩
  have := h.2 i j hi hj
  unfold World.cell? at this ⊢
  rw [hb]; exact this

/-- the payload of a matrix -/
def payL (es : List (Nat × Nat × Nat)) : List UInt8 := es.flatMap fun y => lowL y.2.2 8

theorem payL_len (es : List (Nat × Nat × Nat)) : (payL es).length = 8 * es.length := by
  induction es with
  | nil => rfl
  | cons y r ih => simp only [payL, List.flatMap_cons, List.length_append, lowL_len, List.length_cons] at ih ⊢; omega

theorem payL_snoc (es : List (Nat × Nat × Nat)) (y : Nat × Nat × Nat) : payL (es ++ [y]) = payL es ++ lowL y.2.2 8 := by simp [payL]

end Go.Proofs.YthdcceackfdbbabGreatDoor
namespace Go.Proofs.YthdcceackfdbbabGreatDoor
open Go Go.RowKit

theorem ownU_new (w : World) (B : Nat) (hB : B ≤ w.heap.size) (a : Array Value) (l : List UInt8) (ha : a = (u8s l).toArray) (hl : l.length ≤ 100) : OwnU (w.alloc (.cells a 5)) B (.slice (some ⟨w.heap.size, 0, none⟩) l.length l.length) l := by
  subst ha
  refine ⟨by simp [u8s], .inr ⟨w.heap.size, l.length, (u8s l).toArray, rfl, hB, World.alloc_heap_new w _, Nat.le_refl _, by unfold maxLen; omega, by simp [u8s], ?_⟩⟩
  simp [u8s, List.take_of_length_le]

/-- the head of a container -/
def hdL (kind R C : Nat) : List UInt8 := [65, 66, 65, 67] ++ lowL 1 1 ++ lowL (if kind = 5 then 1 else 0) 1 ++ lowL R 2 ++ lowL C 2

theorem hdL_eq (kind R C : Nat) : hdL kind R C = [65, 66, 65, 67, 1] ++ lowL (if kind = 5 then 1 else 0) 1 ++ lowL R 2 ++ lowL C 2 := rfl

theorem hdL_len (kind R C : Nat) : (hdL kind R C).length = 10 := by simp [hdL, lowL_len]

end Go.Proofs.YthdcceackfdbbabGreatDoor
namespace Go.Proofs.YthdcceackfdbbabGreatDoor
open Go Go.RowKit

theorem OwnU.belowAll {w w' : World} {B : Nat} {v : Value} {l : List UInt8} (h : OwnU w B v l) {B' : Nat} (hb : Below B' w w') (hlt : ∀ q, v.ownBlock = some q → q < B') : OwnU w' B v l :=
  h.keep (fun q _ hq hc => (hb.block q (hlt q hq)).trans hc)

theorem OwnU.form {w : World} {B : Nat} {v : Value} {l : List UInt8} (h : OwnU w B v l) (hne : 0 < l.length) : ∃ q cap, v = .slice (some ⟨q, 0, none⟩) l.length cap ∧ q < w.heap.size ∧ (∀ k x, l[k]? = some x → w.cell? ⟨q, k, none⟩ = some (.int .u8 (x.toNat : Int))) := by
  obtain ⟨a, cap, hv, _, _, hbc⟩ := h.shape
  obtain ⟨x, hx⟩ : ∃ x, l[0]? = some x := ⟨l[0], by simp⟩
  obtain ⟨q, ha, hc⟩ := hbc 0 x hx
  refine ⟨q, cap, by rw [hv, ha], World.block_lt_of_cell? w _ hc, fun k y hy => ?_⟩
  obtain ⟨q', ha', hc'⟩ := hbc k y hy
  rw [ha] at ha'
  cases ha'
  exact hc'

theorem addr_add (q j : Nat) : (⟨q, 0, none⟩ : Addr).add j = ⟨q, j, none⟩ := by simp [Addr.add]; exact fun h => h.symm

/-- the container of a matrix -/
def boxL (kind R C : Nat) (f : Nat → Nat → Nat) : List UInt8 := (hdL kind R C ++ lowL (sumL (hdL kind R C)) 4) ++ (payL (entL kind R C f) ++ lowL (sumL (payL (entL kind R C f))) 4)

end Go.Proofs.YthdcceackfdbbabGreatDoor
/- Walks: parts, nearerBelow, guessPower, tenfold, within, nearer. Own text. -/
namespace Go.Proofs.YthdcceackfdbbabGreatDoor
open Go.RowKit

/-- A size is mS times 2 to the eS. -/
def mS (s : Nat) : Nat := if s / 4503599627370496 = 0 then s % 4503599627370496 else 4503599627370496 + s % 4503599627370496
def eS (s : Nat) : Int := if s / 4503599627370496 = 0 then -1074 else ((s / 4503599627370496 : Nat) : Int) - 1075

theorem and_frac {s : Nat} (h : s < 18446744073709551616) : bits BinOp.and IntKind.u64 (s : Int) 4503599627370495 = ((s % 4503599627370496 : Nat) : Int) := by
  rw [show (4503599627370495 : Int) = ((4503599627370495 : Nat) : Int) from rfl, u64_and_nat _ _ h (by omega)]
  congr 1
  exact Nat.and_two_pow_sub_one_eq_mod s 52

theorem or_frac {f : Nat} (h : f < 4503599627370496) : bits BinOp.or IntKind.u64 4503599627370496 (f : Int) = ((4503599627370496 + f : Nat) : Int) := by
  rw [show (4503599627370496 : Int) = ((4503599627370496 : Nat) : Int) from rfl, u64_or_nat _ _ (by omega) (by omega), nat_join52 _ _ (by simp) h]

theorem tup2 {a a' b b' : Int} (h1 : a = a') (h2 : b = b') : Ending.returned (.tuple #[.int .u64 a, .int .i64 b]) = .returned (.tuple #[.int .u64 a', .int .i64 b']) := by rw [h1, h2]

def nbS (s : Nat) : Bool := decide (s % 4503599627370496 = 0) && decide (1 < s / 4503599627370496)

theorem ret_bool {a b : Bool} (h : a = b) : Ending.returned (.bool a) = .returned (.bool b) := by rw [h]

/-- The power of ten that the walk begins with. -/
def gS (t : Int) : Int := t * 1233 / 4096 - 1

theorem mS_lt (s : Nat) : mS s < 9007199254740992 := by unfold mS; split <;> omega
theorem eS_bd {s : Nat} (h : s < 9218868437227405312) : -1074 ≤ eS s ∧ eS s ≤ 971 := by unfold eS; split <;> omega

/-- Is what is so far from the size in the interval? -/
def inS (d r : Nat) (ev : Bool) : Bool := decide (d < r) || (decide (d = r) && ev)

/-- 0 for the lower of the two, 1 for the upper. -/
def nearS (lo down up : Nat) : Nat := if down < up then 0 else if up < down then 1 else lo % 2

end Go.Proofs.YthdcceackfdbbabGreatDoor
/- Walk: spanOf. Own text. -/
namespace Go.Proofs.YthdcceackfdbbabGreatDoor
open Go.RowKit

def qS (s : Nat) : Nat := 2 ^ (eS s).toNat
/-- The size, its reaches, and what one is, all as whole numbers. -/
def sizeS (s : Nat) : Nat := mS s * (4 * qS s)
def belowS (s : Nat) : Nat := if nbS s then qS s else 2 * qS s
def aboveS (s : Nat) : Nat := 2 * qS s
def oneS (s : Nat) : Nat := 4 * 2 ^ (-eS s).toNat

theorem bl_two (n : Nat) : bl (2 ^ n) ≤ n + 1 := bl_le (Nat.pow_lt_pow_right (by omega) (by omega))

theorem small_shift {a k n : Nat} (h : bl a ≤ k) (hk : k + n ≤ 65536) : Small (a * 2 ^ n) := small_of_bl (k := k + n) (Nat.le_trans (bl_shift a n) (by omega)) hk

theorem bl_const (a k : Nat) (h : a < 2 ^ k) : bl a ≤ k := bl_le h

theorem Rep.form {w : World} {B : Nat} {v : Value} {n : Nat} (h : Rep w B v n) : ∃ ao k cap, v = .slice ao k cap := by
  obtain ⟨l, h1, _⟩ := h
  obtain ⟨ao, cap, rfl, _⟩ := h1.shape1
  exact ⟨ao, _, cap, rfl⟩

theorem Rep.set {w : World} {B : Nat} {v : Value} {n g : Nat} (h : Rep w B v n) (hg : g < B) (i : Nat) (u : Value) : Rep (w.setCell ⟨g, i, none⟩ u) B v n := by
  obtain ⟨l, h1, h2⟩ := h
  exact ⟨l, h1.setOther (a := ⟨g, i, none⟩) u (fun k hk => by have := (h1.1.lt k hk).1; exact Nat.ne_of_gt (Nat.lt_of_lt_of_le hg this)), h2⟩

theorem Rep.alloc {w : World} {B : Nat} {v : Value} {n : Nat} (h : Rep w B v n) (o : Obj) : Rep (w.alloc o) B v n := h.below ((Below.refl _ _).alloc (Nat.le_refl _) o)

theorem small_one : Small 1 := small_of_bl (k := 1) (bl_le (n := 1) (k := 1) (by omega)) (by omega)
theorem small_four : Small 4 := small_of_bl (k := 3) (bl_le (n := 4) (k := 3) (by omega)) (by omega)
theorem small_m {m : Nat} (h : m < 9007199254740992) : Small m := small_of_bl (k := 53) (bl_le (n := m) (k := 53) (by omega)) (by omega)

theorem qS_bl {s : Nat} (h : s < 9218868437227405312) : bl (qS s) ≤ 972 := by
  have := eS_bd h
  exact Nat.le_trans (bl_two _) (by omega)

end Go.Proofs.YthdcceackfdbbabGreatDoor
/- Walk: scale. Own text. -/
namespace Go.Proofs.YthdcceackfdbbabGreatDoor
open Go.RowKit
attribute [local go_sem ↓] Go.wp_at_zero Go.wp_at_succ

/-- A number whose words lie in another block than g. -/
def Num (w : World) (g : Nat) (v : Value) (n : Nat) : Prop := Rep w 0 v n ∧ ∀ k, v.ownBlock = some k → k ≠ g

theorem Num.below {w w' : World} {g : Nat} {v : Value} {n : Nat} (h : Num w g v n) (hb : Below w.heap.size w w') : Num w' g v n := ⟨h.1.below hb, h.2⟩
theorem Num.drewN {w : World} {g : Nat} {v : Value} {n : Nat} (h : Num w g v n) (k : Nat) : Num (w.drewN k) g v n := ⟨h.1.drewN k, h.2⟩
theorem Num.set {w : World} {g : Nat} {v : Value} {n : Nat} (h : Num w g v n) (i : Nat) (u : Value) : Num (w.setCell ⟨g, i, none⟩ u) g v n := by
  obtain ⟨⟨l, h1, h2⟩, h3⟩ := h
  exact ⟨⟨l, h1.setOther (a := ⟨g, i, none⟩) u h3, h2⟩, h3⟩
theorem num_new {w : World} {B g : Nat} {v : Value} {n : Nat} (h : Rep w B v n) (hg : g < B) : Num w g v n := by
  refine ⟨h.base (Nat.zero_le _), ?_⟩
  obtain ⟨l, h1, _⟩ := h
  intro k hk
  have := (h1.1.lt k hk).1
  omega
theorem num_old {w : World} {B g : Nat} {v : Value} {n : Nat} (h : Rep w B v n) (hg : w.heap.size ≤ g) : Num w g v n := by
  refine ⟨h.base (Nat.zero_le _), ?_⟩
  obtain ⟨l, h1, _⟩ := h
  intro k hk
  have := (h1.1.lt k hk).2
  omega

/-- The span that lies in block g. -/
structure Spn (w : World) (g : Nat) (v0 v1 v2 v3 : Value) (ev : Bool) (S B A D : Nat) : Prop where
  lt : g < w.heap.size
  fr : ∀ i, w.frozen? ⟨g, i, none⟩ = false
  c0 : w.cell? ⟨g, 0, none⟩ = some v0
  c1 : w.cell? ⟨g, 1, none⟩ = some v1
  c2 : w.cell? ⟨g, 2, none⟩ = some v2
  c3 : w.cell? ⟨g, 3, none⟩ = some v3
  c4 : w.cell? ⟨g, 4, none⟩ = some (.bool ev)
  n0 : Num w g v0 S
  n1 : Num w g v1 B
  n2 : Num w g v2 A
  n3 : Num w g v3 D

theorem Spn.below {w w' : World} {g : Nat} {v0 v1 v2 v3 : Value} {ev : Bool} {S B A D : Nat} (h : Spn w g v0 v1 v2 v3 ev S B A D) (hb : Below w.heap.size w w') : Spn w' g v0 v1 v2 v3 ev S B A D := by
  obtain ⟨hc, hf⟩ := bcell hb
  exact ⟨Nat.lt_of_lt_of_le h.lt hb.size, fun i => (hf g i h.lt).trans (h.fr i), (hc g 0 h.lt).trans h.c0, (hc g 1 h.lt).trans h.c1, (hc g 2 h.lt).trans h.c2, (hc g 3 h.lt).trans h.c3, (hc g 4 h.lt).trans h.c4, h.n0.below hb, h.n1.below hb, h.n2.below hb, h.n3.below hb⟩

theorem Spn.drewN {w : World} {g : Nat} {v0 v1 v2 v3 : Value} {ev : Bool} {S B A D : Nat} (h : Spn w g v0 v1 v2 v3 ev S B A D) (n : Nat) : Spn (w.drewN n) g v0 v1 v2 v3 ev S B A D := h.below (below_drewN (Below.refl _ _) n)

section sets
variable {w : World} {g : Nat} {v0 v1 v2 v3 v : Value} {ev : Bool} {S B A D N : Nat}

theorem fr_set (h : ∀ i, w.frozen? ⟨g, i, none⟩ = false) (j : Nat) (v : Value) : ∀ i, (w.setCell ⟨g, j, none⟩ v).frozen? ⟨g, i, none⟩ = false := by
  intro i; simpa using h i

theorem Spn.set0 (h : Spn w g v0 v1 v2 v3 ev S B A D) (hv : Num w g v N) : Spn (w.setCell ⟨g, 0, none⟩ v) g v v1 v2 v3 ev N B A D :=
  ⟨by simpa using h.lt, fr_set h.fr _ _, World.cell?_setCell_same _ _ _ h.c0, (World.cell?_setCell_other _ _ _ _ (by simp)).trans h.c1, (World.cell?_setCell_other _ _ _ _ (by simp)).trans h.c2, (World.cell?_setCell_other _ _ _ _ (by simp)).trans h.c3, (World.cell?_setCell_other _ _ _ _ (by simp)).trans h.c4, hv.set _ _, h.n1.set _ _, h.n2.set _ _, h.n3.set _ _⟩
theorem Spn.set1 (h : Spn w g v0 v1 v2 v3 ev S B A D) (hv : Num w g v N) : Spn (w.setCell ⟨g, 1, none⟩ v) g v0 v v2 v3 ev S N A D :=
  ⟨by simpa using h.lt, fr_set h.fr _ _, (World.cell?_setCell_other _ _ _ _ (by simp)).trans h.c0, World.cell?_setCell_same _ _ _ h.c1, (World.cell?_setCell_other _ _ _ _ (by simp)).trans h.c2, (World.cell?_setCell_other _ _ _ _ (by simp)).trans h.c3, (World.cell?_setCell_other _ _ _ _ (by simp)).trans h.c4, h.n0.set _ _, hv.set _ _, h.n2.set _ _, h.n3.set _ _⟩
theorem Spn.set2 (h : Spn w g v0 v1 v2 v3 ev S B A D) (hv : Num w g v N) : Spn (w.setCell ⟨g, 2, none⟩ v) g v0 v1 v v3 ev S B N D :=
  ⟨by simpa using h.lt, fr_set h.fr _ _, (World.cell?_setCell_other _ _ _ _ (by simp)).trans h.c0, (World.cell?_setCell_other _ _ _ _ (by simp)).trans h.c1, World.cell?_setCell_same _ _ _ h.c2, (World.cell?_setCell_other _ _ _ _ (by simp)).trans h.c3, (World.cell?_setCell_other _ _ _ _ (by simp)).trans h.c4, h.n0.set _ _, h.n1.set _ _, hv.set _ _, h.n3.set _ _⟩
theorem Spn.set3 (h : Spn w g v0 v1 v2 v3 ev S B A D) (hv : Num w g v N) : Spn (w.setCell ⟨g, 3, none⟩ v) g v0 v1 v2 v ev S B A N :=
  ⟨by simpa using h.lt, fr_set h.fr _ _, (World.cell?_setCell_other _ _ _ _ (by simp)).trans h.c0, (World.cell?_setCell_other _ _ _ _ (by simp)).trans h.c1, (World.cell?_setCell_other _ _ _ _ (by simp)).trans h.c2, World.cell?_setCell_same _ _ _ h.c3, (World.cell?_setCell_other _ _ _ _ (by simp)).trans h.c4, h.n0.set _ _, h.n1.set _ _, h.n2.set _ _, hv.set _ _⟩
end sets

theorem ten_le_bl {D S k : Nat} (h0 : D ≠ 0) (h : D * 10 ^ k ≤ S) (hS : bl S ≤ 9000) : k ≤ 9000 := by
  have h1 : 2 ^ k ≤ S := Nat.le_trans (Nat.pow_le_pow_left (by omega : 2 ≤ 10) k) (Nat.le_trans (Nat.le_mul_of_pos_left _ (by omega)) h)
  have h2 := bl_hi S
  have h3 : k < bl S := (Nat.pow_lt_pow_iff_right (by omega : 1 < 2)).1 (Nat.lt_of_le_of_lt h1 h2)
  omega

end Go.Proofs.YthdcceackfdbbabGreatDoor
/- What shortest reckons; where it begins, and that it ends. Own text. -/
namespace Go.Proofs.YthdcceackfdbbabGreatDoor
open Go.RowKit

/-- One digit more: the lower, the upper, or neither. -/
def pickO (N B A D : Nat) (ev : Bool) : Option Nat :=
  if inS (N % D) B ev && inS (D - N % D) A ev then some (N / D + nearS (N / D) (N % D) (D - N % D))
  else if inS (N % D) B ev then some (N / D)
  else if inS (D - N % D) A ev then some (N / D + 1)
  else none

def Short (S B A D : Nat) (ev : Bool) (j d : Nat) : Prop :=
  pickO (S * 10 ^ j) (B * 10 ^ j) (A * 10 ^ j) D ev = some d ∧ ∀ i, i < j → pickO (S * 10 ^ i) (B * 10 ^ i) (A * 10 ^ i) D ev = none

theorem pick_hit {N B A D : Nat} {ev : Bool} (hD : D ≠ 0) (h : (D < 2 * A ∧ B = A) ∨ D < A) : pickO N B A D ev ≠ none := by
  have h1 := Nat.mod_lt N (Nat.pos_of_ne_zero hD)
  have h2 : inS (N % D) B ev = true ∨ inS (D - N % D) A ev = true := by
    unfold inS
    rcases h with ⟨h, rfl⟩ | h
    · by_cases hb : N % D < B
      · left; simp [hb]
      · right; have : D - N % D < B := by omega
        simp [this]
    · right; by_cases h0 : D - N % D < A
      · simp [h0]
      · omega
  unfold pickO
  cases hx : inS (N % D) B ev <;> cases hy : inS (D - N % D) A ev <;> simp_all

theorem pick_17 {S B A D : Nat} {ev : Bool} (hD : D ≠ 0) (h0 : D ≤ S) (h : (S ≤ 18014398509481984 * A ∧ B = A) ∨ S ≤ 9007199254740992 * A) : pickO (S * 10 ^ 16) (B * 10 ^ 16) (A * 10 ^ 16) D ev ≠ none := by
  refine pick_hit hD ?_
  rcases h with ⟨h, rfl⟩ | h
  · left; exact ⟨by omega, rfl⟩
  · right; omega

/-- Is the power that is guessed not above the size's? -/
def gchk (k : Nat) : Bool := Nat.ble (10 ^ (gS ((k : Int) - 1074)).toNat * 2 ^ (-((k : Int) - 1074)).toNat) (2 ^ ((k : Int) - 1074).toNat * 10 ^ (-(gS ((k : Int) - 1074))).toNat)

theorem gchk_all : (List.range 2098).all gchk = true := by kernel_rfl

theorem gchk_of {t : Int} (h1 : -1074 ≤ t) (h2 : t ≤ 1023) : 10 ^ (gS t).toNat * 2 ^ (-t).toNat ≤ 2 ^ t.toNat * 10 ^ (-(gS t)).toNat := by
  have h := (List.all_eq_true.1 gchk_all) (t + 1074).toNat (by rw [List.mem_range]; omega)
  unfold gchk at h
  rw [show (((t + 1074).toNat : Nat) : Int) - 1074 = t by omega] at h
  exact Nat.le_of_ble_eq_true h

theorem gS_bd {t : Int} (h1 : -1074 ≤ t) (h2 : t ≤ 1023) : -400 ≤ gS t ∧ gS t ≤ 400 := by unfold gS; omega

def tS (s : Nat) : Int := (bl (mS s) : Int) - 1 + eS s

theorem mS_ne {s : Nat} (h : s ≠ 0) : mS s ≠ 0 := by unfold mS; split <;> omega

theorem tS_bd {s : Nat} (h0 : s ≠ 0) (h : s < 9218868437227405312) : -1074 ≤ tS s ∧ tS s ≤ 1023 := by
  have := eS_bd h
  have h1 := bl_pos (mS_ne h0)
  have h2 := bl_le (n := mS s) (k := 53) (mS_lt s)
  unfold tS
  omega

theorem guess_low {s : Nat} (h0 : s ≠ 0) (h : s < 9218868437227405312) : oneS s * 10 ^ (gS (tS s)).toNat ≤ sizeS s * 10 ^ (-(gS (tS s))).toNat := by
  obtain ⟨h1, h2⟩ := tS_bd h0 h
  have hc := gchk_of h1 h2
  have hb := bl_lo (mS_ne h0)
  have hp := bl_pos (mS_ne h0)
  unfold oneS sizeS qS
  generalize 10 ^ (gS (tS s)).toNat = X at *
  generalize 10 ^ (-(gS (tS s))).toNat = Y at *
  have ht : tS s = ((bl (mS s) - 1 : Nat) : Int) + eS s := by unfold tS; omega
  generalize mS s = m at *
  generalize eS s = e at *
  generalize tS s = t at *
  generalize bl m - 1 = b at *
  subst ht
  have key : X * 2 ^ (-e).toNat ≤ 2 ^ b * 2 ^ e.toNat * Y := by
    by_cases he : 0 ≤ e
    · rw [show (-e).toNat = 0 by omega]
      rw [show (-((b : Int) + e)).toNat = 0 by omega, show ((b : Int) + e).toNat = b + e.toNat by omega, Nat.pow_add] at hc
      exact hc
    · rw [show e.toNat = 0 by omega]
      by_cases ht : 0 ≤ (b : Int) + e
      · rw [show (-((b : Int) + e)).toNat = 0 by omega] at hc
        have e1 : 2 ^ b = 2 ^ ((b : Int) + e).toNat * 2 ^ (-e).toNat := by rw [← Nat.pow_add]; congr 1; omega
        rw [e1]
        have := Nat.mul_le_mul_right (2 ^ (-e).toNat) hc
        simp only [Nat.pow_zero, Nat.mul_one] at this ⊢
        rw [Nat.mul_right_comm]
        exact this
      · rw [show ((b : Int) + e).toNat = 0 by omega] at hc
        have e1 : 2 ^ (-e).toNat = 2 ^ (-((b : Int) + e)).toNat * 2 ^ b := by rw [← Nat.pow_add]; congr 1; omega
        rw [e1]
        have := Nat.mul_le_mul_right (2 ^ b) hc
        simp only [Nat.pow_zero, Nat.mul_one, Nat.one_mul] at this ⊢
        rw [← Nat.mul_assoc, Nat.mul_comm (2 ^ b) Y]
        exact this
  have k2 : 2 ^ b * 2 ^ e.toNat * Y ≤ m * 2 ^ e.toNat * Y := Nat.mul_le_mul_right _ (Nat.mul_le_mul_right _ hb)
  have k3 := Nat.mul_le_mul_left 4 (Nat.le_trans key k2)
  have e1 : 4 * 2 ^ (-e).toNat * X = 4 * (X * 2 ^ (-e).toNat) := by rw [Nat.mul_assoc, Nat.mul_comm X]
  have e2 : m * (4 * 2 ^ e.toNat) * Y = 4 * (m * 2 ^ e.toNat * Y) := by rw [Nat.mul_left_comm m 4, Nat.mul_assoc]
  rw [e1, e2]
  exact k3

theorem size_above {s : Nat} : (sizeS s ≤ 18014398509481984 * aboveS s ∧ belowS s = aboveS s) ∨ sizeS s ≤ 9007199254740992 * aboveS s := by
  have hm := mS_lt s
  unfold sizeS aboveS belowS
  cases hnb : nbS s
  · left
    refine ⟨?_, by simp⟩
    have : mS s * (4 * qS s) = 2 * mS s * (2 * qS s) := by rw [Nat.mul_comm 2 (mS s), Nat.mul_assoc, show 4 * qS s = 2 * (2 * qS s) by omega]
    rw [this]
    exact Nat.mul_le_mul_right _ (by omega)
  · right
    have hm2 : mS s = 4503599627370496 := by
      unfold nbS at hnb
      simp at hnb
      unfold mS
      rw [if_neg (by omega)]; omega
    rw [hm2]
    omega

theorem size_bl {s : Nat} (h : s < 9218868437227405312) : bl (sizeS s) ≤ 1030 ∧ bl (belowS s) ≤ 975 ∧ bl (aboveS s) ≤ 975 ∧ bl (oneS s) ≤ 1080 := by
  have hq := qS_bl h
  have he := eS_bd h
  have h4 : bl 4 ≤ 3 := bl_le (n := 4) (k := 3) (by omega)
  have h2 : bl 2 ≤ 2 := bl_le (n := 2) (k := 2) (by omega)
  have hm := bl_le (n := mS s) (k := 53) (mS_lt s)
  have a1 := bl_mul 4 (qS s)
  have a2 := bl_mul (mS s) (4 * qS s)
  have a3 := bl_mul 2 (qS s)
  have a4 := bl_mul 4 (2 ^ (-eS s).toNat)
  have a5 := bl_two (-eS s).toNat
  unfold sizeS belowS aboveS oneS
  refine ⟨by omega, ?_, by omega, by omega⟩
  split <;> omega

theorem one_ne (s : Nat) : oneS s ≠ 0 := by unfold oneS; have : 0 < 2 ^ (-eS s).toNat := Nat.pow_pos (by omega); omega

/-- A round of shortest. -/
theorem round_step {S D u dj j : Nat} (hD : D ≠ 0) (h : u + D * 10 * dj = S * 10 ^ j) : (S * 10 ^ j) / D = dj * 10 + u / D ∧ (S * 10 ^ j) % D = u % D := by
  have h1 := Nat.div_add_mod u D
  have h2 := Nat.mod_lt u (Nat.pos_of_ne_zero hD)
  have h3 : u % D + (dj * 10 + u / D) * D = S * 10 ^ j := by
    rw [← h, Nat.add_mul, Nat.mul_comm (u / D) D]
    have : D * 10 * dj = dj * 10 * D := by rw [Nat.mul_assoc, Nat.mul_comm D, Nat.mul_comm 10 dj]
    omega
  exact div_of h3 h2

theorem round_next {S D u dj j : Nat} (h : u + D * 10 * dj = S * 10 ^ j) : u % D * 10 + D * 10 * (dj * 10 + u / D) = S * 10 ^ (j + 1) := by
  have h1 := Nat.div_add_mod u D
  rw [Nat.pow_succ, ← Nat.mul_assoc, ← h, Nat.add_mul, Nat.mul_add]
  have e1 : D * 10 * (dj * 10) = D * 10 * dj * 10 := by rw [Nat.mul_assoc (D * 10)]
  have e2 : D * 10 * (u / D) = D * (u / D) * 10 := by rw [Nat.mul_right_comm]
  omega

theorem dj_lt {S D u dj j : Nat} (hS : S < 10 * D) (h : u + D * 10 * dj = S * 10 ^ j) : dj < 10 ^ j := by
  have h1 : S * 10 ^ j < 10 * D * 10 ^ j := Nat.mul_lt_mul_of_pos_right hS (Nat.pow_pos (by omega))
  have h2 : D * 10 * dj < D * 10 * 10 ^ j := by rw [Nat.mul_comm D 10] at *; omega
  exact Nat.lt_of_mul_lt_mul_left h2

end Go.Proofs.YthdcceackfdbbabGreatDoor
/- Walk: shortest. Own text. -/
namespace Go.Proofs.YthdcceackfdbbabGreatDoor
open Go.RowKit
attribute [local go_sem ↓] Go.wp_at_zero Go.wp_at_succ

theorem pick_both {N B A D : Nat} {ev : Bool} {lo down up : Nat} (h1 : N / D = lo) (h2 : N % D = down) (h3 : D - down = up) (hl : inS down B ev = true) (hu : inS up A ev = true) : pickO N B A D ev = some (lo + nearS lo down up) := by
  unfold pickO; rw [h1, h2, h3, hl, hu]; rfl
theorem pick_lower {N B A D : Nat} {ev : Bool} {lo down up : Nat} (h1 : N / D = lo) (h2 : N % D = down) (h3 : D - down = up) (hl : inS down B ev = true) (hu : inS up A ev = false) : pickO N B A D ev = some lo := by
  unfold pickO; rw [h1, h2, h3, hl, hu]; rfl
theorem pick_upper {N B A D : Nat} {ev : Bool} {lo down up : Nat} (h1 : N / D = lo) (h2 : N % D = down) (h3 : D - down = up) (hl : inS down B ev = false) (hu : inS up A ev = true) : pickO N B A D ev = some (lo + 1) := by
  unfold pickO; rw [h1, h2, h3, hl, hu]; rfl
theorem pick_none {N B A D : Nat} {ev : Bool} {lo down up : Nat} (_h1 : N / D = lo) (h2 : N % D = down) (h3 : D - down = up) (hl : inS down B ev = false) (hu : inS up A ev = false) : pickO N B A D ev = none := by
  unfold pickO; rw [h2, h3, hl, hu]; rfl

theorem Hid.mk' {p : Prop} (h : p) : Hid p := h

theorem nearS_le (a b c : Nat) : nearS a b c ≤ 1 := by unfold nearS; split <;> (try split) <;> omega

theorem ten_le_16 {j : Nat} (h : j ≤ 16) : 10 ^ j ≤ 10000000000000000 := Nat.le_trans (Nat.pow_le_pow_right (by omega) h) (by decide)

end Go.Proofs.YthdcceackfdbbabGreatDoor
/- Plain mathematics: no size is above infinity. Own text. -/
namespace Go.Proofs.YthdcceackfdbbabGreatDoor

theorem rhe_le {n d m : Nat} (h : n < d * m) : rhe n d ≤ m := by
  have h1 : n / d < m := Nat.div_lt_of_lt_mul h
  unfold rhe
  split <;> omega

theorem rat_le {a b i j s : Nat} {e : Int} (h2 : a * 2 ^ i < 2 * (b * 2 ^ j)) (he : e = (j : Int) + 1 - i - s) : rat a b e ≤ 2 ^ s := by
  rw [← rat_of (a := a) (b := b) (i := i) (j := j) (s := s) he]
  exact rhe_le ((Nat.mul_lt_mul_right (Nat.pow_pos (by omega))).2 h2)

theorem rnd_le (a b : Nat) (ha : a ≠ 0) (hb : b ≠ 0) : rnd a b ≤ 9218868437227405312 := by
  obtain ⟨i, j, e, h1, h2⟩ := plog_key ha hb
  by_cases c1 : 1023 < plog a b
  · unfold rnd; rw [if_pos c1]; omega
  · by_cases c2 : plog a b < -1075
    · rw [rnd_low ha hb h1 h2 (by omega)]; omega
    · unfold rnd; rw [if_neg c1]
      unfold eOf
      by_cases c3 : plog a b < -1022
      · rw [if_pos c3]
        have h3 := rat_le (e := -1074) (s := (plog a b + 1075).toNat) h2 (by omega)
        have h4 : 2 ^ (plog a b + 1075).toNat ≤ 2 ^ 53 := Nat.pow_le_pow_right (by omega) (by omega)
        have h5 : ((-1074 : Int) + 1074).toNat = 0 := rfl
        rw [h5]
        omega
      · rw [if_neg c3]
        have h3 := rat_le (e := plog a b - 52) (s := 53) h2 (by omega)
        have h4 : (plog a b - 52 + 1074).toNat ≤ 2045 := by omega
        omega

theorem decRnd_le (D : Nat) (k : Int) : decRnd D k ≤ 9218868437227405312 := by
  unfold decRnd
  split
  · omega
  · rename_i h
    split
    · exact rnd_le _ _ (Nat.ne_of_gt (Nat.mul_pos (by omega) (ten_pow_pos _))) (by omega)
    · exact rnd_le _ _ h (Nat.ne_of_gt (ten_pow_pos _))

theorem drop_zero (l : List UInt8) : ∀ c r, l.dropWhile (· == 48) = c :: r → c.toNat ≠ 48 := by
  intro c r h
  have := List.head?_dropWhile_not (p := (· == (48 : UInt8))) l
  rw [h] at this
  simp at this
  intro e
  exact this (UInt8.toNat_inj.1 e)

theorem digs_append {a b : List UInt8} (ha : Digs a) (hb : Digs b) : Digs (a ++ b) := by
  intro x hx
  rcases List.mem_append.1 hx with h | h
  · exact ha x h
  · exact hb x h

theorem digs_drop {l : List UInt8} (h : Digs l) (p : UInt8 → Bool) : Digs (l.dropWhile p) := fun x hx => h x ((List.dropWhile_sublist p).subset hx)

end Go.Proofs.YthdcceackfdbbabGreatDoor
