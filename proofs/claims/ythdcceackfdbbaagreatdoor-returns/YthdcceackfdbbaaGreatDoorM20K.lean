import Derived.Test.YthdcceackfdbbaaGreatDoorM19K
import Derived.Test.YthdcceackfdbbaaGreatDoorShelf
import Derived.Test.YthdcceackfdbbaaGreatDoorShelf3
import Derived.Test.YthdcceackfdbbaaGreatDoorM16K
import Derived.Test.YthdcceackfdbbaaGreatDoorM18K
import Derived.Deep.QuietTactic
import Derived.Laws.StructEq
import Derived.RangeFuncBox
import Derived.Deep.RegionLaw
import Derived.Lib.SliceRun
/- Own text: the reader of texts: split. -/
namespace Go.Proofs.YthdcceackfdbbaaGreatDoor
open Go Go.RowKit Go.Shelf

theorem isBlank_any (w : World) (x : Nat) (hx : x ≤ 1114111) : Calls Tryz.prog 277 #[.int .i32 (x : Int)] w fun e w' => e = .returned (.bool (blankP x)) ∧ w' = w := by
  by_cases h1 : x = 32
  · subst h1
    go_enter Tryz.func277, Tryz.ntmps277
    go_wp2
    go_ret
    exact ⟨rfl, rfl⟩
  · by_cases h2 : x = 9
    · subst h2
      go_enter Tryz.func277, Tryz.ntmps277
      go_wp2
      go_ret
      exact ⟨rfl, rfl⟩
    · have h1' : ((x : Int) == 32) = false := by simp; omega
      have h2' : ((x : Int) == 9) = false := by simp; omega
      have h3 : blankP x = ((x : Int) == 13) := by
        unfold blankP
        rw [Bool.eq_iff_iff]; simp; omega
      rw [h3]
      go_enter Tryz.func277, Tryz.ntmps277
      go_wp2
      go_ret
      exact ⟨rfl, rfl⟩

/-- a line as the states are handed it -/
def lineV (A n : Nat) (c : Bool) : Value := .agg #[.slice (some ⟨A, 0, none⟩) n n, .bool c]
/-- the words of a line lie in a row -/
structure LineAt (w : World) (B A : Nat) (ws : List ByteArray) : Prop where
  lo : B ≤ A
  strs : StrsAt w (some ⟨A, 0, none⟩) ws
  lt : A < w.heap.size

set_option maxRecDepth 20000 in
set_option maxHeartbeats 1000000 in
theorem split_any (w : World) (s : ByteArray) (hs : s.size ≤ 1000000) :
    Calls Tryz.prog 275 #[.string s] w fun e w' => ∃ A ws, e = .returned (lineV A ws.length (decide (s.data.toList.head? = some 37))) ∧ ws.map (·.data.toList) = wordsL s.data.toList ∧ LineAt w' w.heap.size A ws ∧ Below w.heap.size w w' := by
  obtain ⟨b, hb⟩ : ∃ b, w.heap.size = b := ⟨_, rfl⟩
  obtain ⟨V, hV⟩ : ∃ V, w.alloc (.cells #[.slice none 0 0, .bool false] 213) = V := ⟨_, rfl⟩
  have rV : Arr V b 213 [.slice none 0 0, .bool false] := by rw [← hV, ← hb]; exact Arr.newL w _ _
  have bV : Below b w V := by rw [← hV, ← hb]; exact Below.refl' _ _
  have zV : V.heap.size = b + 1 := by rw [← hV]; simp [hb]
  have hpred : PredAtRunes Tryz.prog 277 #[] blankP V := fun W x hx _ => (isBlank_any W x hx).mono (fun e w' h => ⟨h.1, 0, h.2⟩)
  have HF := hid (Tryz.strings_FieldsFunc_runes 277 #[] (enters_of Tryz.func277 (by kernel_rfl) rfl) blankP s V (by omega) hpred)
  have hpre : Lib.hasPrefix s.data.toList [37] = decide (s.data.toList.head? = some 37) := by
    cases s.data.toList with
    | nil => rfl
    | cons c r =>
      simp only [Lib.hasPrefix, List.isPrefixOf, Bool.and_true, List.head?_cons, Option.some.injEq]
      rw [Bool.eq_iff_iff, beq_iff_eq, decide_eq_true_iff]; exact eq_comm
  obtain ⟨cb, hcb⟩ : ∃ cb, decide (s.data.toList.head? = some 37) = cb := ⟨_, rfl⟩
  rw [hcb] at hpre ⊢
  clear hcb
  have HPR := hid hpre
  have HV := hid hV
  have HRV := hid rV
  have HBV := hid bV
  have HFW := hid (fields_words s)
  clear hV rV bV hpred hpre
  generalize Lib.goFieldsP blankP s = ws at *
  go_enter Tryz.func275, Tryz.ntmps275
  go_wp2_with fail
  rw [HV.out]
  refine HF.out.mono ?_
  rintro e W1 ⟨A, rfl, hA, hown, b1⟩
  have HOW := hid hown
  have HB1 := hid b1
  clear hown b1 HF
  go_wp2_with fail
  refine (Tryz.strings_HasPrefix s _ _).mono ?_
  rintro e w2 ⟨rfl, hw2⟩
  rw [hw2]
  clear hw2
  rw [show (({ data := #[37] } : ByteArray)).data.toList = [37] from rfl, HPR.out]
  clear HPR
  have r1 := HRV.out.belowAll HB1.out
  have x0 := r1.cell (i := 0) rfl
  have y0 := r1.frozen 0
  have x1 := (r1.set 0 (.slice (some ⟨A, 0, none⟩) ws.length ws.length)).cell (i := 1) rfl
  have y1 := (r1.set 0 (.slice (some ⟨A, 0, none⟩) ws.length ws.length)).frozen 1
  have HR1 := hid r1
  clear r1
  go_wp2
  have r3 := (HR1.out.set 0 (.slice (some ⟨A, 0, none⟩) ws.length ws.length)).set 1 (.bool cb)
  have z0 := r3.cell (i := 0) rfl
  have z1 := r3.cell (i := 1) rfl
  refine bodyPost_ret (v := lineV A ws.length cb) (by simp [results, Tryz.results275, go_sem, lineV, z0, z1]) rfl ⟨A, ws, rfl, HFW.out, ⟨by omega, ?_, ?_⟩, ?_⟩
  · intro k x hx
    have hne : A ≠ b := by omega
    refine ⟨A, 0, rfl, ?_, ?_⟩
    · have := (HOW.out.lt A rfl).2; simpa [World.setCell] using this
    · rw [Nat.zero_add]
      obtain ⟨h0, ⟨h1, _⟩ | ⟨g', cap', cur, e1, hB, h2, h3, h4, h5, h6⟩⟩ := HOW.out
      · cases h1
      · simp only [Value.slice.injEq, Option.some.injEq, Addr.mk.injEq] at e1
        obtain ⟨⟨rfl, _⟩, _, rfl⟩ := e1
        have hk : k < ws.length := (List.getElem?_eq_some_iff.1 hx).1
        have h7 : (cur.toList.take (ws.length * 1))[k]? = (ws.map Value.string)[k]? := by rw [h6]
        rw [List.getElem?_take, if_pos (by omega), List.getElem?_map, hx] at h7
        have ha : Arr W1 A 9 cur.toList := by unfold Arr; rw [Array.toArray_toList]; exact h2
        exact ((ha.other _ hne).other _ hne).cell h7
  · have := (HOW.out.lt A rfl).2; simpa [World.setCell] using this
  · rw [hb]
    exact ((HBV.out.trans (HB1.out.mono (by omega))).setCell (p := ⟨b, 0, none⟩) (Nat.le_refl _) _).setCell (p := ⟨b, 1, none⟩) (Nat.le_refl _) _

end Go.Proofs.YthdcceackfdbbaaGreatDoor
/- Own text: rows of places: Index. -/
namespace Go.Proofs.YthdcceackfdbbaaGreatDoor
open Go Go.RowKit

/-- a row of places -/
def PlcsAt (w : World) (ao : Option Addr) (ps : List (Nat × Nat)) : Prop := ∀ (k : Nat) (q : Nat × Nat), ps[k]? = some q → ∃ g : Nat, ao = some ⟨g, 0, none⟩ ∧ g < w.heap.size ∧ w.cell? ⟨g, k * 2, none⟩ = some (.int .i64 (q.1 : Int)) ∧ w.cell? ⟨g, k * 2 + 1, none⟩ = some (.int .i64 (q.2 : Int))

def eqB (x y a b : Int) : Bool := decide (a = x ∧ b = y)
def isAt (x y : Int) (q : Nat × Nat) : Bool := eqB x y (q.1 : Int) (q.2 : Int)
/-- where a place stands in a row -/
def idxP (ps : List (Nat × Nat)) (x y : Int) : Option Nat := ps.findIdx? (isAt x y)
def idxV : Option Nat → Int
  | some k => k
  | none => -1

theorem idxP_none {ps : List (Nat × Nat)} {x y : Int} (h : ∀ (k : Nat) q, ps[k]? = some q → isAt x y q = false) : idxP ps x y = none := by
  unfold idxP
  rw [List.findIdx?_eq_none_iff]
  intro q hq
  obtain ⟨k, hk, he⟩ := List.getElem_of_mem hq
  exact h k q (by rw [List.getElem?_eq_getElem hk, he])

theorem idxP_some {ps : List (Nat × Nat)} {x y : Int} {k : Nat} {q : Nat × Nat} (h : ps[k]? = some q) (hq : isAt x y q = true) (h2 : ∀ (j : Nat) p, j < k → ps[j]? = some p → isAt x y p = false) : idxP ps x y = some k := by
  unfold idxP
  have hk : k < ps.length := (List.getElem?_eq_some_iff.1 h).1
  rw [List.findIdx?_eq_some_iff_getElem]
  refine ⟨hk, ?_, fun j hj => ?_⟩
  · rw [(List.getElem?_eq_some_iff.1 h).2]; exact hq
  · have := h2 j (ps[j]'(by omega)) hj (List.getElem?_eq_getElem (by omega))
    rw [this]; simp

theorem plc_guard (w : World) (x y : Operand) (xs ys : Array Value) : (eqGuard .eql 117 x y (.agg xs) (.agg ys)).run Tryz.prog w = .ok () w := run_eqGuard_agg w .eql _ x y xs ys (by kernel_rfl)

theorem plc_eql (w : World) (x y a b : Int) : (binOp .eql 117 (.agg #[.int .i64 x, .int .i64 y]) (.agg #[.int .i64 a, .int .i64 b])).run Tryz.prog w = .ok (.bool (eqB x y a b)) w := by
  have hu := Tryz.underlying117
  obtain ⟨fs, hfs⟩ : ∃ fs, fs = (#[{ name := "Row", type := 3, offset := 0, embedded := false, tag := "", pkgPath := "", byteOffset := 0 }, { name := "Col", type := 3, offset := 1, embedded := false, tag := "", pkgPath := "", byteOffset := 8 }] : Array Field) := ⟨_, rfl⟩
  rw [← hfs] at hu
  have hf : Tryz.prog.fieldsOf 117 = fs := by unfold Program.fieldsOf; rw [hu]
  rw [run_eql_struct, run_equalIn_struct w 9999 117 _ _ (by rw [hf]; exact hu) (by kernel_rfl), hf, hfs]
  have hi := Tryz.underlying3
  simp [Op.eqFields, go_sem, part, hi]
  unfold eqB
  by_cases h1 : x = a
  · by_cases h2 : y = b
    · rw [if_pos h1, if_pos h2]; simp [h1, h2]
    · rw [if_pos h1, if_neg h2]; simp [h1, Ne.symm h2]
  · rw [if_neg h1]; simp [Ne.symm h1]

set_option maxRecDepth 20000 in
set_option maxHeartbeats 1000000 in
theorem index_any (w : World) (ao : Option Addr) (n cap : Nat) (ps : List (Nat × Nat)) (x y : Int) (hn : ps.length = n) (hn1 : n ≤ 1000000) (hps : PlcsAt w ao ps) :
    Calls Tryz.prog 234 #[.slice ao n cap, .agg #[.int .i64 x, .int .i64 y]] w fun e w' => e = .returned (.int .i64 (idxV (idxP ps x y))) ∧ Below w.heap.size w w' := by
  obtain ⟨b, hb⟩ : ∃ b, w.heap.size = b := ⟨_, rfl⟩
  obtain ⟨r, hr⟩ : ∃ r, idxP ps x y = r := ⟨_, rfl⟩
  rw [hr, hb]
  have HR := hid hr
  have HPS := hid hps
  clear hr hps
  obtain ⟨V, hV⟩ : ∃ V, w.alloc (.cells #[.int .i64 x, .int .i64 y] 117) = V := ⟨_, rfl⟩
  have aV : Arr V b 117 [.int .i64 x, .int .i64 y] := by rw [← hV, ← hb]; exact Arr.newL w _ _
  have bV : Below b w V := by rw [← hV, ← hb]; exact Below.refl' _ _
  have HV := hid hV
  have HAV := hid aV
  have HBV := hid bV
  clear hV aV bV
  go_enter Tryz.func234, Tryz.ntmps234
  go_wp2
  rw [HV.out]
  go_loopw [8] (fun i wr => ∃ k m : Nat, k ≤ n ∧ i = .int .i64 (k : Int) ∧ wr = V.drewN m ∧ Hid (∀ (j : Nat) p, j < k → ps[j]? = some p → isAt x y p = false)) (fun i _ => n - (intOf i).toNat)
  case atStart => exact ⟨0, 0, Nat.zero_le _, rfl, (World.drewN_zero V).symm, fun j p h => by omega⟩
  case round =>
    obtain ⟨k, m, hk, rfl, rfl, HN⟩ := hrel
    by_cases hlt : k < n
    · have hlt' : (k : Int) < n := by omega
      obtain ⟨q, hq⟩ : ∃ q, ps[k]? = some q := ⟨ps[k]'(by omega), by simp⟩
      obtain ⟨g, rfl, hg, hc0, hc1⟩ := HPS.out k q hq
      have d0 : V.cell? ⟨g, k * 2, none⟩ = some (.int .i64 (q.1 : Int)) := (HBV.out.cell (p := ⟨g, k * 2, none⟩) (by show g < b; omega)).trans hc0
      have d1 : V.cell? ⟨g, k * 2 + 1, none⟩ = some (.int .i64 (q.2 : Int)) := (HBV.out.cell (p := ⟨g, k * 2 + 1, none⟩) (by show g < b; omega)).trans hc1
      have x0 := HAV.out.cell (i := 0) rfl
      have x1 := HAV.out.cell (i := 1) rfl
      have HQ := hid hq
      clear hc0 hc1 hq
      obtain ⟨ev, hev⟩ : ∃ ev, eqB x y (q.1 : Int) (q.2 : Int) = ev := ⟨_, rfl⟩
      have HEV : Hid (isAt x y q = ev) := hev
      have hE := fun w => plc_eql w x y (q.1 : Int) (q.2 : Int)
      rw [hev] at hE
      clear hev
      have hG := plc_guard
      obtain ⟨Vd, hVd⟩ : ∃ Vd, V.drewN m = Vd := ⟨_, rfl⟩
      have e0 : Vd.cell? ⟨g, k * 2, none⟩ = some (.int .i64 (q.1 : Int)) := by rw [← hVd]; exact d0
      have e1 : Vd.cell? ⟨g, k * 2 + 1, none⟩ = some (.int .i64 (q.2 : Int)) := by rw [← hVd]; exact d1
      have f0 : Vd.cell? ⟨b, 0, none⟩ = some (.int .i64 x) := by rw [← hVd]; exact x0
      have f1 : Vd.cell? ⟨b, 1, none⟩ = some (.int .i64 y) := by rw [← hVd]; exact x1
      rw [hVd]
      have HVD := hid hVd
      clear hVd d0 d1 x0 x1
      go_wp2
      go_quiet (fail)
      have hwn : Vd.drewN nq = V.drewN (m + nq) := by rw [← HVD.out, World.drewN_drewN]
      rw [hwn]
      clear hwn e0 e1 f0 f1
      cases ev with
      | true =>
        have hrs : r = some k := by rw [← HR.out]; exact idxP_some HQ.out HEV.out HN.out
        subst hrs
        go_wp2
        go_ret
        exact ⟨rfl, below_dn HBV.out _⟩
      | false =>
        go_wp2
        go_round
        case rel =>
          refine ⟨k + 1, m + nq, by omega, by simp, rfl, fun j p hj hp => ?_⟩
          by_cases e : j = k
          · subst e; rw [HQ.out] at hp; cases hp; exact HEV.out
          · exact HN.out j p (by omega) hp
        case measure => simp [intOf]; omega
    · have hlt' : ¬ (k : Int) < n := by omega
      have hrs : r = none := by
        rw [← HR.out]
        exact idxP_none (fun j q hq => HN.out j q (by have := (List.getElem?_eq_some_iff.1 hq).1; omega) hq)
      subst hrs
      go_wp2
      go_ret
      exact ⟨rfl, below_dn HBV.out _⟩

end Go.Proofs.YthdcceackfdbbaaGreatDoor
/- Own text: places collected. -/
namespace Go.Proofs.YthdcceackfdbbaaGreatDoor
open Go Go.RowKit Go.Shelf
attribute [local go_sem] Oper.semAt_some

/-- places as cells -/
def plcC (ps : List (Nat × Nat)) : List Value := ps.flatMap fun q => [.int .i64 (q.1 : Int), .int .i64 (q.2 : Int)]

theorem plcC_len (ps : List (Nat × Nat)) : (plcC ps).length = ps.length * 2 := by
  induction ps with
  | nil => rfl
  | cons x r ih => simp only [plcC, List.flatMap_cons, List.length_append, List.length_cons, List.length_nil] at ih ⊢; omega

theorem plcC_app (ps qs : List (Nat × Nat)) : plcC (ps ++ qs) = plcC ps ++ plcC qs := by simp [plcC]

theorem plcC_get : ∀ (ps : List (Nat × Nat)) (k : Nat) (q : Nat × Nat), ps[k]? = some q → (plcC ps)[k * 2]? = some (.int .i64 (q.1 : Int)) ∧ (plcC ps)[k * 2 + 1]? = some (.int .i64 (q.2 : Int))
  | [], _, _, h => by simp at h
  | x :: r, 0, q, h => by simp at h; subst h; exact ⟨rfl, rfl⟩
  | x :: r, k + 1, q, h => by
    have h2 := plcC_get r k q (by simpa using h)
    have e : plcC (x :: r) = [.int .i64 (x.1 : Int), .int .i64 (x.2 : Int)] ++ plcC r := rfl
    rw [e, List.getElem?_append_right (by simp only [List.length_cons, List.length_nil]; omega), List.getElem?_append_right (by simp only [List.length_cons, List.length_nil]; omega)]
    simp only [List.length_cons, List.length_nil]
    rw [show (k + 1) * 2 - (0 + 1 + 1) = k * 2 by omega, show (k + 1) * 2 + 1 - (0 + 1 + 1) = k * 2 + 1 by omega]
    exact h2

theorem plcC_one : ∀ (ps : List (Nat × Nat)) (u : Value), u ∈ plcC ps → ∃ x : Int, u = .int .i64 x := by
  intro ps u hu
  obtain ⟨q, _, hq⟩ := List.mem_flatMap.1 hu
  simp at hq
  rcases hq with rfl | rfl
  · exact ⟨_, rfl⟩
  · exact ⟨_, rfl⟩

/-- the row of places that a reader has still free -/
def FreeAt (w : World) (B : Nat) (v : Value) (ps : List (Nat × Nat)) : Prop := w.ownsRow B 117 2 v ps.length (plcC ps)

theorem FreeAt.shape {w : World} {B : Nat} {v : Value} {ps : List (Nat × Nat)} (h : FreeAt w B v ps) : ∃ ao cap, v = .slice ao ps.length cap ∧ PlcsAt w ao ps ∧ ps.length ≤ cap ∧ (ao = none → ps = []) := by
  obtain ⟨hl, ⟨rfl, h0⟩ | ⟨g, cap, cur, rfl, hB, hg, hc1, hc2, hc3, htk⟩⟩ := h
  · have : ps = [] := List.length_eq_zero_iff.1 h0
    subst this
    exact ⟨none, 0, rfl, fun k q hq => by simp at hq, Nat.le_refl _, fun _ => rfl⟩
  · refine ⟨_, cap, rfl, fun k q hq => ⟨g, rfl, (Array.getElem?_eq_some_iff.1 hg).1, ?_, ?_⟩, hc1, fun e => by cases e⟩
    · have hk : k < ps.length := (List.getElem?_eq_some_iff.1 hq).1
      have h1 := (plcC_get ps k q hq).1
      rw [← htk, List.getElem?_take, if_pos (by omega)] at h1
      simp only [World.cell?, hg]
      simpa using h1
    · have hk : k < ps.length := (List.getElem?_eq_some_iff.1 hq).1
      have h1 := (plcC_get ps k q hq).2
      rw [← htk, List.getElem?_take, if_pos (by omega)] at h1
      simp only [World.cell?, hg]
      simpa using h1

theorem Tryz.infoPlc : (Tryz.prog.info? 117).map (fun i => (i.zero, i.size, i.bytes)) = some (some (.agg #[.int .i64 0, .int .i64 0]), 2, 16) := by kernel_rfl

/-- the places of a kind -/
def plsL (kind R C : Nat) : List (Nat × Nat) := (plcL kind R C (fun _ _ => 0)).map fun x => (x.1, x.2.1)

theorem KeptFrom.grown {B : Nat} {X Y : World} {row : Option Nat} (hg : X.grownBy Y row) (h : ∀ j, row = some j → ∃ c, X.heap[j]? = some (.cells c 117 (0, 0))) : KeptFrom B X Y :=
  ⟨hg.size, fun i o _ hi ho => by
    by_cases e : some i = row
    · obtain ⟨c, hc⟩ := h i e.symm
      rw [hc] at hi; cases hi
      exact ((ho _ _ _ rfl).2 rfl).elim
    · exact (hg.block i (Array.getElem?_eq_some_iff.1 hi).1 e).trans hi⟩

set_option maxRecDepth 20000 in
set_option maxHeartbeats 4000000 in
theorem appendSeq_any (w : World) (kind R C g : Nat) (hR : R ≤ 40) (hC : C ≤ 40) (hlen : (plsL kind R C).length ≤ 1600) :
    Calls Tryz.prog 247 #[.slice none 0 0, .func (.func (placeF kind)) #[matV R C g] #[]] w fun e w' => ∃ v, e = .returned v ∧ FreeAt w' w.heap.size v (plsL kind R C) ∧ Below w.heap.size w w' := by
  obtain ⟨b, hb⟩ : ∃ b, w.heap.size = b := ⟨_, rfl⟩
  obtain ⟨i0, hi0, hz0, hz1, hz2⟩ := info_parts Tryz.infoPlc
  have hgv := places_gives kind R C g (fun _ _ => 0) hR hC
  obtain ⟨ps, hps⟩ : ∃ ps, plsL kind R C = ps := ⟨_, rfl⟩
  have HPS : Hid (plsL kind R C = ps) := hps
  rw [hps] at hlen
  rw [hb, hps]
  clear hps
  unfold plsL at HPS
  generalize plcL kind R C (fun _ _ => 0) = xs at *
  have eg := place_enters kind
  generalize placeF kind = pf at *
  generalize matV R C g = mv at *
  refine callsIn_wide (n := 0) |>.1 ?_
  refine callsIn_of_wp_marks Tryz.func247 rfl trivial ?_ rfl
  simp only [Tryz.ntmps247, List.size_toArray, List.length_cons, List.length_nil, Nat.reduceAdd, Nat.reduceSub, Array.replicate_succ, Array.replicate_zero, List.push_toArray, List.append_toArray, List.nil_append, List.cons_append]
  have hdep : Fence.wide.depth = none := rfl
  gi_wp2_with fail
  have aV : Boxed (w.alloc (.cells #[.slice none 0 0] 165)) b 165 (.slice none 0 0) := by rw [← hb]; exact Boxed.new _ _ _
  have bV : Below b w (w.alloc (.cells #[.slice none 0 0] 165)) := by rw [← hb]; exact Below.refl' _ _
  have zV : (w.alloc (.cells #[.slice none 0 0] 165)).heap.size = b + 1 := by simp [hb]
  generalize w.alloc (.cells #[.slice none 0 0] 165) = V at *
  refine range_gives 0 (gf := pf) (fst := #[mv]) (lb := #[]) rfl eg hgv (by intro x hx; obtain ⟨y, _, rfl⟩ := List.mem_map.1 hx; rfl)
    (fun k W => ∃ v, Boxed W b 165 v ∧ FreeAt W b v (ps.take k) ∧ Below b w W ∧ b + 1 ≤ W.heap.size)
    (fun _ _ => False)
    (fun x a' W => ∃ (y : Nat × Nat × Nat) (Bx : Nat), x = plcA y ∧ Arr W Bx 117 [.int .i64 (y.1 : Int), .int .i64 (y.2.1 : Int)] ∧ a' = { tmps := #[.slice none 0 0, .func (.func pf) #[mv] #[], .pointer (some ⟨b, 0, none⟩), undef, .slice none 0 0, .pointer (some ⟨Bx, 0, none⟩), .func (.func pf) #[mv] #[], plcV y.1 y.2.1, undef, undef, undef, undef, undef], defers := [] })
    (fun _ _ _ => trivial) ?hI ?hIx ?hAx ?h0 ?assign ?body ?done ?stop
  case hI =>
    rintro k A B ⟨v, h1, h2, h3, h4⟩ s
    refine ⟨v, Arr.sim (l := [v]) h1 s, ?_, h3.trans (Below.ofSim s (by omega) (by omega)), Nat.le_trans h4 s.size⟩
    obtain ⟨hl, hn | ⟨g, cap, cur, hv, hB, hg, r⟩⟩ := h2
    · exact ⟨hl, .inl hn⟩
    · exact ⟨hl, .inr ⟨g, cap, cur, hv, hB, s.block g _ hg (.inr rfl), r⟩⟩
  case hIx => exact fun c A B h s => h
  case hAx => rintro x a' A B ⟨y, Bx, h1, h2, h3⟩ s; exact ⟨y, Bx, h1, h2.sim s, h3⟩
  case h0 => exact ⟨_, aV, World.ownsRow_nil _ _ _ _, bV, by omega⟩
  case assign =>
    intro l1 k x W1 K hx hi hK
    obtain ⟨y, hy, rfl⟩ := map_get hx
    obtain ⟨v, h1, h2, h3, h4⟩ := hi
    have HK : Hid _ := hid (hK { tmps := #[.slice none 0 0, .func (.func pf) #[mv] #[], .pointer (some ⟨b, 0, none⟩), undef, .slice none 0 0, .pointer (some ⟨W1.heap.size, 0, none⟩), .func (.func pf) #[mv] #[], plcV y.1 y.2.1, undef, undef, undef, undef, undef], defers := [] } (W1.alloc (plcO y.1 y.2.1))
      (KeptFrom.below (Below.refl' _ _)) ⟨v, h1.alloc _, h2.alloc _, h3.alloc (by omega) _, by simp; omega⟩ ⟨y, W1.heap.size, rfl, Arr.newL _ _ _, rfl⟩)
    clear hK h1 h2 h3 h4 hx
    unfold plcA plcV
    unfold plcV plcO at HK
    gi_wp2
    exact HK.out
  case body =>
    rintro l1 k x a' W1 hx ⟨v, h1, h2, h3, h4⟩ ⟨y, Bx, rfl, hb3, rfl⟩
    obtain ⟨y', hy, hye⟩ := map_get hx
    have hpe := plcA_inj hye
    have hkl : k < ps.length := by have := (List.getElem?_eq_some_iff.1 hy).1; rw [← HPS.out, List.length_map]; exact this
    have hpk : ps.take (k + 1) = ps.take k ++ [(y.1, y.2.1)] := by
      rw [List.take_add_one]
      have : ps[k]? = some (y.1, y.2.1) := by rw [← HPS.out, List.getElem?_map, hy]; simp [hpe.1, hpe.2]
      rw [this]; rfl
    have HPK := hid hpk
    obtain ⟨i, j, z⟩ := y
    simp only at hb3 HPK ⊢
    have htk : (ps.take k).length = k := by rw [List.length_take]; omega
    have c3 := h1.cell
    have c4 := hb3.cell (i := 0) rfl
    have c5 := hb3.cell (i := 1) rfl
    have row6 : (W1.alloc (.cells #[.int .i64 (i : Int), .int .i64 (j : Int)] 117)).ownsRow b 117 2 v k (plcC (ps.take k)) := by
      have := h2.alloc (.cells #[.int .i64 (i : Int), .int .i64 (j : Int)] 117)
      rw [htk] at this; exact this
    have H2 := hid h2
    have H1 := hid h1
    have H3 := hid h3
    have H4 := hid h4
    have HN := hid (Arr.newL W1 117 [.int .i64 (i : Int), .int .i64 (j : Int)])
    unfold plcV
    clear hx hye hy hpk h1 h2 h3 h4 hb3
    gi_wp2_with (gi_at_builtin; refine wpListIn_append_own _ rfl _ _ 165 rfl b 117 i0 _ 2 16 Tryz.underlying165 hi0 hz0 hz1 hz2 rfl (by decide) _ _ _ rfl row6 ⟨W1.heap.size, 0, none⟩ 1 1 [.int .i64 (i : Int), .int .i64 (j : Int)] rfl rfl ?c1 ?c2 ?c3 ?c4 ?c5 ?_)
    case c2 => exact ⟨rfl, rfl⟩
    case c3 => unfold maxLen; omega
    case c4 => omega
    case c5 => have := H4.out; omega
    · intro v7 W7 r7 g7 _
      obtain ⟨g', cap', rfl⟩ := ownsRow_succ r7
      obtain ⟨f1, f2, f3, _, f5⟩ := Boxed.appended (n₀ := b) H1.out (by decide) H2.out (by have := H4.out; omega) (Nat.le_refl _) r7 g7
      have c6 := f1.cell
      have c7 := f1.frozen
      have hkf : KeptFrom (b + 1) W1 (W7.setCell ⟨b, 0, none⟩ (.slice (some ⟨g', 0, none⟩) (k + 1) cap')) :=
        ((KeptFrom.below (Below.refl' _ _)).trans (KeptFrom.grown g7 (fun j' hj' => by
          obtain ⟨_, ⟨hv, _⟩ | ⟨g8, cap8, cur8, hv, _, hg8, _⟩⟩ := row6
          · rw [hv] at hj'; cases hj'
          · rw [hv] at hj'; cases hj'; exact ⟨_, hg8⟩))).trans (KeptFrom.set (by omega) _)
      have HF := hid f2
      have HF3 := hid f3
      have HF5 := hid f5
      have HKF := hid hkf
      have HZ7 : Hid (b + 1 ≤ (W7.setCell ⟨b, 0, none⟩ (.slice (some ⟨g', 0, none⟩) (k + 1) cap')).heap.size) := by
        have h1 := g7.size; have h2 := H4.out
        simp only [World.size_alloc] at h1
        show _ ≤ _
        simp [World.setCell]; omega
      clear f1 f2 f3 f5 hkf r7 g7 row6
      gi_wp2
      rw [zV]
      refine ⟨HKF.out, _, HF.out, ?_, H3.out.trans HF5.out, HZ7.out⟩
      unfold FreeAt
      rw [HPK.out, plcC_app, List.length_append, htk]
      exact HF3.out
  case done =>
    rintro D W1 hD ⟨v, h1, h2, h3, h4⟩ hK
    rw [List.length_map] at h2
    have e : ps.take xs.length = ps := List.take_of_length_le (by rw [← HPS.out, List.length_map]; exact Nat.le_refl _)
    rw [e] at h2
    obtain ⟨ao, cap, rfl, _⟩ := h2.shape
    have c3 := h1.cell
    have H2 := hid h2
    clear h2 h1
    gi_wp2
    refine ⟨by simp, .inl ⟨_, _, rfl, run_takeDeferred hK, ?_⟩⟩
    refine ⟨_, results_tmp rfl _ _ _, .slice ao ps.length cap, rfl, ownsRow_putObj H2.out _ hK rfl, h3.trans ⟨rfl, rfl, rfl, by simp [World.putObj], fun q hq => World.putObj_heap_other (by omega)⟩⟩
  case stop => exact fun _ _ _ _ h => h.elim

end Go.Proofs.YthdcceackfdbbaaGreatDoor
/- Own text: places collected, one taken out. -/
namespace Go.Proofs.YthdcceackfdbbaaGreatDoor
open Go Go.RowKit Go.Shelf Go.Lib

theorem collect_any (w : World) (kind R C g : Nat) (hR : R ≤ 40) (hC : C ≤ 40) (hlen : (plsL kind R C).length ≤ 1600) :
    Calls Tryz.prog 233 #[.func (.func (placeF kind)) #[matV R C g] #[]] w fun e w' => ∃ v, e = .returned v ∧ FreeAt w' w.heap.size v (plsL kind R C) ∧ Below w.heap.size w w' := by
  have HA := hid (fun w => appendSeq_any w kind R C g hR hC hlen)
  generalize plsL kind R C = ps at *
  generalize placeF kind = pf at *
  generalize matV R C g = mv at *
  go_enter Tryz.func233, Tryz.ntmps233
  go_wp2_with fail
  refine (HA.out _).mono ?_
  rintro e w' ⟨v, rfl, hf, hb⟩
  obtain ⟨ao, cap, rfl, _⟩ := hf.shape
  go_wp2
  go_ret
  exact ⟨_, rfl, hf, hb⟩

/-- a list with others laid over it -/
def layL (l : List Value) (o : Nat) : List Value → List Value
  | [] => l
  | v :: r => layL (l.set o v) (o + 1) r

theorem layL_len (vs : List Value) : ∀ (l : List Value) (o : Nat), (layL l o vs).length = l.length := by
  induction vs with
  | nil => intro l o; rfl
  | cons v r ih => intro l o; rw [layL, ih, List.length_set]

theorem layL_get (vs : List Value) : ∀ (l : List Value) (o j : Nat), (layL l o vs)[j]? = if o ≤ j ∧ j < o + vs.length ∧ j < l.length then vs[j - o]? else l[j]? := by
  induction vs with
  | nil => intro l o j; rw [layL, if_neg (by simp; omega)]
  | cons v r ih =>
    intro l o j
    rw [layL, ih, List.length_set, List.getElem?_set]
    by_cases h1 : j = o
    · subst h1
      by_cases h2 : j < l.length
      · rw [if_neg (by omega), if_pos rfl, if_pos h2, if_pos ⟨Nat.le_refl _, by simp, h2⟩]; simp
      · rw [if_neg (by omega), if_pos rfl, if_neg h2, if_neg (by omega), List.getElem?_eq_none (by omega)]
    · by_cases h2 : o + 1 ≤ j ∧ j < o + 1 + r.length ∧ j < l.length
      · rw [if_pos h2, if_pos ⟨by omega, by simp; omega, h2.2.2⟩, show j - o = (j - (o + 1)) + 1 by omega, List.getElem?_cons_succ]
      · rw [if_neg h2, if_neg (fun e => h1 e.symm), if_neg (by simp; simp at h2; omega)]

theorem Arr.setCells {g : Nat} {t : TypeId} (vs : List Value) : ∀ {w : World} {l : List Value} (o : Nat), Arr w g t l → Arr (w.setCells g o vs) g t (layL l o vs) := by
  induction vs with
  | nil => intro w l o h; exact h
  | cons v r ih => intro w l o h; exact ih (o + 1) (h.set o v)

theorem Kept.setCells {S : Nat → Prop} {g : Nat} (hg : S g) (vs : List Value) : ∀ (w : World) (o : Nat), Kept S w (w.setCells g o vs) := by
  induction vs with
  | nil => intro w o; exact Kept.refl _ _
  | cons v r ih => intro w o; exact (Kept.set hg v).trans (ih _ (o + 1)) (fun q h => .inl h)

/-- 'clear' of one element of two cells -/
theorem run_clear_two {P : Program} (w : World) (t e ty : TypeId) (z : Value) (x y : Value) (ht : P.underlying t = some (.slice e)) (hv : ∀ w, (zeroValue e).run P w = .ok z w) (hz : z.cells = #[x, y]) (h1 : x.oneCell' = true) (h2 : y.oneCell' = true) (b o c : Nat)
    (hc : ∀ j, j < 2 → (w.cell? ⟨b, o + j, none⟩).isSome = true) (hf : ∀ j, j < 2 → w.frozen? ⟨b, o + j, none⟩ = false) :
    (Builtin.clear_ #[t] ty #[.slice (some ⟨b, o, none⟩) 1 c]).run P w = .ok (.tuple #[]) (w.setCells b o [x, y]) := by
  have hzc : (Builtin.zeroCells z.cells 1).toList = [x, y] := by rw [hz]; simp [Builtin.zeroCells]; rfl
  have hst := run_storeCells_cells (P := P) b o [x, y] 0 w (by simpa using hc) (by simpa using hf) (by intro v hv'; simp at hv'; rcases hv' with rfl | rfl <;> assumption)
  simp only [Nat.add_zero] at hst
  simp [Builtin.clear_, run_underlying ht, hv, hzc, hst]

theorem erase_lay (ps : List (Nat × Nat)) (i n cap : Nat) (cur : List Value) (hi : i < n) (hn : ps.length = n) (hc : n ≤ cap) (hl : cur.length = cap * 2) (htk : cur.take (n * 2) = plcC ps) (u v : Value) :
    (layL (layL cur (i * 2) (plcC (ps.drop (i + 1)))) ((n - 1) * 2) [u, v]).take ((n - 1) * 2) = plcC (ps.eraseIdx i) := by
  have hnl : (plcC (ps.drop (i + 1))).length = (n - (i + 1)) * 2 := by rw [plcC_len, List.length_drop, hn]
  have htl : (plcC (ps.take i)).length = i * 2 := by rw [plcC_len, List.length_take, hn]; congr 1; omega
  rw [List.eraseIdx_eq_take_drop_succ, plcC_app]
  apply List.ext_getElem?
  intro t
  rw [List.getElem?_take]
  by_cases ht : t < (n - 1) * 2
  · rw [if_pos ht, layL_get, if_neg (by omega), layL_get, hnl]
    by_cases h2 : t < i * 2
    · rw [if_neg (by omega), List.getElem?_append_left (by omega)]
      have e1 : cur[t]? = (plcC ps)[t]? := by rw [← htk, List.getElem?_take, if_pos (by omega)]
      have e2 : plcC ps = plcC (ps.take i) ++ plcC (ps.drop i) := by rw [← plcC_app, List.take_append_drop]
      rw [e1, e2, List.getElem?_append_left (by omega)]
    · rw [if_pos ⟨by omega, by omega, by omega⟩, List.getElem?_append_right (by omega), htl]
  · rw [if_neg ht, List.getElem?_eq_none]
    rw [List.length_append, htl, hnl]; omega

set_option maxRecDepth 20000 in
set_option maxHeartbeats 4000000 in
theorem delete_any (w : World) (S : Nat → Prop) (g cap i n : Nat) (ps : List (Nat × Nat)) (hi : i < n) (hn : ps.length = n) (hn2 : n ≤ 1600) (h : RowIn w S 117 2 (.slice (some ⟨g, 0, none⟩) n cap) n (plcC ps)) :
    Calls Tryz.prog 248 #[.slice (some ⟨g, 0, none⟩) n cap, .int .i64 (i : Int), .int .i64 ((i : Int) + 1)] w fun e w' => e = .returned (.slice (some ⟨g, 0, none⟩) (n - 1) cap) ∧ RowIn w' S 117 2 (.slice (some ⟨g, 0, none⟩) (n - 1) cap) (n - 1) (plcC (ps.eraseIdx i)) ∧ Kept (fun q => q = g) w w' := by
  obtain ⟨⟨hl0, ⟨he, _⟩ | ⟨g', cap', cur, he, _, hg, hc1, hc2, hc3, htk⟩⟩, hown⟩ := h
  · cases he
  cases he
  have hmix : Tryz.prog.follows .mixedOrders = true := by kernel_rfl
  obtain ⟨i0, hi0, hz0, hz1, hz2⟩ := info_parts Tryz.infoPlc
  have ha : Arr w g 117 cur.toList := by unfold Arr; rw [Array.toArray_toList]; exact hg
  have hcl : cur.toList.length = cap * 2 := by rw [Array.length_toList, hc3]
  obtain ⟨c, hce⟩ : ∃ c, cur.toList = c := ⟨_, rfl⟩
  rw [hce] at ha hcl htk
  clear hg hc3 hce
  obtain ⟨news, hnews⟩ : ∃ news, plcC (ps.drop (i + 1)) = news := ⟨_, rfl⟩
  have hnl : news.length = (n - (i + 1)) * 2 := by rw [← hnews, plcC_len, List.length_drop, hn]
  have hsrc0 : ∀ t u, news[t]? = some u → w.drew.cell? ⟨g, (i + 1) * 2 + t, none⟩ = some u := by
    intro t u hu
    have ht : t < news.length := (List.getElem?_eq_some_iff.1 hu).1
    refine ha.drew.cell ?_
    have e1 : c[(i + 1) * 2 + t]? = (plcC ps)[(i + 1) * 2 + t]? := by rw [← htk, List.getElem?_take, if_pos (by omega)]
    have e2 : plcC ps = plcC (ps.take (i + 1)) ++ plcC (ps.drop (i + 1)) := by rw [← plcC_app, List.take_append_drop]
    have e3 : (plcC (ps.take (i + 1))).length = (i + 1) * 2 := by rw [plcC_len, List.length_take, hn]; congr 1; omega
    rw [e1, e2, List.getElem?_append_right (by omega), e3, hnews, show (i + 1) * 2 + t - (i + 1) * 2 = t by omega]
    exact hu
  obtain ⟨A, hA, hsrc⟩ : ∃ A : Addr, (if cap = i + 1 then some (⟨g, 0, none⟩ : Addr) else some ⟨g, (i + 1) * 2, none⟩) = some A ∧ Hid (∀ t u, news[t]? = some u → w.drew.cell? (A.add t) = some u) := by
    by_cases h : cap = i + 1
    · refine ⟨⟨g, 0, none⟩, by simp [h], fun t u hu => ?_⟩
      have h0 : news.length = 0 := by rw [hnl]; omega
      rw [List.length_eq_zero_iff.1 h0] at hu
      simp at hu
    · exact ⟨⟨g, (i + 1) * 2, none⟩, by simp [h], fun t u hu => by rw [Addr.add_lit]; exact hsrc0 t u hu⟩
  have s2 : Hid (∀ u ∈ news, u.oneCell' = true) := by
    intro u hu
    rw [← hnews] at hu
    obtain ⟨x, rfl⟩ := plcC_one _ _ hu
    rfl
  have s3 : Hid (∀ t, t < news.length → (w.drew.cell? ⟨g, 0 + i * 2 + t, none⟩).isSome = true ∧ w.drew.frozen? ⟨g, 0 + i * 2 + t, none⟩ = false) := by
    intro t ht
    have : 0 + i * 2 + t < c.length := by omega
    exact ⟨by rw [ha.drew.cell (List.getElem?_eq_getElem this)]; rfl, ha.drew.frozen _⟩
  have s1 : Hid (news.length = (n - (i + 1)) * 2) := hnl
  obtain ⟨W1, hW1⟩ : ∃ W1, W1 = w.drew.setCells g (0 + i * 2) news := ⟨_, rfl⟩
  have a1 : Arr W1 g 117 (layL c (i * 2) news) := by rw [hW1, Nat.zero_add]; exact ha.drew.setCells news (i * 2)
  have hz : ∀ w, (zeroValue 117).run Tryz.prog w = .ok (.agg #[.int .i64 0, .int .i64 0]) w := by intro w; kernel_rfl
  have hclr : ∀ ty c', (Builtin.clear_ #[165] ty #[.slice (some ⟨g, (n - 1) * 2, none⟩) 1 c']).run Tryz.prog W1 = .ok (.tuple #[]) (W1.setCells g ((n - 1) * 2) [.int .i64 0, .int .i64 0]) :=
    fun ty c' => run_clear_two W1 _ _ ty _ _ _ Tryz.underlying165 hz rfl rfl rfl g ((n - 1) * 2) c'
      (fun j hj => by
        have : (n - 1) * 2 + j < (layL c (i * 2) news).length := by rw [layL_len]; omega
        rw [a1.cell (List.getElem?_eq_getElem this)]; rfl) (fun j hj => a1.frozen _)
  have HW : Hid (W1 = w.drew.setCells g (0 + i * 2) news) := hW1
  have k1 : Kept (fun q => q = g) w W1 := by rw [hW1]; exact (Kept.drewN 1).trans (Kept.setCells (S := fun q => q = g) rfl news _ _) (fun q h => .inl h)
  have HEND : Hid (RowIn (W1.setCells g ((n - 1) * 2) [.int .i64 0, .int .i64 0]) S 117 2 (.slice (some ⟨g, 0, none⟩) (n - 1) cap) (n - 1) (plcC (ps.eraseIdx i)) ∧ Kept (fun q => q = g) w (W1.setCells g ((n - 1) * 2) [.int .i64 0, .int .i64 0])) := by
    have a2 := a1.setCells [.int .i64 0, .int .i64 0] ((n - 1) * 2)
    refine ⟨⟨⟨?_, .inr ⟨g, cap, _, rfl, Nat.zero_le _, a2, by omega, hc2, ?_, ?_⟩⟩, hown⟩, k1.trans (Kept.setCells (S := fun q => q = g) rfl _ _ _) (fun q h => .inl h)⟩
    · rw [plcC_len, List.length_eraseIdx, if_pos (by omega), hn]
    · rw [List.size_toArray, layL_len, layL_len, hcl]
    · show (layL _ _ _).take _ = _
      rw [← hnews]
      exact erase_lay ps i n cap c hi hn hc1 hcl htk _ _
  have hclr2 : ∀ ty, (Builtin.clear_ #[165] ty #[.slice (some ⟨g, (i + (n - (i + 1))) * 2, none⟩) (n - (i + (n - (i + 1)))) (cap - (i + (n - (i + 1))))]).run Tryz.prog W1 = .ok (.tuple #[]) (W1.setCells g ((n - 1) * 2) [.int .i64 0, .int .i64 0]) := by
    intro ty
    have e : i + (n - (i + 1)) = n - 1 := by omega
    have e2 : n - (n - 1) = 1 := by omega
    rw [e, e2]; exact hclr ty _
  clear hclr
  have hic : i ≤ cap := by omega
  have hjc : i + 1 ≤ cap := by omega
  have hjn : 0 ≤ (i : Int) + 1 ∧ (i : Int) + 1 ≤ (n : Int) := by omega
  clear hW1 a1 k1 hsrc0 ha htk hcl hl0 hown hnews hz
  go_enter Tryz.func248, Tryz.ntmps248
  go_wp2_with fail
  go_region_law_o (refine step_append_room rfl (.tmp 22) (.tmp 25) 165 rfl 117 i0 2 Tryz.underlying165 hi0 hz1 g 0 i cap (by simp [Act.eval, Act.put]) A (n - (i + 1)) (cap - (i + 1)) news (by simp [Act.eval, Act.put]) s1.out hsrc.out s2.out (by omega) s3.out ?_; rw [← HW.out])
  go_wp2
  go_ret
  refine ⟨?_, HEND.out⟩
  rw [show i + (n - (i + 1)) = n - 1 by omega]; rfl

end Go.Proofs.YthdcceackfdbbaaGreatDoor
