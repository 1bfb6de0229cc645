import Derived.Test.YthdcceackfdbbabGreatDoorM06P
import Derived.Test.YthdcceackfdbbabGreatDoorM00P
import Derived.Shelf.Abstract
import Derived.Shelf.RegionOpen
import Derived.TacticsInMore
import Derived.LoopNIn
import Derived.LoopIn
import Derived.Deep.Cut
import Derived.Deep.CutRange
import Derived.OrdersHeld
import Derived.Deep.RegionHeld
namespace Go.Proofs.YthdcceackfdbbabGreatDoor
open Go Go.RowKit

/-- a matrix and a place as the program hands them on -/
def matV (R C g : Nat) : Value := .agg #[.int .i64 (R : Int), .int .i64 (C : Int), .slice (some ⟨g, 0, none⟩) (R * C) (R * C)]
def plcV (i j : Nat) : Value := .agg #[.int .i64 (i : Int), .int .i64 (j : Int)]
def matO (R C g : Nat) : Obj := .cells #[.int .i64 (R : Int), .int .i64 (C : Int), .slice (some ⟨g, 0, none⟩) (R * C) (R * C)] 44
def plcO (i j : Nat) : Obj := .cells #[.int .i64 (i : Int), .int .i64 (j : Int)] 61

theorem idx_int {R C i j : Nat} (hR : R ≤ 40) (hC : C ≤ 40) (hi : i < R) (hj : j < C) : ∃ k : Nat, (i : Int) * C + j = (k : Int) ∧ k = i * C + j ∧ k < R * C ∧ R * C ≤ 1600 ∧ (i : Int) * C ≤ 1600 ∧ 0 ≤ (i : Int) * C := by
  have h1 := idx_lt hi hj
  have h2 : R * C ≤ 40 * 40 := Nat.mul_le_mul hR hC
  refine ⟨i * C + j, by simp, rfl, h1, by omega, ?_, by rw [← Int.natCast_mul]; omega⟩
  rw [← Int.natCast_mul]; omega

theorem mat_at (w : World) (R C g i j x : Nat) (hR : R ≤ 40) (hC : C ≤ 40) (hi : i < R) (hj : j < C) (hx : w.cell? ⟨g, i * C + j, none⟩ = some (.int .u64 (x : Int))) (hg : g < w.heap.size) :
    Calls Tryz.prog 22 #[matV R C g, plcV i j] w fun e w' => e = .returned (.int .u64 (x : Int)) ∧ w' = (w.alloc (matO R C g)).alloc (plcO i j) := by
  obtain ⟨k, hk, hk2, hk3, hk4, hk5, hk6⟩ := idx_int hR hC hi hj
  rw [← hk2] at hx
  have hx2 : ∀ o o', ((w.alloc o).alloc o').cell? ⟨g, k, none⟩ = some (.int .u64 (x : Int)) := fun o o' => by
    have b := ((Below.refl _ w).alloc (Nat.le_refl _) o).alloc (by simp) o'
    exact (b.cell (p := ⟨g, k, none⟩) hg).trans hx
  have HX := hid hx
  clear hx hk2
  unfold matV plcV matO plcO
  generalize R * C = N at *
  go_enter Tryz.func22, Tryz.ntmps22
  go_wp2
  go_ret
  exact ⟨rfl, rfl⟩

theorem mirrored_any (w : World) (i j : Nat) : Calls Tryz.prog 70 #[plcV i j] w fun e w' => e = .returned (plcV j i) ∧ w' = (w.alloc (plcO i j)).alloc (plcO j i) := by
  unfold plcV plcO
  go_enter Tryz.func70, Tryz.ntmps70
  go_wp2
  exact bodyPost_ret (v := .agg #[.int .i64 (j : Int), .int .i64 (i : Int)]) (by simp [results, Tryz.results70, go_sem]) rfl ⟨rfl, rfl⟩

theorem mat_set (w : World) (R C g i j x : Nat) (l : List Value) (hR : R ≤ 40) (hC : C ≤ 40) (hi : i < R) (hj : j < C) (ha : Arr w g 37 l) (hl : l.length = R * C) :
    Calls Tryz.prog 67 #[matV R C g, plcV i j, .int .u64 (x : Int)] w fun e w' => (∃ v, e = .returned v) ∧ w' = ((w.setCell ⟨g, i * C + j, none⟩ (.int .u64 (x : Int))).alloc (matO R C g)).alloc (plcO i j) := by
  obtain ⟨k, hk, hk2, hk3, hk4, hk5, hk6⟩ := idx_int hR hC hi hj
  rw [← hk2]
  obtain ⟨v, hv⟩ : ∃ v, l[k]? = some v := ⟨l[k]'(by omega), by simp [hl, hk3]⟩
  have hx2 : ∀ o o', ((w.alloc o).alloc o').cell? ⟨g, k, none⟩ = some v := fun o o' => ((ha.alloc o).alloc o').cell hv
  have hf2 : ∀ o o', ((w.alloc o).alloc o').frozen? ⟨g, k, none⟩ = false := fun o o' => ((ha.alloc o).alloc o').frozen k
  have hlt := ha.lt
  clear hv ha hl hk2
  unfold matV plcV matO plcO
  generalize R * C = N at *
  go_enter Tryz.func67, Tryz.ntmps67
  go_wp2
  go_end0
  exact ⟨⟨_, rfl⟩, rfl⟩

theorem Tryz.infoU64 : (Tryz.prog.info? 37).map (fun i => (i.zero, i.size, i.bytes)) = some (some (.int .u64 0), 1, 8) := by kernel_rfl

theorem mat_new (w : World) (R C : Nat) (hR : R ≤ 40) (hC : C ≤ 40) :
    Calls Tryz.prog 46 #[.int .i64 (R : Int), .int .i64 (C : Int)] w fun e w' => e = .returned (matV R C (w.heap.size + 1)) ∧ w' = (w.alloc (matO R C (w.heap.size + 1))).alloc (.cells (Array.replicate (R * C) (.int .u64 0)) 37) := by
  have h2 : R * C ≤ 40 * 40 := Nat.mul_le_mul hR hC
  have hrc : (R : Int) * C = ((R * C : Nat) : Int) := by simp
  obtain ⟨i0, hi, hz0, hz1, hz2⟩ := info_parts Tryz.infoU64
  have hmk := run_make1 (P := Tryz.prog) 35 37 i0 (.int .u64 0) Tryz.underlying35 hi hz0 hz1 rfl (R * C) (by rw [hz2]; omega) (by omega)
  clear hi hz0 hz1 hz2
  unfold matV matO
  generalize R * C = N at *
  go_enter Tryz.func46, Tryz.ntmps46
  go_wp2
  exact bodyPost_ret (v := .agg #[.int .i64 (R : Int), .int .i64 (C : Int), .slice (some ⟨w.heap.size + 1, 0, none⟩) N N]) (by simp [results, Tryz.results46, go_sem]) rfl ⟨rfl, rfl⟩

end Go.Proofs.YthdcceackfdbbabGreatDoor
namespace Go.Proofs.YthdcceackfdbbabGreatDoor
open Go Go.RowKit Go.Shelf
attribute [local go_sem] Oper.semAt_some

/-- an entry, and a place, as yield is handed it -/
def entV (x : Nat × Nat × Nat) : Array Value := #[plcV x.1 x.2.1, .int .u64 (x.2.2 : Int)]
def plcA (x : Nat × Nat × Nat) : Array Value := #[plcV x.1 x.2.1]

/-- the numbers of a matrix, row by row, in block g -/
def MemM (C g : Nat) (R : Nat) (f : Nat → Nat → Nat) (W : World) : Prop := g < W.heap.size ∧ ∀ i j, i < R → j < C → W.cell? ⟨g, i * C + j, none⟩ = some (.int .u64 (f i j : Int))

theorem mat_atM {W : World} {R C g : Nat} {f : Nat → Nat → Nat} (h : MemM C g R f W) (hR : R ≤ 40) (hC : C ≤ 40) {i j : Nat} (hi : i < R) (hj : j < C) :
    CallsIn Fence.wide 0 Tryz.prog 22 #[matV R C g, plcV i j] W fun e w' => e = .returned (.int .u64 (f i j : Int)) ∧ w' = (W.alloc (matO R C g)).alloc (plcO i j) :=
  callsIn_wide.2 (mat_at W R C g i j (f i j) hR hC hi hj (h.2 i j hi hj) h.1)

theorem MemM.sim {B : Nat} {W W' : World} {R C g : Nat} {f : Nat → Nat → Nat} (h : MemM C g R f W) (s : Sim B W W') : MemM C g R f W' :=
  ⟨Nat.lt_of_lt_of_le h.1 s.size, fun i j hi hj => s.cell (h.2 i j hi hj)⟩

set_option maxRecDepth 20000 in
set_option maxHeartbeats 4000000 in
theorem cols_gives (R C g : Nat) (f : Nat → Nat → Nat) (hR : R ≤ 40) (hC : C ≤ 40) :
    Gives Tryz.prog 32 #[matV R C g] #[] ((colsL R C f).map plcA) (fun _ _ => True) := by
  intro l J Jx W hM hJ hJx hY h0
  rw [List.length_map, colsL_len]
  have HJ := hid hJ
  have HJx := hid hJx
  have HY := hid hY
  clear hJ hJx hY hM
  have hj1 : J 0 (W.alloc (matO R C g)) := HJ.out _ _ _ h0 (Sim.alloc _ _ _)
  have hbx : Arr (W.alloc (matO R C g)) W.heap.size 44 [.int .i64 (R : Int), .int .i64 (C : Int), .slice (some ⟨g, 0, none⟩) (R * C) (R * C)] := Arr.newL _ _ _
  refine callsIn_of_wp Tryz.func32 rfl trivial ?_ rfl
  simp only [Tryz.ntmps32, List.size_toArray, List.length_cons, List.length_nil, Nat.reduceAdd, Nat.reduceSub, Array.replicate_succ, Array.replicate_zero, List.push_toArray, List.append_toArray, List.nil_append, List.cons_append, matV]
  unfold matO at hj1 hbx
  gi_wp2
  generalize W.alloc (Obj.cells #[Value.int IntKind.i64 R, Value.int IntKind.i64 C, Value.slice (some ⟨g, 0, none⟩) (R * C) (R * C)] 44) = W0 at *
  gi_loopw [8] (fun v wr => ∃ j : Nat, v = .int .i64 (j : Int) ∧ j ≤ C ∧ J (j * R) wr ∧ Arr wr W.heap.size 44 [.int .i64 (R : Int), .int .i64 (C : Int), .slice (some ⟨g, 0, none⟩) (R * C) (R * C)]) (fun v _ => C - (intOf v).toNat)
  case atStart => exact ⟨0, rfl, by omega, by simpa using hj1, hbx⟩
  case round =>
    clear hj1 hbx h0
    obtain ⟨j, rfl, hoC, hj, hb⟩ := hrel
    have k0 := hb.cell (i := 0) rfl
    have k1 := hb.cell (i := 1) rfl
    have HB := hid hb
    have HJ0 := hid hj
    clear hb hj
    by_cases hlt : j < C
    · have hlt' : (j : Int) < C := by omega
      gi_wp2
      gi_loopw [13] (fun v wr => ∃ i : Nat, v = .int .i64 (i : Int) ∧ i ≤ R ∧ J (j * R + i) wr ∧ Arr wr W.heap.size 44 [.int .i64 (R : Int), .int .i64 (C : Int), .slice (some ⟨g, 0, none⟩) (R * C) (R * C)]) (fun v _ => R - (intOf v).toNat)
      case atStart => exact ⟨0, rfl, by omega, by simpa using HJ0.out, HB.out⟩
      case round =>
        clear HB HJ0 k0 k1
        obtain ⟨i, rfl, hiR, hj, hb⟩ := hrel
        by_cases hilt : i < R
        · have hilt' : (i : Int) < R := by omega
          obtain ⟨fn, tmps, assign, body, hy, hR1⟩ := HY.out (j * R + i) (plcA (i, j, f i j)) _ (by rw [List.getElem?_map, colsL_at f hilt hlt]; rfl) hj
          have hRd : RoundIn Fence.wide 0 Tryz.prog l fn tmps assign body wr (fun e W' => ∃ b, e = .returned (.bool b) ∧ Hid ((b = true ∧ J (j * R + i + 1) W' ∧ Arr W' W.heap.size 44 [.int .i64 (R : Int), .int .i64 (C : Int), .slice (some ⟨g, 0, none⟩) (R * C) (R * C)]) ∨ (b = false ∧ Jx () W'))) :=
            hR1.mono (fun e W' h => by
              rcases h with ⟨rfl, h1, h2⟩ | ⟨rfl, h1, _⟩
              · exact ⟨true, rfl, .inl ⟨rfl, h1, hb.kept h2 (Nat.le_refl _) (by decide)⟩⟩
              · exact ⟨false, rfl, .inr ⟨rfl, h1⟩⟩)
          clear hb hR1 hj
          dsimp only [plcA] at hy
          unfold plcV at hy
          have hdep : Fence.wide.depth = none := rfl
          gi_wp2_with fail
          refine hRd.mono ?_
          rintro e W3 ⟨b, rfl, hz⟩
          cases b with
          | false =>
            have hjx : Jx () W3 := by rcases hz.out with ⟨h, _⟩ | ⟨_, h⟩; · cases h
                                      exact h
            gi_wp2
            refine bodyPost_ret (results_none rfl _ _ _) rfl ?_
            exact ⟨⟨_, rfl⟩, .inr hjx⟩
          | true =>
            have hz' : J (j * R + i + 1) W3 ∧ Arr W3 W.heap.size 44 [.int .i64 (R : Int), .int .i64 (C : Int), .slice (some ⟨g, 0, none⟩) (R * C) (R * C)] := by
              rcases hz.out with ⟨_, h1⟩ | ⟨h, _⟩
              · exact h1
              · cases h
            have HZ := hid hz'
            clear hz hz'
            gi_wp2
            go_roundw
            case rel => exact ⟨i + 1, by simp, by omega, HZ.out.1, HZ.out.2⟩
            case measure => simp [intOf]; omega
        · have hilt' : ¬ (i : Int) < R := by omega
          obtain rfl : i = R := by omega
          have HJ1 := hid hj
          have HB1 := hid hb
          clear hj hb
          gi_wp2
          go_roundw
          case rel => exact ⟨j + 1, by simp, by omega, by rw [Nat.add_mul, Nat.one_mul]; exact HJ1.out, HB1.out⟩
          case measure => simp [intOf]; omega
    · have hlt' : ¬ (j : Int) < C := by omega
      obtain rfl : j = C := by omega
      gi_wp2
      go_end0
      exact ⟨⟨_, rfl⟩, .inl (by rw [Nat.mul_comm]; exact HJ0.out)⟩

end Go.Proofs.YthdcceackfdbbabGreatDoor
namespace Go.Proofs.YthdcceackfdbbabGreatDoor
open Go Go.RowKit Go.Shelf
attribute [local go_sem] Oper.semAt_some

set_option maxRecDepth 20000 in
set_option maxHeartbeats 4000000 in
theorem rows_gives (R C g : Nat) (f : Nat → Nat → Nat) (hR : R ≤ 40) (hC : C ≤ 40) :
    Gives Tryz.prog 29 #[matV R C g] #[] ((rowsL R C f).map plcA) (fun _ _ => True) := by
  intro l J Jx W hM hJ hJx hY h0
  rw [List.length_map, rowsL_len]
  have HJ := hid hJ
  have HJx := hid hJx
  have HY := hid hY
  clear hJ hJx hY hM
  have hj1 : J 0 (W.alloc (matO R C g)) := HJ.out _ _ _ h0 (Sim.alloc _ _ _)
  have hbx : Arr (W.alloc (matO R C g)) W.heap.size 44 [.int .i64 (R : Int), .int .i64 (C : Int), .slice (some ⟨g, 0, none⟩) (R * C) (R * C)] := Arr.newL _ _ _
  refine callsIn_of_wp Tryz.func29 rfl trivial ?_ rfl
  simp only [Tryz.ntmps29, List.size_toArray, List.length_cons, List.length_nil, Nat.reduceAdd, Nat.reduceSub, Array.replicate_succ, Array.replicate_zero, List.push_toArray, List.append_toArray, List.nil_append, List.cons_append, matV]
  unfold matO at hj1 hbx
  gi_wp2
  generalize W.alloc (Obj.cells #[Value.int IntKind.i64 R, Value.int IntKind.i64 C, Value.slice (some ⟨g, 0, none⟩) (R * C) (R * C)] 44) = W0 at *
  gi_loopw [8] (fun v wr => ∃ i : Nat, v = .int .i64 (i : Int) ∧ i ≤ R ∧ J (i * C) wr ∧ Arr wr W.heap.size 44 [.int .i64 (R : Int), .int .i64 (C : Int), .slice (some ⟨g, 0, none⟩) (R * C) (R * C)]) (fun v _ => R - (intOf v).toNat)
  case atStart => exact ⟨0, rfl, by omega, by simpa using hj1, hbx⟩
  case round =>
    clear hj1 hbx h0
    obtain ⟨i, rfl, hoC, hj, hb⟩ := hrel
    have k0 := hb.cell (i := 0) rfl
    have k1 := hb.cell (i := 1) rfl
    have HB := hid hb
    have HJ0 := hid hj
    clear hb hj
    by_cases hlt : i < R
    · have hlt' : (i : Int) < R := by omega
      gi_wp2
      gi_loopw [13] (fun v wr => ∃ j : Nat, v = .int .i64 (j : Int) ∧ j ≤ C ∧ J (i * C + j) wr ∧ Arr wr W.heap.size 44 [.int .i64 (R : Int), .int .i64 (C : Int), .slice (some ⟨g, 0, none⟩) (R * C) (R * C)]) (fun v _ => C - (intOf v).toNat)
      case atStart => exact ⟨0, rfl, by omega, by simpa using HJ0.out, HB.out⟩
      case round =>
        clear HB HJ0 k0 k1
        obtain ⟨j, rfl, hiR, hj, hb⟩ := hrel
        by_cases hilt : j < C
        · have hilt' : (j : Int) < C := by omega
          obtain ⟨fn, tmps, assign, body, hy, hR1⟩ := HY.out (i * C + j) (plcA (i, j, f i j)) _ (by rw [List.getElem?_map, rowsL_at f hlt hilt]; rfl) hj
          have hRd : RoundIn Fence.wide 0 Tryz.prog l fn tmps assign body wr (fun e W' => ∃ b, e = .returned (.bool b) ∧ Hid ((b = true ∧ J (i * C + j + 1) W' ∧ Arr W' W.heap.size 44 [.int .i64 (R : Int), .int .i64 (C : Int), .slice (some ⟨g, 0, none⟩) (R * C) (R * C)]) ∨ (b = false ∧ Jx () W'))) :=
            hR1.mono (fun e W' h => by
              rcases h with ⟨rfl, h1, h2⟩ | ⟨rfl, h1, _⟩
              · exact ⟨true, rfl, .inl ⟨rfl, h1, hb.kept h2 (Nat.le_refl _) (by decide)⟩⟩
              · exact ⟨false, rfl, .inr ⟨rfl, h1⟩⟩)
          clear hb hR1 hj
          dsimp only [plcA] at hy
          unfold plcV at hy
          have hdep : Fence.wide.depth = none := rfl
          gi_wp2_with fail
          refine hRd.mono ?_
          rintro e W3 ⟨b, rfl, hz⟩
          cases b with
          | false =>
            have hjx : Jx () W3 := by rcases hz.out with ⟨h, _⟩ | ⟨_, h⟩; · cases h
                                      exact h
            gi_wp2
            refine bodyPost_ret (results_none rfl _ _ _) rfl ?_
            exact ⟨⟨_, rfl⟩, .inr hjx⟩
          | true =>
            have hz' : J (i * C + j + 1) W3 ∧ Arr W3 W.heap.size 44 [.int .i64 (R : Int), .int .i64 (C : Int), .slice (some ⟨g, 0, none⟩) (R * C) (R * C)] := by
              rcases hz.out with ⟨_, h1⟩ | ⟨h, _⟩
              · exact h1
              · cases h
            have HZ := hid hz'
            clear hz hz'
            gi_wp2
            go_roundw
            case rel => exact ⟨j + 1, by simp, by omega, HZ.out.1, HZ.out.2⟩
            case measure => simp [intOf]; omega
        · have hilt' : ¬ (j : Int) < C := by omega
          obtain rfl : j = C := by omega
          have HJ1 := hid hj
          have HB1 := hid hb
          clear hj hb
          gi_wp2
          go_roundw
          case rel => exact ⟨i + 1, by simp, by omega, by rw [Nat.add_mul, Nat.one_mul]; exact HJ1.out, HB1.out⟩
          case measure => simp [intOf]; omega
    · have hlt' : ¬ (i : Int) < R := by omega
      obtain rfl : i = R := by omega
      gi_wp2
      go_end0
      exact ⟨⟨_, rfl⟩, .inl (by exact HJ0.out)⟩

end Go.Proofs.YthdcceackfdbbabGreatDoor
namespace Go.Proofs.YthdcceackfdbbabGreatDoor
open Go Go.RowKit

theorem Tryz.infoBool : (Tryz.prog.info? 4).map (fun i => (i.zero, i.size, i.bytes)) = some (some (.bool false), 1, 1) := by kernel_rfl

/-- what the reference's list of places seen holds -/
def SM (b : Nat) (R C : Nat) (off rs cs : Int) (n i j : Nat) (wr : World) : Prop :=
  Arr wr b 34 [.int .i64 (R : Int), .int .i64 (C : Int), .int .i64 off, .int .i64 rs, .int .i64 cs] ∧
  ∃ sl : List Bool, Arr wr (b + 1) 4 (sl.map Value.bool) ∧ sl.length = n ∧ ∀ p : Nat, sl[p]? = some true ↔ ∃ x y, Ahead C i j x y ∧ off + x * rs + y * cs = p

theorem SM.row {b R C : Nat} {off rs cs : Int} {n i : Nat} {wr : World} (h : SM b R C off rs cs n i C wr) : SM b R C off rs cs n (i + 1) 0 wr := by
  obtain ⟨h1, sl, h2, h3, h4⟩ := h
  refine ⟨h1, sl, h2, h3, fun p => (h4 p).trans ?_⟩
  simp only [ahead_row]

theorem SM.step {b R C : Nat} {off rs cs : Int} {n i j : Nat} {wr : World} (h : SM b R C off rs cs n i j wr) {p : Nat} (hp : off + i * rs + j * cs = p) (hn : p < n) (hj : j < C) (o : Obj) :
    SM b R C off rs cs n i (j + 1) ((wr.alloc o).setCell ⟨b + 1, p, none⟩ (.bool true)) := by
  obtain ⟨h1, sl, h2, h3, h4⟩ := h
  refine ⟨(h1.alloc o).other _ (by omega), sl.set p true, ?_, by simp [h3], fun q => ?_⟩
  · have := (h2.alloc o).set p (.bool true)
    rw [List.map_set]; exact this
  · rw [List.getElem?_set]
    simp only [ahead_step]
    by_cases e : p = q
    · subst e
      simp only [if_true]
      rw [if_pos (by omega)]
      exact ⟨fun _ => ⟨i, j, .inr ⟨rfl, rfl⟩, hp⟩, fun _ => rfl⟩
    · rw [if_neg e, h4 q]
      constructor
      · rintro ⟨x, y, h5, h6⟩; exact ⟨x, y, .inl h5, h6⟩
      · rintro ⟨x, y, h5 | ⟨rfl, rfl⟩, h6⟩
        · exact ⟨x, y, h5, h6⟩
        · omega

theorem Below.refl' (w : World) (o : Obj) : Below w.heap.size w (w.alloc o) := (Below.refl _ _).alloc (Nat.le_refl _) o

end Go.Proofs.YthdcceackfdbbabGreatDoor
namespace Go.Proofs.YthdcceackfdbbabGreatDoor
open Go Go.RowKit Go.Shelf
attribute [local go_sem] Oper.semAt_some

theorem entV_inj {x y : Nat × Nat × Nat} (h : entV x = entV y) : x = y := by
  obtain ⟨a, b, c⟩ := x; obtain ⟨d, e, f⟩ := y
  simp [entV, plcV] at h
  obtain ⟨⟨h1, h2⟩, h3⟩ := h
  simp only [Prod.mk.injEq]
  omega

theorem plcA_inj {x y : Nat × Nat × Nat} (h : plcA x = plcA y) : x.1 = y.1 ∧ x.2.1 = y.2.1 := by
  obtain ⟨a, b, c⟩ := x; obtain ⟨d, e, f⟩ := y
  simp [plcA, plcV] at h
  exact ⟨by simp only; omega, by simp only; omega⟩

theorem map_get {α β : Type} {l : List α} {f : α → β} {k : Nat} {x : β} (h : (l.map f)[k]? = some x) : ∃ y, l[k]? = some y ∧ f y = x := by
  rw [List.getElem?_map] at h
  cases e : l[k]? with
  | none => rw [e] at h; cases h
  | some y => rw [e] at h; exact ⟨y, rfl, Option.some.inj h⟩

set_option maxRecDepth 20000 in
set_option maxHeartbeats 4000000 in
theorem lower_gives (R C g : Nat) (f : Nat → Nat → Nat) (hR : R ≤ 40) (hC : C ≤ 40) :
    Gives Tryz.prog 31 #[matV R C g] #[] (((colsL R C f).filter (fun x => decide (x.2.1 ≤ x.1))).map plcA) (fun _ _ => True) := by
  intro l J Jx W hM hJ hJx hY h0
  rw [List.length_map]
  have hmf : ∀ (fn : Fn) (first cap : Array Value) (w : World), (Instr.makeFunc fn first cap).run Tryz.prog w = .ok (.func fn first cap) w := fun _ _ _ _ => rfl
  obtain ⟨xs, hxs⟩ : ∃ xs, colsL R C f = xs := ⟨_, rfl⟩
  obtain ⟨kp, hkpd⟩ : ∃ kp : Nat × Nat × Nat → Bool, (fun x => decide (x.2.1 ≤ x.1)) = kp := ⟨_, rfl⟩
  obtain ⟨W0, hW0⟩ : ∃ W0, (W.alloc (matO R C g)).alloc (.cells #[.func (.yield l) #[] #[]] 80) = W0 := ⟨_, rfl⟩
  have hbx : Arr W0 (W.heap.size + 1) 80 [.func (.yield l) #[] #[]] := by have := Arr.newL (W.alloc (matO R C g)) 80 [.func (.yield l) #[] #[]]; rw [World.size_alloc] at this; rw [← hW0]; exact this
  have hj1 : J 0 W0 := by rw [← hW0]; exact hJ _ _ _ h0 ((Sim.alloc _ _ _).trans (Sim.alloc _ _ _))
  have hs0 : W0.heap.size = W.heap.size + 2 := by rw [← hW0]; simp
  have HJ := hid hJ
  have HJx := hid hJx
  have HY := hid hY
  have HBX := hid hbx
  have HJ1 := hid hj1
  clear hJ hJx hY hM hbx hj1 h0
  rw [hkpd, hxs] at HY
  rw [hkpd, hxs]
  have hgv := cols_gives R C g f hR hC
  rw [hxs] at hgv
  refine callsIn_of_wp_marks Tryz.func31 rfl trivial ?_ rfl
  simp only [Tryz.ntmps31, List.size_toArray, List.length_cons, List.length_nil, Nat.reduceAdd, Nat.reduceSub, Array.replicate_succ, Array.replicate_zero, List.push_toArray, List.append_toArray, List.nil_append, List.cons_append, matV]
  unfold matO at hW0
  have HW0 := hid hW0
  clear hW0
  gi_wp2_with fail
  rw [HW0.out]
  clear HW0
  refine range_gives 0 (gf := 32) (fst := #[matV R C g]) (lb := #[]) rfl (enters_of Tryz.func32 (by kernel_rfl) rfl) hgv (by intro x hx; obtain ⟨y, _, rfl⟩ := List.mem_map.1 hx; rfl)
    (fun k W' => J ((xs.take k).filter kp).length W' ∧ Arr W' (W.heap.size + 1) 80 [.func (.yield l) #[] #[]])
    (fun c W' => c = .ret ∧ Jx () W')
    (fun x a' W' => ∃ (y : Nat × Nat × Nat) (Bx : Nat), x = plcA y ∧ W.heap.size + 1 < Bx ∧ Arr W' Bx 61 [.int .i64 (y.1 : Int), .int .i64 (y.2.1 : Int)] ∧ a' = { tmps := #[.agg #[.int .i64 (R : Int), .int .i64 (C : Int), .slice (some ⟨g, 0, none⟩) (R * C) (R * C)], .func (.yield l) #[] #[], .pointer (some ⟨W.heap.size, 0, none⟩), .pointer (some ⟨W.heap.size + 1, 0, none⟩), .pointer (some ⟨Bx, 0, none⟩), .agg #[.int .i64 (R : Int), .int .i64 (C : Int), .slice (some ⟨g, 0, none⟩) (R * C) (R * C)], .func (.func 32) #[.agg #[.int .i64 (R : Int), .int .i64 (C : Int), .slice (some ⟨g, 0, none⟩) (R * C) (R * C)]] #[], plcV y.1 y.2.1, undef, undef, undef, undef, undef, undef, undef, undef, undef, undef, undef], defers := [] })
    (fun _ _ _ => trivial) ?hI ?hIx ?hAx ?h0 ?assign ?body ?done ?stop
  case hI => exact fun k A B h s => ⟨HJ.out _ _ _ h.1 (s.down (by omega)), h.2.sim s⟩
  case hIx => exact fun c A B h s => ⟨h.1, HJx.out _ _ _ h.2 (s.down (by omega))⟩
  case hAx => rintro x a' A B ⟨y, Bx, h1, h2, h3, h4⟩ s; exact ⟨y, Bx, h1, h2, h3.sim s, h4⟩
  case h0 => exact ⟨by simpa using HJ1.out, HBX.out⟩
  case assign =>
    intro l1 k x W1 K hx hi hK
    obtain ⟨y, hy, rfl⟩ := map_get hx
    have hlt := hi.2.lt
    have HK : Hid _ := hid (hK { tmps := #[.agg #[.int .i64 (R : Int), .int .i64 (C : Int), .slice (some ⟨g, 0, none⟩) (R * C) (R * C)], .func (.yield l) #[] #[], .pointer (some ⟨W.heap.size, 0, none⟩), .pointer (some ⟨W.heap.size + 1, 0, none⟩), .pointer (some ⟨W1.heap.size, 0, none⟩), .agg #[.int .i64 (R : Int), .int .i64 (C : Int), .slice (some ⟨g, 0, none⟩) (R * C) (R * C)], .func (.func 32) #[.agg #[.int .i64 (R : Int), .int .i64 (C : Int), .slice (some ⟨g, 0, none⟩) (R * C) (R * C)]] #[], plcV y.1 y.2.1, undef, undef, undef, undef, undef, undef, undef, undef, undef, undef, undef], defers := [] } (W1.alloc (plcO y.1 y.2.1))
      (KeptFrom.below (Below.refl' _ _)) ⟨HJ.out _ _ _ hi.1 (Sim.alloc _ _ _), hi.2.alloc _⟩ ⟨y, W1.heap.size, rfl, hlt, Arr.newL _ _ _, rfl⟩)
    clear hK hi hx
    unfold plcA plcV
    unfold plcV plcO at HK
    gi_wp2
    exact HK.out
  case body =>
    rintro l1 k x a' W1 hx hi ⟨y, Bx, rfl, hBx, hb, rfl⟩
    obtain ⟨y', hy, hye⟩ := map_get hx
    have hpe := plcA_inj hye
    obtain ⟨i, j, z⟩ := y
    simp only at hpe hb ⊢
    have hfn := filter_next kp xs k y' hy
    have hkv : kp y' = decide (j ≤ i) := by rw [← hkpd]; simp only; rw [hpe.1, hpe.2]
    have c3 : W1.cell? ⟨W.heap.size + 1, 0, none⟩ = some (.func (.yield l) #[] #[]) := hi.2.cell rfl
    have c4 := hb.cell (i := 0) rfl
    have c5 := hb.cell (i := 1) rfl
    have hdep : Fence.wide.depth = none := rfl
    have HI := hid hi
    have hj2 := hi.1
    unfold plcV
    clear hb hi
    by_cases hkp : j ≤ i
    · have hkt : kp y' = true := by rw [hkv]; simpa using hkp
      have hcnt := hfn.1 hkt
      have hle1 : (j : Int) ≤ i := by omega
      have hle2 : ¬ (i : Int) < j := by omega
      obtain ⟨fn, tmps, assign, body, hyd, hR1⟩ := HY.out _ (plcA y') _ (by rw [List.getElem?_map, hcnt.1]; rfl) hj2
      have hRd : RoundIn (Fence.wide.inRound l1) 0 Tryz.prog l fn tmps assign body W1 (fun e W' => ∃ b, e = .returned (.bool b) ∧ Hid (KeptFrom W0.heap.size W1 W' ∧ ((b = true ∧ J ((xs.take (k + 1)).filter kp).length W' ∧ Arr W' (W.heap.size + 1) 80 [.func (.yield l) #[] #[]]) ∨ (b = false ∧ Jx () W')))) :=
        hR1.mono (fun e W' h => by
          rcases h with ⟨rfl, h1, h2⟩ | ⟨rfl, h1, h2⟩
          · exact ⟨true, rfl, h2.up (by omega), .inl ⟨rfl, by rw [hcnt.2]; exact h1, HI.out.2.kept h2 (by omega) (by decide)⟩⟩
          · exact ⟨false, rfl, h2.up (by omega), .inr ⟨rfl, h1⟩⟩)
      rw [hye] at hyd
      dsimp only [plcA] at hyd
      unfold plcV at hyd
      clear hfn hcnt hj2 hy hR1 hkt hkv hpe hye hx
      gi_wp2_with fail
      refine hRd.mono ?_
      rintro e W3 ⟨b, rfl, hz⟩
      have HZ := hz
      clear hz
      cases b
      · gi_wp2
        refine ⟨HZ.out.1, rfl, ?_⟩
        rcases HZ.out.2 with ⟨h, _⟩ | ⟨_, h⟩
        · cases h
        · exact h
      · gi_wp2
        refine ⟨HZ.out.1, ?_⟩
        rcases HZ.out.2 with ⟨_, h⟩ | ⟨h, _⟩
        · exact h
        · cases h
    · have hkt : kp y' = false := by rw [hkv]; simpa using hkp
      have hcnt := hfn.2 hkt
      have hle1 : ¬ (j : Int) ≤ i := by omega
      have hle2 : (i : Int) < j := by omega
      have HE : Hid (KeptFrom W0.heap.size W1 W1 ∧ J ((xs.take (k + 1)).filter kp).length W1 ∧ Arr W1 (W.heap.size + 1) 80 [.func (.yield l) #[] #[]]) := ⟨KeptFrom.refl _ _, by rw [hcnt]; exact HI.out.1, HI.out.2⟩
      clear hfn hcnt hj2 hy hkt hkv hpe hye hx
      gi_wp2
      refine ⟨fun _ h => (by cases h), ?_⟩
      gi_wp2
      exact HE.out
  case done =>
    intro D W1 hD hi hK
    refine ⟨by simp, .inl ⟨_, _, rfl, run_takeDeferred hK, ?_⟩⟩
    refine ⟨_, results_none rfl _ _ _, ⟨_, rfl⟩, .inl ?_⟩
    have := hi.1
    rw [List.length_map, List.take_length] at this
    exact HJ.out _ _ _ this (Sim.putObj _ (by omega) hK rfl)
  case stop =>
    rintro D c W1 hD ⟨rfl, hjx⟩ hK
    gi_wp2
    refine ⟨by simp, .inl ⟨_, _, rfl, run_takeDeferred hK, ?_⟩⟩
    exact ⟨_, results_none rfl _ _ _, ⟨_, rfl⟩, .inr (HJx.out _ _ _ hjx (Sim.putObj _ (by omega) hK rfl))⟩

end Go.Proofs.YthdcceackfdbbabGreatDoor
namespace Go.Proofs.YthdcceackfdbbabGreatDoor
open Go Go.RowKit Go.Shelf
attribute [local go_sem] Oper.semAt_some

theorem ksym_b (w : World) (k : Int) (b : Bool) (hb : decide (k = 1 ∨ k = 3) = b) : Calls Tryz.prog 30 #[.int .i64 k] w fun e w' => e = .returned (.bool b) ∧ w' = w := by
  rw [← hb]; exact ksym_any w k
theorem kcoord_b (w : World) (k : Int) (b : Bool) (hb : decide (k = 2 ∨ k = 3) = b) : Calls Tryz.prog 39 #[.int .i64 k] w fun e w' => e = .returned (.bool b) ∧ w' = w := by
  rw [← hb]; exact kcoord_any w k

/-- what goes through the places of a kind -/
def placeF (kind : Nat) : Nat := if kind = 4 then 29 else if kind = 1 ∨ kind = 3 then 31 else 32

/-- the places that a file of a kind may tell of, in its order, each with its number -/
def plcL (kind R C : Nat) (f : Nat → Nat → Nat) : List (Nat × Nat × Nat) :=
  if kind = 4 then rowsL R C f else if kind = 1 ∨ kind = 3 then (colsL R C f).filter (fun x => decide (x.2.1 ≤ x.1)) else colsL R C f

theorem plcL_mem {kind R C : Nat} {f : Nat → Nat → Nat} {x : Nat × Nat × Nat} (h : x ∈ plcL kind R C f) : x.1 < R ∧ x.2.1 < C ∧ x.2.2 = f x.1 x.2.1 := by
  unfold plcL at h
  split at h
  · exact rowsL_mem h
  · split at h
    · exact colsL_mem (List.mem_filter.1 h).1
    · exact colsL_mem h

theorem entL_plc (kind R C : Nat) (f : Nat → Nat → Nat) : entL kind R C f = (plcL kind R C f).filter (fun x => decide (¬ ((kind = 2 ∨ kind = 3) ∧ x.2.2 = 0))) := by
  unfold entL plcL
  by_cases h4 : kind = 4
  · subst h4
    exact (List.filter_eq_self.2 (fun x _ => by simp)).symm
  · rw [if_neg h4, if_neg h4]
    simp only
    by_cases hc : kind = 2 ∨ kind = 3
    · rw [if_pos hc]
      congr 1
      funext x; simp [hc]
    · rw [if_neg hc]
      exact (List.filter_eq_self.2 (fun x _ => by simp [hc])).symm

theorem places_any (w : World) (kind R C g : Nat) (hk : kind ≤ 5) :
    Calls Tryz.prog 21 #[matV R C g, .int .i64 (kind : Int)] w fun e w' => e = .returned (.func (.func (placeF kind)) #[matV R C g] #[]) ∧ w' = w.alloc (matO R C g) := by
  have hmf : ∀ (fn : Fn) (first cap : Array Value) (w : World), (Instr.makeFunc fn first cap).run Tryz.prog w = .ok (.func fn first cap) w := fun _ _ _ _ => rfl
  unfold matV matO
  by_cases h4 : kind = 4
  · subst h4
    go_enter Tryz.func21, Tryz.ntmps21
    go_wp2
    go_ret
    exact ⟨rfl, rfl⟩
  · have h4' : ¬ (kind : Int) = 4 := by omega
    by_cases hs : kind = 1 ∨ kind = 3
    · have hpf : placeF kind = 31 := by unfold placeF; rw [if_neg h4, if_pos hs]
      rw [hpf]
      go_enter Tryz.func21, Tryz.ntmps21
      go_wp2_with fail
      refine (ksym_b _ _ true (by simp; omega)).mono ?_
      rintro e w1 ⟨rfl, rfl⟩
      go_wp2
      go_ret
      exact ⟨rfl, rfl⟩
    · have hpf : placeF kind = 32 := by unfold placeF; rw [if_neg h4, if_neg hs]
      rw [hpf]
      go_enter Tryz.func21, Tryz.ntmps21
      go_wp2_with fail
      refine (ksym_b _ _ false (by simp; omega)).mono ?_
      rintro e w1 ⟨rfl, rfl⟩
      go_wp2
      go_ret
      exact ⟨rfl, rfl⟩

theorem places_gives (kind R C g : Nat) (f : Nat → Nat → Nat) (hR : R ≤ 40) (hC : C ≤ 40) : Gives Tryz.prog (placeF kind) #[matV R C g] #[] ((plcL kind R C f).map plcA) (fun _ _ => True) := by
  unfold placeF plcL
  split
  · exact rows_gives R C g f hR hC
  · split
    · exact lower_gives R C g f hR hC
    · exact cols_gives R C g f hR hC

theorem place_enters (kind : Nat) : ∀ args w, (callFunc (placeF kind) args).run Tryz.prog w = .ok (.enter (placeF kind) args) w := by
  unfold placeF
  split
  · exact enters_of Tryz.func29 (by kernel_rfl) rfl
  · split
    · exact enters_of Tryz.func31 (by kernel_rfl) rfl
    · exact enters_of Tryz.func32 (by kernel_rfl) rfl

/-- what the entries go through -/
structure MemE (kind R C g : Nat) (f : Nat → Nat → Nat) (be bk : Nat) (W : World) : Prop where
  mem : MemM C g R f W
  c0 : W.cell? ⟨be, 0, none⟩ = some (.int .i64 (R : Int))
  c1 : W.cell? ⟨be, 1, none⟩ = some (.int .i64 (C : Int))
  c2 : W.cell? ⟨be, 2, none⟩ = some (.slice (some ⟨g, 0, none⟩) (R * C) (R * C))
  ck : W.cell? ⟨bk, 0, none⟩ = some (.int .i64 (kind : Int))

theorem MemE.sim {B kind R C g : Nat} {f : Nat → Nat → Nat} {be bk : Nat} {W W' : World} (h : MemE kind R C g f be bk W) (s : Sim B W W') : MemE kind R C g f be bk W' :=
  ⟨h.mem.sim s, s.cell h.c0, s.cell h.c1, s.cell h.c2, s.cell h.ck⟩

/-- a value that goes through the entries of a kind -/
def EntV (kind R C g : Nat) (f : Nat → Nat → Nat) (w w' : World) (gf : Nat) (fst lb : Array Value) : Prop :=
  ∃ Mem : World → Prop, (∀ args w, (callFunc gf args).run Tryz.prog w = .ok (.enter gf args) w) ∧ Gives Tryz.prog gf fst lb ((entL kind R C f).map entV) (fun _ => Mem) ∧
    (∀ W, MemM C g R f W → (∀ k, w.heap.size ≤ k → k < w'.heap.size → W.heap[k]? = w'.heap[k]?) → Mem W) ∧
    (∀ k, w.heap.size ≤ k → k < w'.heap.size → ∃ o, w'.heap[k]? = some o ∧ ∀ c fz, o ≠ .cells c 5 fz) ∧ Below w.heap.size w w'

def EntOk (kind R C g : Nat) (f : Nat → Nat → Nat) (w : World) (e : Ending) (w' : World) : Prop :=
  ∃ gf fst lb, e = .returned (.func (.func gf) fst lb) ∧ EntV kind R C g f w w' gf fst lb

end Go.Proofs.YthdcceackfdbbabGreatDoor
namespace Go.Proofs.YthdcceackfdbbabGreatDoor
open Go Go.RowKit Go.Shelf

theorem rowsWide {n : Nat} {P : Program} {row : String} {args : Array Value} {w : World} {R : Value → World → Prop} (h : Rows P row args w R) : RowsIn Fence.wide n P row args w R :=
  fun c cs _ => let ⟨v, w', r, s⟩ := h c cs; ⟨v, w', r, stepsIn_wide.2 s⟩

/-- what holds of a region in every order holds of it in a round -/
theorem any_round {P : Program} {md : Region.Mode} {ops : Array Oper} {Q : Exit → Act → World → Prop} {n : Nat} (l : Nat) (hd : ∀ (i : Nat) (o : Oper), ops[i]? = some o → ∀ c, o.op ≠ .defer c) (hq : ¬ LetsOut Q) :
    ∀ (fuel : Nat) (listed : Array Bool) (a : Act) (w : World), wpAny P md ops Q fuel listed a w → wpAnyIn (Fence.wide.inRound l) n P md ops Q fuel listed a w
  | 0, _, _, _, h => h
  | fuel + 1, listed, a, w, h => by
    refine ⟨h.1, fun i hi => ?_⟩
    have h1 := h.2 i hi
    unfold wpOp at h1
    unfold wpOpIn
    cases ho : ops[i]? with
    | none => rw [ho] at h1; exact any_round l hd hq fuel _ _ _ h1
    | some o =>
      rw [ho] at h1
      simp only at h1 ⊢
      split
      · rename_i hw
        rw [if_pos hw] at h1
        rcases h1 with h1 | ⟨_, h1⟩
        · refine ⟨fun _ _ => trivial, ?_⟩
          rw [show (Fence.wide.inRound l).round = some l from rfl, Oper.semAt_some l _ _ (hd i o ho)]
          unfold Oper.wp at h1
          generalize (execOp a.eval o).run P w = r at h1 ⊢
          cases r with
          | ok x w' =>
            cases x with
            | value v => exact any_round l hd hq fuel _ _ _ h1
            | skip => exact any_round l hd hq fuel _ _ _ h1
            | defer d => exact any_round l hd hq fuel _ _ _ h1
            | enter f args =>
              refine ⟨fun h => (by cases h), CallsIn.inRound l (callsIn_wide.2 (h1.mono fun e w'' he => ?_))⟩
              cases e with
              | returned v => exact any_round l hd hq fuel _ _ _ he
              | panicked c => exact he
              | outgrown => exact he
            | row row args => exact ⟨fun h => (by cases h), rowsWide (h1.mono fun v w'' he => any_round l hd hq fuel _ _ _ he)⟩
            | _ => exact h1.elim
          | halt x w' => cases x <;> exact h1
        · exact absurd h1 hq
      · rename_i hw
        rw [if_neg hw] at h1
        exact ⟨fun _ _ => trivial, any_round l hd hq fuel _ _ _ h1⟩

def noDefer (ops : Array Oper) : Bool := ops.toList.all fun o => match o.op with | .defer _ => false | _ => true

theorem noDefer_spec {ops : Array Oper} (h : noDefer ops = true) (i : Nat) (o : Oper) (ho : ops[i]? = some o) (c : Call) : o.op ≠ .defer c := by
  intro e
  have := List.all_eq_true.1 h o (List.mem_of_getElem? (by simpa using ho))
  rw [e] at this
  cases this

theorem region_round {P : Program} {id : Nat} {ops : Array Oper} {Q : Exit → Act → World → Prop} {n : Nat} {a : Act} {w : World} (l : Nat) (S : World → Prop) (hm : P.follows .mixedOrders = true) (hd : noDefer ops = true) (hq : ¬ LetsOut Q)
    (h : wpAnyH P .any ops Q S ops.size (Array.replicate ops.size false) a w.drew) : (Code.region id ops true).wpIn (Fence.wide.inRound l) n P Q a w :=
  wpIn_region_any hm (any_round l (noDefer_spec hd) hq _ _ _ _ (wpAny_of_held _ _ _ _ h))

end Go.Proofs.YthdcceackfdbbabGreatDoor
namespace Go.Proofs.YthdcceackfdbbabGreatDoor
open Go Go.RowKit Go.Shelf
attribute [local go_sem] Oper.semAt_some

/-- a nan is taken for the canonical one -/
def canon (x : Nat) : Nat := if 9218868437227405312 < x % 9223372036854775808 then 9221120237041090560 else x

theorem canon_lt {x : Nat} (h : x < 18446744073709551616) : canon x < 18446744073709551616 := by unfold canon; split <;> omega

def CanonOk : Prop := ∀ (w : World) (x : Nat), x < 18446744073709551616 → Calls Tryz.prog 66 #[.int .u64 (x : Int)] w fun e w' => e = .returned (.int .u64 (canon x : Int)) ∧ w' = w

def viewO (R C : Nat) (off rs cs : Int) : Obj := .cells #[.int .i64 (R : Int), .int .i64 (C : Int), .int .i64 off, .int .i64 rs, .int .i64 cs] 34

theorem places_rows (w : World) (R C g : Nat) :
    Calls Tryz.prog 21 #[matV R C g, .int .i64 4] w fun e w' => e = .returned (.func (.func 29) #[matV R C g] #[]) ∧ w' = w.alloc (matO R C g) :=
  places_any w 4 R C g (by omega)

/-- the boxes of Copy -/
structure CopyB (b bb n cap R C : Nat) (off rs cs : Int) (W : World) : Prop where
  buf : Arr W b 35 [.slice (some ⟨bb, 0, none⟩) n cap]
  view : Arr W (b + 1) 34 [.int .i64 (R : Int), .int .i64 (C : Int), .int .i64 off, .int .i64 rs, .int .i64 cs]
  res : Arr W (b + 2) 44 [.int .i64 0, .int .i64 0, .slice none 0 0]
  m : Arr W (b + 5) 44 [.int .i64 (R : Int), .int .i64 (C : Int), .slice (some ⟨b + 4, 0, none⟩) (R * C) (R * C)]

theorem CopyB.sim {B b bb n cap R C : Nat} {off rs cs : Int} {W W' : World} (h : CopyB b bb n cap R C off rs cs W) (s : Sim B W W') : CopyB b bb n cap R C off rs cs W' :=
  ⟨h.buf.sim s, h.view.sim s, h.res.sim s, h.m.sim s⟩
theorem CopyB.set {b bb n cap R C : Nat} {off rs cs : Int} {W : World} (h : CopyB b bb n cap R C off rs cs W) (q : Nat) (v : Value) : CopyB b bb n cap R C off rs cs (W.setCell ⟨b + 4, q, none⟩ v) :=
  ⟨h.buf.other _ (by omega), h.view.other _ (by omega), h.res.other _ (by omega), h.m.other _ (by omega)⟩

/-- the numbers so far -/
def CopyN (g R C : Nat) (F : Nat → Nat → Nat) (k : Nat) (W : World) : Prop :=
  ∃ l : List Value, Arr W g 37 l ∧ l.length = R * C ∧ (∀ i j, i < R → j < C → i * C + j < k → l[i * C + j]? = some (.int .u64 (F i j : Int))) ∧ (∀ q, k ≤ q → q < R * C → l[q]? = some (.int .u64 0))

end Go.Proofs.YthdcceackfdbbabGreatDoor
