import Derived.Test.YthdcceackfdbbaaGreatDoorM06R
import Derived.Test.YthdcceackfdbbaaGreatDoorM00R
import Derived.Shelf.Abstract
import Derived.Shelf.RegionOpen
import Derived.TacticsInMore
import Derived.LoopNIn
import Derived.LoopIn
import Derived.Deep.Cut
import Derived.Deep.CutRange
import Derived.OrdersHeld
namespace Go.Proofs.YthdcceackfdbbaaGreatDoor
open Go Go.RowKit Go.Shelf
attribute [local go_sem] Oper.semAt_some
def plcA (x : Nat × Nat × Nat) : Array Value := #[plcV x.1 x.2.1]
def MemM (C g : Nat) (R : Nat) (f : Nat → Nat → Nat) (W : World) : Prop := g < W.heap.size ∧ ∀ i j, i < R → j < C → W.cell? ⟨g, i * C + j, none⟩ = some (.int .u64 (f i j : Int))
theorem MemM.sim {B : Nat} {W W' : World} {R C g : Nat} {f : Nat → Nat → Nat} (h : MemM C g R f W) (s : Sim B W W') : MemM C g R f W' :=
  ⟨Nat.lt_of_lt_of_le h.1 s.size, fun i j hi hj => s.cell (h.2 i j hi hj)⟩
set_option maxRecDepth 20000 in
set_option maxHeartbeats 4000000 in
theorem cols_gives (R C g : Nat) (f : Nat → Nat → Nat) (hR : R ≤ 40) (hC : C ≤ 40) :
    Gives Tryz.prog 99 #[matV R C g] #[] ((colsL R C f).map plcA) (fun _ _ => True) := by
  intro l J Jx W hM hJ hJx hY h0
  rw [List.length_map, colsL_len]
  have HJ := hid hJ
  have HJx := hid hJx
  have HY := hid hY
  clear hJ hJx hY hM
  have hj1 : J 0 (W.alloc (matO R C g)) := HJ.out _ _ _ h0 (Sim.alloc _ _ _)
  have hbx : Arr (W.alloc (matO R C g)) W.heap.size 88 [.int .i64 (R : Int), .int .i64 (C : Int), .slice (some ⟨g, 0, none⟩) (R * C) (R * C)] := Arr.newL _ _ _
  refine callsIn_of_wp Tryz.func99 rfl trivial ?_ rfl
  simp only [Tryz.ntmps99, List.size_toArray, List.length_cons, List.length_nil, Nat.reduceAdd, Nat.reduceSub, Array.replicate_succ, Array.replicate_zero, List.push_toArray, List.append_toArray, List.nil_append, List.cons_append, matV]
  unfold matO at hj1 hbx
  gi_wp2
  generalize W.alloc (Obj.cells #[Value.int IntKind.i64 R, Value.int IntKind.i64 C, Value.slice (some ⟨g, 0, none⟩) (R * C) (R * C)] 88) = W0 at *
  gi_loopw [8] (fun v wr => ∃ j : Nat, v = .int .i64 (j : Int) ∧ j ≤ C ∧ J (j * R) wr ∧ Arr wr W.heap.size 88 [.int .i64 (R : Int), .int .i64 (C : Int), .slice (some ⟨g, 0, none⟩) (R * C) (R * C)]) (fun v _ => C - (intOf v).toNat)
  case atStart => exact ⟨0, rfl, by omega, by simpa using hj1, hbx⟩
  case round =>
    clear hj1 hbx h0
    obtain ⟨j, rfl, hoC, hj, hb⟩ := hrel
    have k0 := hb.cell (i := 0) rfl
    have k1 := hb.cell (i := 1) rfl
    have HB := hid hb
    have HJ0 := hid hj
    clear hb hj
    by_cases hlt : j < C
    · have hlt' : (j : Int) < C := by omega
      gi_wp2
      gi_loopw [13] (fun v wr => ∃ i : Nat, v = .int .i64 (i : Int) ∧ i ≤ R ∧ J (j * R + i) wr ∧ Arr wr W.heap.size 88 [.int .i64 (R : Int), .int .i64 (C : Int), .slice (some ⟨g, 0, none⟩) (R * C) (R * C)]) (fun v _ => R - (intOf v).toNat)
      case atStart => exact ⟨0, rfl, by omega, by simpa using HJ0.out, HB.out⟩
      case round =>
        clear HB HJ0 k0 k1
        obtain ⟨i, rfl, hiR, hj, hb⟩ := hrel
        by_cases hilt : i < R
        · have hilt' : (i : Int) < R := by omega
          obtain ⟨fn, tmps, assign, body, hy, hR1⟩ := HY.out (j * R + i) (plcA (i, j, f i j)) _ (by rw [List.getElem?_map, colsL_at f hilt hlt]; rfl) hj
          have hRd : RoundIn Fence.wide 0 Tryz.prog l fn tmps assign body wr (fun e W' => ∃ b, e = .returned (.bool b) ∧ Hid ((b = true ∧ J (j * R + i + 1) W' ∧ Arr W' W.heap.size 88 [.int .i64 (R : Int), .int .i64 (C : Int), .slice (some ⟨g, 0, none⟩) (R * C) (R * C)]) ∨ (b = false ∧ Jx () W'))) :=
            hR1.mono (fun e W' h => by
              rcases h with ⟨rfl, h1, h2⟩ | ⟨rfl, h1, _⟩
              · exact ⟨true, rfl, .inl ⟨rfl, h1, hb.kept h2 (Nat.le_refl _) (by decide)⟩⟩
              · exact ⟨false, rfl, .inr ⟨rfl, h1⟩⟩)
          clear hb hR1 hj
          dsimp only [plcA] at hy
          unfold plcV at hy
          have hdep : Fence.wide.depth = none := rfl
          gi_wp2_with fail
          refine hRd.mono ?_
          rintro e W3 ⟨b, rfl, hz⟩
          cases b with
          | false =>
            have hjx : Jx () W3 := by rcases hz.out with ⟨h, _⟩ | ⟨_, h⟩; · cases h
                                      exact h
            gi_wp2
            refine bodyPost_ret (results_none rfl _ _ _) rfl ?_
            exact ⟨⟨_, rfl⟩, .inr hjx⟩
          | true =>
            have hz' : J (j * R + i + 1) W3 ∧ Arr W3 W.heap.size 88 [.int .i64 (R : Int), .int .i64 (C : Int), .slice (some ⟨g, 0, none⟩) (R * C) (R * C)] := by
              rcases hz.out with ⟨_, h1⟩ | ⟨h, _⟩
              · exact h1
              · cases h
            have HZ := hid hz'
            clear hz hz'
            gi_wp2
            go_roundw
            case rel => exact ⟨i + 1, by simp, by omega, HZ.out.1, HZ.out.2⟩
            case measure => simp [intOf]; omega
        · have hilt' : ¬ (i : Int) < R := by omega
          obtain rfl : i = R := by omega
          have HJ1 := hid hj
          have HB1 := hid hb
          clear hj hb
          gi_wp2
          go_roundw
          case rel => exact ⟨j + 1, by simp, by omega, by rw [Nat.add_mul, Nat.one_mul]; exact HJ1.out, HB1.out⟩
          case measure => simp [intOf]; omega
    · have hlt' : ¬ (j : Int) < C := by omega
      obtain rfl : j = C := by omega
      gi_wp2
      go_end0
      exact ⟨⟨_, rfl⟩, .inl (by rw [Nat.mul_comm]; exact HJ0.out)⟩
end Go.Proofs.YthdcceackfdbbaaGreatDoor
namespace Go.Proofs.YthdcceackfdbbaaGreatDoor
open Go Go.RowKit Go.Shelf
attribute [local go_sem] Oper.semAt_some
set_option maxRecDepth 20000 in
set_option maxHeartbeats 4000000 in
theorem rows_gives (R C g : Nat) (f : Nat → Nat → Nat) (hR : R ≤ 40) (hC : C ≤ 40) :
    Gives Tryz.prog 97 #[matV R C g] #[] ((rowsL R C f).map plcA) (fun _ _ => True) := by
  intro l J Jx W hM hJ hJx hY h0
  rw [List.length_map, rowsL_len]
  have HJ := hid hJ
  have HJx := hid hJx
  have HY := hid hY
  clear hJ hJx hY hM
  have hj1 : J 0 (W.alloc (matO R C g)) := HJ.out _ _ _ h0 (Sim.alloc _ _ _)
  have hbx : Arr (W.alloc (matO R C g)) W.heap.size 88 [.int .i64 (R : Int), .int .i64 (C : Int), .slice (some ⟨g, 0, none⟩) (R * C) (R * C)] := Arr.newL _ _ _
  refine callsIn_of_wp Tryz.func97 rfl trivial ?_ rfl
  simp only [Tryz.ntmps97, List.size_toArray, List.length_cons, List.length_nil, Nat.reduceAdd, Nat.reduceSub, Array.replicate_succ, Array.replicate_zero, List.push_toArray, List.append_toArray, List.nil_append, List.cons_append, matV]
  unfold matO at hj1 hbx
  gi_wp2
  generalize W.alloc (Obj.cells #[Value.int IntKind.i64 R, Value.int IntKind.i64 C, Value.slice (some ⟨g, 0, none⟩) (R * C) (R * C)] 88) = W0 at *
  gi_loopw [8] (fun v wr => ∃ i : Nat, v = .int .i64 (i : Int) ∧ i ≤ R ∧ J (i * C) wr ∧ Arr wr W.heap.size 88 [.int .i64 (R : Int), .int .i64 (C : Int), .slice (some ⟨g, 0, none⟩) (R * C) (R * C)]) (fun v _ => R - (intOf v).toNat)
  case atStart => exact ⟨0, rfl, by omega, by simpa using hj1, hbx⟩
  case round =>
    clear hj1 hbx h0
    obtain ⟨i, rfl, hoC, hj, hb⟩ := hrel
    have k0 := hb.cell (i := 0) rfl
    have k1 := hb.cell (i := 1) rfl
    have HB := hid hb
    have HJ0 := hid hj
    clear hb hj
    by_cases hlt : i < R
    · have hlt' : (i : Int) < R := by omega
      gi_wp2
      gi_loopw [13] (fun v wr => ∃ j : Nat, v = .int .i64 (j : Int) ∧ j ≤ C ∧ J (i * C + j) wr ∧ Arr wr W.heap.size 88 [.int .i64 (R : Int), .int .i64 (C : Int), .slice (some ⟨g, 0, none⟩) (R * C) (R * C)]) (fun v _ => C - (intOf v).toNat)
      case atStart => exact ⟨0, rfl, by omega, by simpa using HJ0.out, HB.out⟩
      case round =>
        clear HB HJ0 k0 k1
        obtain ⟨j, rfl, hiR, hj, hb⟩ := hrel
        by_cases hilt : j < C
        · have hilt' : (j : Int) < C := by omega
          obtain ⟨fn, tmps, assign, body, hy, hR1⟩ := HY.out (i * C + j) (plcA (i, j, f i j)) _ (by rw [List.getElem?_map, rowsL_at f hlt hilt]; rfl) hj
          have hRd : RoundIn Fence.wide 0 Tryz.prog l fn tmps assign body wr (fun e W' => ∃ b, e = .returned (.bool b) ∧ Hid ((b = true ∧ J (i * C + j + 1) W' ∧ Arr W' W.heap.size 88 [.int .i64 (R : Int), .int .i64 (C : Int), .slice (some ⟨g, 0, none⟩) (R * C) (R * C)]) ∨ (b = false ∧ Jx () W'))) :=
            hR1.mono (fun e W' h => by
              rcases h with ⟨rfl, h1, h2⟩ | ⟨rfl, h1, _⟩
              · exact ⟨true, rfl, .inl ⟨rfl, h1, hb.kept h2 (Nat.le_refl _) (by decide)⟩⟩
              · exact ⟨false, rfl, .inr ⟨rfl, h1⟩⟩)
          clear hb hR1 hj
          dsimp only [plcA] at hy
          unfold plcV at hy
          have hdep : Fence.wide.depth = none := rfl
          gi_wp2_with fail
          refine hRd.mono ?_
          rintro e W3 ⟨b, rfl, hz⟩
          cases b with
          | false =>
            have hjx : Jx () W3 := by rcases hz.out with ⟨h, _⟩ | ⟨_, h⟩; · cases h
                                      exact h
            gi_wp2
            refine bodyPost_ret (results_none rfl _ _ _) rfl ?_
            exact ⟨⟨_, rfl⟩, .inr hjx⟩
          | true =>
            have hz' : J (i * C + j + 1) W3 ∧ Arr W3 W.heap.size 88 [.int .i64 (R : Int), .int .i64 (C : Int), .slice (some ⟨g, 0, none⟩) (R * C) (R * C)] := by
              rcases hz.out with ⟨_, h1⟩ | ⟨h, _⟩
              · exact h1
              · cases h
            have HZ := hid hz'
            clear hz hz'
            gi_wp2
            go_roundw
            case rel => exact ⟨j + 1, by simp, by omega, HZ.out.1, HZ.out.2⟩
            case measure => simp [intOf]; omega
        · have hilt' : ¬ (j : Int) < C := by omega
          obtain rfl : j = C := by omega
          have HJ1 := hid hj
          have HB1 := hid hb
          clear hj hb
          gi_wp2
          go_roundw
          case rel => exact ⟨i + 1, by simp, by omega, by rw [Nat.add_mul, Nat.one_mul]; exact HJ1.out, HB1.out⟩
          case measure => simp [intOf]; omega
    · have hlt' : ¬ (i : Int) < R := by omega
      obtain rfl : i = R := by omega
      gi_wp2
      go_end0
      exact ⟨⟨_, rfl⟩, .inl (by exact HJ0.out)⟩
end Go.Proofs.YthdcceackfdbbaaGreatDoor
namespace Go.Proofs.YthdcceackfdbbaaGreatDoor
open Go Go.RowKit
theorem step_b (w : World) (s : Int) (n : Nat) (b : Bool) (hn : n ≤ 100000) (hb : decide (-(n : Int) < s ∧ s < n) = b) : Calls Tryz.prog 52 #[.int .i64 s, .int .i64 (n : Int)] w fun e w' => e = .returned (.bool b) ∧ w' = w := by
  subst hb
  go_enter Tryz.func52, Tryz.ntmps52
  go_wp2
  all_goals go_ret
  all_goals refine ⟨?_, rfl⟩
  all_goals simp [*]
  all_goals first | omega | (rw [Bool.eq_iff_iff]; simp [*])
theorem place_any (w : World) (R C off rs cs : Int) (i j : Nat) (hi : i ≤ 40) (hj : j ≤ 40) (h0 : -4611686018427387904 ≤ off ∧ off ≤ 4611686018427387903) (h1 : i = 0 ∨ (-100000 < rs ∧ rs < 100000)) (h2 : j = 0 ∨ (-100000 < cs ∧ cs < 100000)) :
    Calls Tryz.prog 31 #[viewV R C off rs cs, .int .i64 (i : Int), .int .i64 (j : Int)] w fun e w' => e = .returned (.int .i64 (off + i * rs + j * cs)) ∧ w' = w.alloc (.cells #[.int .i64 R, .int .i64 C, .int .i64 off, .int .i64 rs, .int .i64 cs] 24) := by
  have p1 := prod_small hi h1
  have p2 := prod_small hj h2
  clear h1 h2
  unfold viewV
  by_cases hi0 : i = 0 <;> by_cases hj0 : j = 0
  · subst hi0; subst hj0
    go_enter Tryz.func31, Tryz.ntmps31
    go_wp2
    go_ret
    exact ⟨by simp, rfl⟩
  · have hj1 : (0 : Int) < j := by omega
    subst hi0
    go_enter Tryz.func31, Tryz.ntmps31
    go_wp2
    go_ret
    exact ⟨by simp, rfl⟩
  · have hi1 : (0 : Int) < i := by omega
    subst hj0
    go_enter Tryz.func31, Tryz.ntmps31
    go_wp2
    go_ret
    exact ⟨by simp, rfl⟩
  · have hj1 : (0 : Int) < j := by omega
    have hi1 : (0 : Int) < i := by omega
    go_enter Tryz.func31, Tryz.ntmps31
    go_wp2
    go_ret
    exact ⟨by simp, rfl⟩
theorem Tryz.infoBool : (Tryz.prog.info? 4).map (fun i => (i.zero, i.size, i.bytes)) = some (some (.bool false), 1, 1) := by kernel_rfl
theorem place_p (w : World) (R C off rs cs : Int) (i j : Nat) (p : Int) (hi : i ≤ 40) (hj : j ≤ 40) (h0 : -4611686018427387904 ≤ off ∧ off ≤ 4611686018427387903) (h1 : i = 0 ∨ (-100000 < rs ∧ rs < 100000)) (h2 : j = 0 ∨ (-100000 < cs ∧ cs < 100000))
    (hp : off + i * rs + j * cs = p) :
    Calls Tryz.prog 31 #[viewV R C off rs cs, .int .i64 (i : Int), .int .i64 (j : Int)] w fun e w' => e = .returned (.int .i64 p) ∧ w' = w.alloc (.cells #[.int .i64 R, .int .i64 C, .int .i64 off, .int .i64 rs, .int .i64 cs] 24) := by
  subst hp; exact place_any w R C off rs cs i j hi hj h0 h1 h2
def SM (b : Nat) (R C : Nat) (off rs cs : Int) (n i j : Nat) (wr : World) : Prop :=
  Arr wr b 24 [.int .i64 (R : Int), .int .i64 (C : Int), .int .i64 off, .int .i64 rs, .int .i64 cs] ∧
  ∃ sl : List Bool, Arr wr (b + 1) 4 (sl.map Value.bool) ∧ sl.length = n ∧ ∀ p : Nat, sl[p]? = some true ↔ ∃ x y, Ahead C i j x y ∧ off + x * rs + y * cs = p
theorem SM.row {b R C : Nat} {off rs cs : Int} {n i : Nat} {wr : World} (h : SM b R C off rs cs n i C wr) : SM b R C off rs cs n (i + 1) 0 wr := by
  obtain ⟨h1, sl, h2, h3, h4⟩ := h
  refine ⟨h1, sl, h2, h3, fun p => (h4 p).trans ?_⟩
  simp only [ahead_row]
theorem SM.step {b R C : Nat} {off rs cs : Int} {n i j : Nat} {wr : World} (h : SM b R C off rs cs n i j wr) {p : Nat} (hp : off + i * rs + j * cs = p) (hn : p < n) (hj : j < C) (o : Obj) :
    SM b R C off rs cs n i (j + 1) ((wr.alloc o).setCell ⟨b + 1, p, none⟩ (.bool true)) := by
  obtain ⟨h1, sl, h2, h3, h4⟩ := h
  refine ⟨(h1.alloc o).other _ (by omega), sl.set p true, ?_, by simp [h3], fun q => ?_⟩
  · have := (h2.alloc o).set p (.bool true)
    rw [List.map_set]; exact this
  · rw [List.getElem?_set]
    simp only [ahead_step]
    by_cases e : p = q
    · subst e
      simp only [if_true]
      rw [if_pos (by omega)]
      exact ⟨fun _ => ⟨i, j, .inr ⟨rfl, rfl⟩, hp⟩, fun _ => rfl⟩
    · rw [if_neg e, h4 q]
      constructor
      · rintro ⟨x, y, h5, h6⟩; exact ⟨x, y, .inl h5, h6⟩
      · rintro ⟨x, y, h5 | ⟨rfl, rfl⟩, h6⟩
        · exact ⟨x, y, h5, h6⟩
        · omega
theorem Below.refl' (w : World) (o : Obj) : Below w.heap.size w (w.alloc o) := (Below.refl _ _).alloc (Nat.le_refl _) o
set_option maxRecDepth 20000 in
set_option maxHeartbeats 4000000 in
theorem refFits_main (w : World) (r c : Nat) (off rs cs : Int) (n : Nat) (hrr : 1 ≤ r ∧ r ≤ 40) (hcc : 1 ≤ c ∧ c ≤ 40) (hn : n ≤ 100000) :
    Calls Tryz.prog 30 #[viewV r c off rs cs, .int .i64 (n : Int)] w fun e w' => BoolOk (Fit r c off rs cs n) e ∧ Below w.heap.size w w' := by
  have hr2 : ((r : Int) == 0) = false := by simp; omega
  have hc2 : ((c : Int) == 0) = false := by simp; omega
  have c0 : ¬ (100000 : Int) < n := by omega
  have c1 : ¬ (r : Int) < 0 := by omega
  have c2 : ¬ (40 : Int) < r := by omega
  have c3 : ¬ (c : Int) < 0 := by omega
  have c4 : ¬ (40 : Int) < c := by omega
  obtain ⟨br, hbr⟩ : ∃ b, decide (-(n : Int) < rs ∧ rs < n) = b := ⟨_, rfl⟩
  obtain ⟨bc, hbc⟩ : ∃ b, decide (-(n : Int) < cs ∧ cs < n) = b := ⟨_, rfl⟩
  have HBR := hid hbr
  have HBC := hid hbc
  obtain ⟨b1, hb1⟩ : ∃ b, ((r : Int) == 1) = b := ⟨_, rfl⟩
  obtain ⟨b2, hb2⟩ : ∃ b, ((c : Int) == 1) = b := ⟨_, rfl⟩
  have HB1 := hid hb1
  have HB2 := hid hb2
  have HFS := hid (fit_step (off := off) (rs := rs) (cs := cs) (n := n) (show 0 < r by omega) (show 0 < c by omega))
  obtain ⟨i0, hi, hz0, hz1, hz2⟩ := info_parts Tryz.infoBool
  have hmk := run_make1 (P := Tryz.prog) 108 4 i0 (.bool false) Tryz.underlying108 hi hz0 hz1 rfl n (by rw [hz2]; omega) (by omega)
  have HB0 : Hid (∀ o, Below w.heap.size w (w.alloc o)) := fun o => (Below.refl _ _).alloc (Nat.le_refl _) _
  clear hbr hbc hi hz0 hz1 hz2
  unfold viewV
  have hvw : Arr (w.alloc (.cells #[.int .i64 (r : Int), .int .i64 (c : Int), .int .i64 off, .int .i64 rs, .int .i64 cs] 24)) w.heap.size 24 [.int .i64 (r : Int), .int .i64 (c : Int), .int .i64 off, .int .i64 rs, .int .i64 cs] := Arr.newL _ _ _
  obtain ⟨rw, hrw⟩ : ∃ b, (b1 || br) = b := ⟨_, rfl⟩
  obtain ⟨cw, hcw⟩ : ∃ b, (b2 || bc) = b := ⟨_, rfl⟩
  have HRW := hid hrw
  have HCW := hid hcw
  clear hrw hcw
  go_enter Tryz.func30, Tryz.ntmps30
  go_upto_region 5 with fail
  obtain ⟨W, hW⟩ : ∃ W, w.alloc (.cells #[.int .i64 (r : Int), .int .i64 (c : Int), .int .i64 off, .int .i64 rs, .int .i64 cs] 24) = W := ⟨_, rfl⟩
  have HW := hid hW
  have k0 : W.cell? ⟨w.heap.size, 0, none⟩ = some (.int .i64 (r : Int)) := by rw [hW] at hvw; exact hvw.cell rfl
  have k1 : W.cell? ⟨w.heap.size, 1, none⟩ = some (.int .i64 (c : Int)) := by rw [hW] at hvw; exact hvw.cell rfl
  have k2 : W.cell? ⟨w.heap.size, 2, none⟩ = some (.int .i64 off) := by rw [hW] at hvw; exact hvw.cell rfl
  have k3 : W.cell? ⟨w.heap.size, 3, none⟩ = some (.int .i64 rs) := by rw [hW] at hvw; exact hvw.cell rfl
  have k4 : W.cell? ⟨w.heap.size, 4, none⟩ = some (.int .i64 cs) := by rw [hW] at hvw; exact hvw.cell rfl
  have HVW : Hid (Arr W w.heap.size 24 [.int .i64 (r : Int), .int .i64 (c : Int), .int .i64 off, .int .i64 rs, .int .i64 cs]) := by rw [hW] at hvw; exact hvw
  have hsz : W.heap.size = w.heap.size + 1 := by rw [← hW]; simp
  have HBW : Hid (Below w.heap.size w W) := by rw [← hW]; exact HB0.out _
  rw [hW]
  clear hW hvw
  go_cut [5] from 41 to 49 (fun t wx => t = .bool rw ∧ wx = W)
  case first =>
    cases b1
    · go_wp2_with fail
      refine (step_b _ rs n br hn HBR.out).mono ?_
      rintro e w1 ⟨rfl, rfl⟩
      go_wp2_with fail
      go_meet
      exact ⟨by rw [← HRW.out]; simp, rfl⟩
    · go_wp2_with fail
      go_meet
      exact ⟨by rw [← HRW.out]; simp, rfl⟩
  case rest =>
  obtain ⟨rfl, rfl⟩ := hcut
  apply_assumption
  go_upto_region 6 with fail
  go_cut [6] from 50 to 58 (fun t wx => t = .bool cw ∧ wx = wc)
  case first =>
    cases b2
    · go_wp2_with fail
      refine (step_b _ cs n bc hn HBC.out).mono ?_
      rintro e w1 ⟨rfl, rfl⟩
      go_wp2_with fail
      go_meet
      exact ⟨by rw [← HCW.out]; simp, rfl⟩
    · go_wp2_with fail
      go_meet
      exact ⟨by rw [← HCW.out]; simp, rfl⟩
  case rest =>
  obtain ⟨rfl, rfl⟩ := hcut
  have HXR : Hid (rw = true ↔ (r = 1 ∨ (-(n : Int) < rs ∧ rs < n))) := by
    show _ ↔ _
    rw [← HRW.out, ← HB1.out, ← HBR.out]; simp; omega
  have HXC : Hid (cw = true ↔ (c = 1 ∨ (-(n : Int) < cs ∧ cs < n))) := by
    show _ ↔ _
    rw [← HCW.out, ← HB2.out, ← HBC.out]; simp; omega
  apply_assumption
  by_cases hoff : ¬ (0 ≤ off ∧ off < n)
  · have HNF : Hid (¬ Fit r c off rs cs n) := fun h => hoff (HFS.out h).1
    by_cases o1 : off < 0
    · go_wp2
      go_ret
      exact ⟨boolOk_f HNF.out, HBW.out⟩
    · have o2 : (n : Int) ≤ off := by omega
      go_wp2
      go_ret
      exact ⟨boolOk_f HNF.out, HBW.out⟩
  replace hoff := Decidable.not_not.1 hoff
  have o1 : ¬ off < 0 := by omega
  have o2 : ¬ (n : Int) ≤ off := by omega
  cases rw with
  | false =>
    have HNF : Hid (¬ Fit r c off rs cs n) := fun h => by have := HXR.out.2 (HFS.out h).2.1; cases this
    go_wp2
    go_ret
    exact ⟨boolOk_f HNF.out, HBW.out⟩
  | true =>
  cases cw with
  | false =>
    have HNF : Hid (¬ Fit r c off rs cs n) := fun h => by have := HXC.out.2 (HFS.out h).2.2; cases this
    go_wp2
    go_ret
    exact ⟨boolOk_f HNF.out, HBW.out⟩
  | true =>
  have HR : Hid (r = 1 ∨ (-(n : Int) < rs ∧ rs < n)) := HXR.out.1 rfl
  have HC : Hid (c = 1 ∨ (-(n : Int) < cs ∧ cs < n)) := HXC.out.1 rfl
  clear HXR HXC HRW HCW HBR HBC HB1 HB2
  go_wp2
  have hA : Hid (SM w.heap.size r c off rs cs n 0 0 (wc.alloc (.cells (Array.replicate n (Value.bool false)) 4))) := by
    refine ⟨HVW.out.alloc _, List.replicate n false, ?_, by simp, fun p => ⟨fun h => ?_, ?_⟩⟩
    · rw [← hsz, List.map_replicate]; exact Arr.newR _ _ _ _
    · rw [List.getElem?_replicate] at h; split at h <;> cases h
    · rintro ⟨x, y, h, _⟩; unfold Ahead at h; omega
  have hB : Hid (Below w.heap.size w (wc.alloc (.cells (Array.replicate n (Value.bool false)) 4))) := HBW.out.alloc (by omega) _
  generalize wc.alloc (.cells (Array.replicate n (Value.bool false)) 4) = Wd at *
  clear HVW k0 k1 k2 k3 k4 hsz HBW HW hmk
  go_loopw [8] (fun vi wr => ∃ i : Nat, vi = .int .i64 (i : Int) ∧ i ≤ r ∧ SeenTo c off rs cs n i 0 ∧ SM w.heap.size r c off rs cs n i 0 wr ∧ Below w.heap.size w wr) (fun vi _ => r - (intOf vi).toNat)
  case atStart => exact ⟨0, rfl, by omega, seen_zero _ _ _ _ _, hA.out, hB.out⟩
  case round =>
    clear hA hB
    obtain ⟨i, rfl, hir, hse, hsm, hbe⟩ := hrel
    have k0 := hsm.1.cell (i := 0) rfl
    have k1 := hsm.1.cell (i := 1) rfl
    have HSE := hid hse
    have HSM := hid hsm
    have HBE := hid hbe
    clear hse hsm hbe
    by_cases hlt : i < r
    · have hlt' : (i : Int) < r := by omega
      go_wp2
      go_loopw [9] (fun vj wq => ∃ j : Nat, vj = .int .i64 (j : Int) ∧ j ≤ c ∧ SeenTo c off rs cs n i j ∧ SM w.heap.size r c off rs cs n i j wq ∧ Below w.heap.size w wq) (fun vj _ => c - (intOf vj).toNat)
      case atStart => exact ⟨0, rfl, by omega, HSE.out, HSM.out, HBE.out⟩
      case round =>
        clear HSE HSM HBE k0 k1
        obtain ⟨j, rfl, hjc, hse, hsm, hbe⟩ := hrel
        have k0 := hsm.1.cell (i := 0) rfl
        have k1 := hsm.1.cell (i := 1) rfl
        have k2 := hsm.1.cell (i := 2) rfl
        have k3 := hsm.1.cell (i := 3) rfl
        have k4 := hsm.1.cell (i := 4) rfl
        have HSE := hid hse
        have HSM := hid hsm
        have HBE := hid hbe
        have hsz := hbe.size
        have hlt0 := hsm.1.lt
        clear hse hsm hbe
        by_cases hjl : j < c
        · have hjl' : (j : Int) < c := by omega
          obtain ⟨p, hp⟩ : ∃ p, off + i * rs + j * cs = p := ⟨_, rfl⟩
          have HP := hid hp
          clear hp
          have HPL : Hid _ := hid (fun w => place_p w r c off rs cs i j p (by omega) (by omega) (by omega) (by have := HR.out; omega) (by have := HC.out; omega) HP.out)
          have HBE2 : Hid (∀ o, Below w.heap.size w (wr.alloc o)) := fun o => HBE.out.alloc (by have := HBE.out.size; omega) o
          by_cases p1 : p < 0
          · have HNF : Hid (¬ Fit r c off rs cs n) := fun h => by have := h.1 i j hlt hjl; rw [HP.out] at this; omega
            go_wp2_with fail
            refine (HPL.out _).mono ?_
            rintro e w1 ⟨rfl, rfl⟩
            go_wp2
            go_ret
            exact ⟨boolOk_f HNF.out, HBE2.out _⟩
          by_cases p2 : (n : Int) ≤ p
          · have HNF : Hid (¬ Fit r c off rs cs n) := fun h => by have := h.1 i j hlt hjl; rw [HP.out] at this; omega
            go_wp2_with fail
            refine (HPL.out _).mono ?_
            rintro e w1 ⟨rfl, rfl⟩
            go_wp2
            go_ret
            exact ⟨boolOk_f HNF.out, HBE2.out _⟩
          obtain ⟨q, rfl⟩ := Int.eq_ofNat_of_zero_le (show 0 ≤ p by omega)
          have hqn : q < n := by omega
          obtain ⟨sl, ha, hl, hseen⟩ := HSM.out.2
          obtain ⟨sv, hsv⟩ : ∃ sv, sl[q]? = some sv := ⟨sl[q]'(by omega), by simp [hl, hqn]⟩
          have kq : ∀ o, (wr.alloc o).cell? ⟨w.heap.size + 1, q, none⟩ = some (.bool sv) := fun o => (ha.alloc o).cell (by rw [List.getElem?_map, hsv]; rfl)
          have fq : ∀ o, (wr.alloc o).frozen? ⟨w.heap.size + 1, q, none⟩ = false := fun o => (ha.alloc o).frozen q
          have HQ : Hid (sv = true ↔ ∃ x y, Ahead c i j x y ∧ off + x * rs + y * cs = (q : Int)) := by
            show _ ↔ _
            rw [← hseen q, hsv]; simp
          clear ha hl hseen hsv
          cases sv with
          | true =>
            have HNF : Hid (¬ Fit r c off rs cs n) := fun h => by
              obtain ⟨x, y, h1, h2⟩ := HQ.out.1 rfl
              have hx : x < r ∧ y < c ∧ ¬ (x = i ∧ y = j) := by unfold Ahead at h1; omega
              exact hx.2.2 (h.2 x y i j hx.1 hx.2.1 hlt hjl (by rw [h2, HP.out]))
            go_wp2_with fail
            refine (HPL.out _).mono ?_
            rintro e w1 ⟨rfl, rfl⟩
            go_wp2
            go_ret
            exact ⟨boolOk_f HNF.out, HBE2.out _⟩
          | false =>
            have HQ2 : Hid (∀ x y : Nat, Ahead c i j x y → off + x * rs + y * cs ≠ off + i * rs + j * cs) := fun x y h1 h2 => by
              have := HQ.out.2 ⟨x, y, h1, h2.trans HP.out⟩; cases this
            clear HQ
            go_wp2_with fail
            refine (HPL.out _).mono ?_
            rintro e w1 ⟨rfl, rfl⟩
            go_wp2
            go_roundw
            case rel =>
              refine ⟨j + 1, by simp, by omega, seen_step HSE.out (by rw [HP.out]; omega) HQ2.out, HSM.out.step HP.out hqn hjl _, (HBE2.out _).setCell (p := ⟨w.heap.size + 1, q, none⟩) (by simp) _⟩
            case measure => simp [intOf]; omega
        · have hjl' : ¬ (j : Int) < c := by omega
          obtain rfl : j = c := by omega
          go_wp2
          go_roundw
          case rel => exact ⟨i + 1, by simp, by omega, seen_row HSE.out, HSM.out.row, HBE.out⟩
          case measure => simp [intOf]; omega
    · have hlt' : ¬ (i : Int) < r := by omega
      obtain rfl : i = r := by omega
      go_wp2
      go_ret
      exact ⟨boolOk_t (seen_fit HSE.out), HBE.out⟩
end Go.Proofs.YthdcceackfdbbaaGreatDoor
namespace Go.Proofs.YthdcceackfdbbaaGreatDoor
open Go Go.RowKit Go.Shelf
attribute [local go_sem] Oper.semAt_some
theorem plcA_inj {x y : Nat × Nat × Nat} (h : plcA x = plcA y) : x.1 = y.1 ∧ x.2.1 = y.2.1 := by
  obtain ⟨a, b, c⟩ := x; obtain ⟨d, e, f⟩ := y
  simp [plcA, plcV] at h
  exact ⟨by simp only; omega, by simp only; omega⟩
theorem map_get {α β : Type} {l : List α} {f : α → β} {k : Nat} {x : β} (h : (l.map f)[k]? = some x) : ∃ y, l[k]? = some y ∧ f y = x := by
  rw [List.getElem?_map] at h
  cases e : l[k]? with
  | none => rw [e] at h; cases h
  | some y => rw [e] at h; exact ⟨y, rfl, Option.some.inj h⟩
set_option maxRecDepth 20000 in
set_option maxHeartbeats 4000000 in
theorem lower_gives (R C g : Nat) (f : Nat → Nat → Nat) (hR : R ≤ 40) (hC : C ≤ 40) :
    Gives Tryz.prog 98 #[matV R C g] #[] (((colsL R C f).filter (fun x => decide (x.2.1 ≤ x.1))).map plcA) (fun _ _ => True) := by
  intro l J Jx W hM hJ hJx hY h0
  rw [List.length_map]
  have hmf : ∀ (fn : Fn) (first cap : Array Value) (w : World), (Instr.makeFunc fn first cap).run Tryz.prog w = .ok (.func fn first cap) w := fun _ _ _ _ => rfl
  obtain ⟨xs, hxs⟩ : ∃ xs, colsL R C f = xs := ⟨_, rfl⟩
  obtain ⟨kp, hkpd⟩ : ∃ kp : Nat × Nat × Nat → Bool, (fun x => decide (x.2.1 ≤ x.1)) = kp := ⟨_, rfl⟩
  obtain ⟨W0, hW0⟩ : ∃ W0, (W.alloc (matO R C g)).alloc (.cells #[.func (.yield l) #[] #[]] 197) = W0 := ⟨_, rfl⟩
  have hbx : Arr W0 (W.heap.size + 1) 197 [.func (.yield l) #[] #[]] := by have := Arr.newL (W.alloc (matO R C g)) 197 [.func (.yield l) #[] #[]]; rw [World.size_alloc] at this; rw [← hW0]; exact this
  have hj1 : J 0 W0 := by rw [← hW0]; exact hJ _ _ _ h0 ((Sim.alloc _ _ _).trans (Sim.alloc _ _ _))
  have hs0 : W0.heap.size = W.heap.size + 2 := by rw [← hW0]; simp
  have HJ := hid hJ
  have HJx := hid hJx
  have HY := hid hY
  have HBX := hid hbx
  have HJ1 := hid hj1
  clear hJ hJx hY hM hbx hj1 h0
  rw [hkpd, hxs] at HY
  rw [hkpd, hxs]
  have hgv := cols_gives R C g f hR hC
  rw [hxs] at hgv
  refine callsIn_of_wp_marks Tryz.func98 rfl trivial ?_ rfl
  simp only [Tryz.ntmps98, List.size_toArray, List.length_cons, List.length_nil, Nat.reduceAdd, Nat.reduceSub, Array.replicate_succ, Array.replicate_zero, List.push_toArray, List.append_toArray, List.nil_append, List.cons_append, matV]
  unfold matO at hW0
  have HW0 := hid hW0
  clear hW0
  gi_wp2_with fail
  rw [HW0.out]
  clear HW0
  refine range_gives 0 (gf := 99) (fst := #[matV R C g]) (lb := #[]) rfl (enters_of Tryz.func99 (by kernel_rfl) rfl) hgv (by intro x hx; obtain ⟨y, _, rfl⟩ := List.mem_map.1 hx; rfl)
    (fun k W' => J ((xs.take k).filter kp).length W' ∧ Arr W' (W.heap.size + 1) 197 [.func (.yield l) #[] #[]])
    (fun c W' => c = .ret ∧ Jx () W')
    (fun x a' W' => ∃ (y : Nat × Nat × Nat) (Bx : Nat), x = plcA y ∧ W.heap.size + 1 < Bx ∧ Arr W' Bx 117 [.int .i64 (y.1 : Int), .int .i64 (y.2.1 : Int)] ∧ a' = { tmps := #[.agg #[.int .i64 (R : Int), .int .i64 (C : Int), .slice (some ⟨g, 0, none⟩) (R * C) (R * C)], .func (.yield l) #[] #[], .pointer (some ⟨W.heap.size, 0, none⟩), .pointer (some ⟨W.heap.size + 1, 0, none⟩), .pointer (some ⟨Bx, 0, none⟩), .agg #[.int .i64 (R : Int), .int .i64 (C : Int), .slice (some ⟨g, 0, none⟩) (R * C) (R * C)], .func (.func 99) #[.agg #[.int .i64 (R : Int), .int .i64 (C : Int), .slice (some ⟨g, 0, none⟩) (R * C) (R * C)]] #[], plcV y.1 y.2.1, undef, undef, undef, undef, undef, undef, undef, undef, undef, undef, undef], defers := [] })
    (fun _ _ _ => trivial) ?hI ?hIx ?hAx ?h0 ?assign ?body ?done ?stop
  case hI => exact fun k A B h s => ⟨HJ.out _ _ _ h.1 (s.down (by omega)), h.2.sim s⟩
  case hIx => exact fun c A B h s => ⟨h.1, HJx.out _ _ _ h.2 (s.down (by omega))⟩
  case hAx => rintro x a' A B ⟨y, Bx, h1, h2, h3, h4⟩ s; exact ⟨y, Bx, h1, h2, h3.sim s, h4⟩
  case h0 => exact ⟨by simpa using HJ1.out, HBX.out⟩
  case assign =>
    intro l1 k x W1 K hx hi hK
    obtain ⟨y, hy, rfl⟩ := map_get hx
    have hlt := hi.2.lt
    have HK : Hid _ := hid (hK { tmps := #[.agg #[.int .i64 (R : Int), .int .i64 (C : Int), .slice (some ⟨g, 0, none⟩) (R * C) (R * C)], .func (.yield l) #[] #[], .pointer (some ⟨W.heap.size, 0, none⟩), .pointer (some ⟨W.heap.size + 1, 0, none⟩), .pointer (some ⟨W1.heap.size, 0, none⟩), .agg #[.int .i64 (R : Int), .int .i64 (C : Int), .slice (some ⟨g, 0, none⟩) (R * C) (R * C)], .func (.func 99) #[.agg #[.int .i64 (R : Int), .int .i64 (C : Int), .slice (some ⟨g, 0, none⟩) (R * C) (R * C)]] #[], plcV y.1 y.2.1, undef, undef, undef, undef, undef, undef, undef, undef, undef, undef, undef], defers := [] } (W1.alloc (plcO y.1 y.2.1))
      (KeptFrom.below (Below.refl' _ _)) ⟨HJ.out _ _ _ hi.1 (Sim.alloc _ _ _), hi.2.alloc _⟩ ⟨y, W1.heap.size, rfl, hlt, Arr.newL _ _ _, rfl⟩)
    clear hK hi hx
    unfold plcA plcV
    unfold plcV plcO at HK
    gi_wp2
    exact HK.out
  case body =>
    rintro l1 k x a' W1 hx hi ⟨y, Bx, rfl, hBx, hb, rfl⟩
    obtain ⟨y', hy, hye⟩ := map_get hx
    have hpe := plcA_inj hye
    obtain ⟨i, j, z⟩ := y
    simp only at hpe hb ⊢
    have hfn := filter_next kp xs k y' hy
    have hkv : kp y' = decide (j ≤ i) := by rw [← hkpd]; simp only; rw [hpe.1, hpe.2]
    have c3 : W1.cell? ⟨W.heap.size + 1, 0, none⟩ = some (.func (.yield l) #[] #[]) := hi.2.cell rfl
    have c4 := hb.cell (i := 0) rfl
    have c5 := hb.cell (i := 1) rfl
    have hdep : Fence.wide.depth = none := rfl
    have HI := hid hi
    have hj2 := hi.1
    unfold plcV
    clear hb hi
    by_cases hkp : j ≤ i
    · have hkt : kp y' = true := by rw [hkv]; simpa using hkp
      have hcnt := hfn.1 hkt
      have hle1 : (j : Int) ≤ i := by omega
      have hle2 : ¬ (i : Int) < j := by omega
      obtain ⟨fn, tmps, assign, body, hyd, hR1⟩ := HY.out _ (plcA y') _ (by rw [List.getElem?_map, hcnt.1]; rfl) hj2
      have hRd : RoundIn (Fence.wide.inRound l1) 0 Tryz.prog l fn tmps assign body W1 (fun e W' => ∃ b, e = .returned (.bool b) ∧ Hid (KeptFrom W0.heap.size W1 W' ∧ ((b = true ∧ J ((xs.take (k + 1)).filter kp).length W' ∧ Arr W' (W.heap.size + 1) 197 [.func (.yield l) #[] #[]]) ∨ (b = false ∧ Jx () W')))) :=
        hR1.mono (fun e W' h => by
          rcases h with ⟨rfl, h1, h2⟩ | ⟨rfl, h1, h2⟩
          · exact ⟨true, rfl, h2.up (by omega), .inl ⟨rfl, by rw [hcnt.2]; exact h1, HI.out.2.kept h2 (by omega) (by decide)⟩⟩
          · exact ⟨false, rfl, h2.up (by omega), .inr ⟨rfl, h1⟩⟩)
      rw [hye] at hyd
      dsimp only [plcA] at hyd
      unfold plcV at hyd
      clear hfn hcnt hj2 hy hR1 hkt hkv hpe hye hx
      gi_wp2_with fail
      refine hRd.mono ?_
      rintro e W3 ⟨b, rfl, hz⟩
      have HZ := hz
      clear hz
      cases b
      · gi_wp2
        refine ⟨HZ.out.1, rfl, ?_⟩
        rcases HZ.out.2 with ⟨h, _⟩ | ⟨_, h⟩
        · cases h
        · exact h
      · gi_wp2
        refine ⟨HZ.out.1, ?_⟩
        rcases HZ.out.2 with ⟨_, h⟩ | ⟨h, _⟩
        · exact h
        · cases h
    · have hkt : kp y' = false := by rw [hkv]; simpa using hkp
      have hcnt := hfn.2 hkt
      have hle1 : ¬ (j : Int) ≤ i := by omega
      have hle2 : (i : Int) < j := by omega
      have HE : Hid (KeptFrom W0.heap.size W1 W1 ∧ J ((xs.take (k + 1)).filter kp).length W1 ∧ Arr W1 (W.heap.size + 1) 197 [.func (.yield l) #[] #[]]) := ⟨KeptFrom.refl _ _, by rw [hcnt]; exact HI.out.1, HI.out.2⟩
      clear hfn hcnt hj2 hy hkt hkv hpe hye hx
      gi_wp2
      refine ⟨fun _ h => (by cases h), ?_⟩
      gi_wp2
      exact HE.out
  case done =>
    intro D W1 hD hi hK
    refine ⟨by simp, .inl ⟨_, _, rfl, run_takeDeferred hK, ?_⟩⟩
    refine ⟨_, results_none rfl _ _ _, ⟨_, rfl⟩, .inl ?_⟩
    have := hi.1
    rw [List.length_map, List.take_length] at this
    exact HJ.out _ _ _ this (Sim.putObj _ (by omega) hK rfl)
  case stop =>
    rintro D c W1 hD ⟨rfl, hjx⟩ hK
    gi_wp2
    refine ⟨by simp, .inl ⟨_, _, rfl, run_takeDeferred hK, ?_⟩⟩
    exact ⟨_, results_none rfl _ _ _, ⟨_, rfl⟩, .inr (HJx.out _ _ _ hjx (Sim.putObj _ (by omega) hK rfl))⟩
end Go.Proofs.YthdcceackfdbbaaGreatDoor
namespace Go.Proofs.YthdcceackfdbbaaGreatDoor
open Go Go.RowKit Go.Shelf
attribute [local go_sem] Oper.semAt_some
theorem ksym_b (w : World) (k : Int) (b : Bool) (hb : decide (k = 1 ∨ k = 3) = b) : Calls Tryz.prog 68 #[.int .i64 k] w fun e w' => e = .returned (.bool b) ∧ w' = w := by
  rw [← hb]; exact ksym_any w k
theorem kcoord_b (w : World) (k : Int) (b : Bool) (hb : decide (k = 2 ∨ k = 3) = b) : Calls Tryz.prog 145 #[.int .i64 k] w fun e w' => e = .returned (.bool b) ∧ w' = w := by
  rw [← hb]; exact kcoord_any w k
def placeF (kind : Nat) : Nat := if kind = 4 then 97 else if kind = 1 ∨ kind = 3 then 98 else 99
def plcL (kind R C : Nat) (f : Nat → Nat → Nat) : List (Nat × Nat × Nat) :=
  if kind = 4 then rowsL R C f else if kind = 1 ∨ kind = 3 then (colsL R C f).filter (fun x => decide (x.2.1 ≤ x.1)) else colsL R C f
theorem plcL_mem {kind R C : Nat} {f : Nat → Nat → Nat} {x : Nat × Nat × Nat} (h : x ∈ plcL kind R C f) : x.1 < R ∧ x.2.1 < C ∧ x.2.2 = f x.1 x.2.1 := by
  unfold plcL at h
  split at h
  · exact rowsL_mem h
  · split at h
    · exact colsL_mem (List.mem_filter.1 h).1
    · exact colsL_mem h
theorem places_any (w : World) (kind R C g : Nat) (hk : kind ≤ 5) :
    Calls Tryz.prog 63 #[matV R C g, .int .i64 (kind : Int)] w fun e w' => e = .returned (.func (.func (placeF kind)) #[matV R C g] #[]) ∧ w' = w.alloc (matO R C g) := by
  have hmf : ∀ (fn : Fn) (first cap : Array Value) (w : World), (Instr.makeFunc fn first cap).run Tryz.prog w = .ok (.func fn first cap) w := fun _ _ _ _ => rfl
  unfold matV matO
  by_cases h4 : kind = 4
  · subst h4
    go_enter Tryz.func63, Tryz.ntmps63
    go_wp2
    go_ret
    exact ⟨rfl, rfl⟩
  · have h4' : ¬ (kind : Int) = 4 := by omega
    by_cases hs : kind = 1 ∨ kind = 3
    · have hpf : placeF kind = 98 := by unfold placeF; rw [if_neg h4, if_pos hs]
      rw [hpf]
      go_enter Tryz.func63, Tryz.ntmps63
      go_wp2_with fail
      refine (ksym_b _ _ true (by simp; omega)).mono ?_
      rintro e w1 ⟨rfl, rfl⟩
      go_wp2
      go_ret
      exact ⟨rfl, rfl⟩
    · have hpf : placeF kind = 99 := by unfold placeF; rw [if_neg h4, if_neg hs]
      rw [hpf]
      go_enter Tryz.func63, Tryz.ntmps63
      go_wp2_with fail
      refine (ksym_b _ _ false (by simp; omega)).mono ?_
      rintro e w1 ⟨rfl, rfl⟩
      go_wp2
      go_ret
      exact ⟨rfl, rfl⟩
theorem places_gives (kind R C g : Nat) (f : Nat → Nat → Nat) (hR : R ≤ 40) (hC : C ≤ 40) : Gives Tryz.prog (placeF kind) #[matV R C g] #[] ((plcL kind R C f).map plcA) (fun _ _ => True) := by
  unfold placeF plcL
  split
  · exact rows_gives R C g f hR hC
  · split
    · exact lower_gives R C g f hR hC
    · exact cols_gives R C g f hR hC
theorem place_enters (kind : Nat) : ∀ args w, (callFunc (placeF kind) args).run Tryz.prog w = .ok (.enter (placeF kind) args) w := by
  unfold placeF
  split
  · exact enters_of Tryz.func97 (by kernel_rfl) rfl
  · split
    · exact enters_of Tryz.func98 (by kernel_rfl) rfl
    · exact enters_of Tryz.func99 (by kernel_rfl) rfl
end Go.Proofs.YthdcceackfdbbaaGreatDoor
namespace Go.Proofs.YthdcceackfdbbaaGreatDoor
open Go Go.RowKit Go.Shelf
theorem rowsWide {n : Nat} {P : Program} {row : String} {args : Array Value} {w : World} {R : Value → World → Prop} (h : Rows P row args w R) : RowsIn Fence.wide n P row args w R :=
  fun c cs _ => let ⟨v, w', r, s⟩ := h c cs; ⟨v, w', r, stepsIn_wide.2 s⟩
theorem any_round {P : Program} {md : Region.Mode} {ops : Array Oper} {Q : Exit → Act → World → Prop} {n : Nat} (l : Nat) (hd : ∀ (i : Nat) (o : Oper), ops[i]? = some o → ∀ c, o.op ≠ .defer c) (hq : ¬ LetsOut Q) :
    ∀ (fuel : Nat) (listed : Array Bool) (a : Act) (w : World), wpAny P md ops Q fuel listed a w → wpAnyIn (Fence.wide.inRound l) n P md ops Q fuel listed a w
  | 0, _, _, _, h => h
  | fuel + 1, listed, a, w, h => by
    refine ⟨h.1, fun i hi => ?_⟩
    have h1 := h.2 i hi
    unfold wpOp at h1
    unfold wpOpIn
    cases ho : ops[i]? with
    | none => rw [ho] at h1; exact any_round l hd hq fuel _ _ _ h1
    | some o =>
      rw [ho] at h1
      simp only at h1 ⊢
      split
      · rename_i hw
        rw [if_pos hw] at h1
        rcases h1 with h1 | ⟨_, h1⟩
        · refine ⟨fun _ _ => trivial, ?_⟩
          rw [show (Fence.wide.inRound l).round = some l from rfl, Oper.semAt_some l _ _ (hd i o ho)]
          unfold Oper.wp at h1
          generalize (execOp a.eval o).run P w = r at h1 ⊢
          cases r with
          | ok x w' =>
            cases x with
            | value v => exact any_round l hd hq fuel _ _ _ h1
            | skip => exact any_round l hd hq fuel _ _ _ h1
            | defer d => exact any_round l hd hq fuel _ _ _ h1
            | enter f args =>
              refine ⟨fun h => (by cases h), CallsIn.inRound l (callsIn_wide.2 (h1.mono fun e w'' he => ?_))⟩
              cases e with
              | returned v => exact any_round l hd hq fuel _ _ _ he
              | panicked c => exact he
              | outgrown => exact he
            | row row args => exact ⟨fun h => (by cases h), rowsWide (h1.mono fun v w'' he => any_round l hd hq fuel _ _ _ he)⟩
            | _ => exact h1.elim
          | halt x w' => cases x <;> exact h1
        · exact absurd h1 hq
      · rename_i hw
        rw [if_neg hw] at h1
        exact ⟨fun _ _ => trivial, any_round l hd hq fuel _ _ _ h1⟩
def noDefer (ops : Array Oper) : Bool := ops.toList.all fun o => match o.op with | .defer _ => false | _ => true
theorem noDefer_spec {ops : Array Oper} (h : noDefer ops = true) (i : Nat) (o : Oper) (ho : ops[i]? = some o) (c : Call) : o.op ≠ .defer c := by
  intro e
  have := List.all_eq_true.1 h o (List.mem_of_getElem? (by simpa using ho))
  rw [e] at this
  cases this
theorem region_round {P : Program} {id : Nat} {ops : Array Oper} {Q : Exit → Act → World → Prop} {n : Nat} {a : Act} {w : World} (l : Nat) (S : World → Prop) (hm : P.follows .mixedOrders = true) (hd : noDefer ops = true) (hq : ¬ LetsOut Q)
    (h : wpAnyH P .any ops Q S ops.size (Array.replicate ops.size false) a w.drew) : (Code.region id ops true).wpIn (Fence.wide.inRound l) n P Q a w :=
  wpIn_region_any hm (any_round l (noDefer_spec hd) hq _ _ _ _ (wpAny_of_held _ _ _ _ h))
end Go.Proofs.YthdcceackfdbbaaGreatDoor
