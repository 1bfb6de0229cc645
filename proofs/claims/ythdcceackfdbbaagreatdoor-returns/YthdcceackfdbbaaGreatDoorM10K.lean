import Derived.Test.YthdcceackfdbbaaGreatDoorProg
import Derived.Test.YthdcceackfdbbaaGreatDoorM09K
import Derived.WalkKit
import Derived.BigQuiet
import Derived.KernelRfl
import Derived.RangeFuncNested
import Derived.RangeFuncBound
import Derived.RangeFuncCalls
import Derived.RangeFuncLeaves
import Derived.Lib.OthersKept
import Derived.OwnWalkIn
import Derived.Laws.MakeOwn
namespace Go.Proofs.YthdcceackfdbbaaGreatDoor
open Go Go.RowKit

/-- the places of a matrix, row by row and column by column, each with its number -/
def rowsL (R C : Nat) (f : Nat → Nat → Nat) : List (Nat × Nat × Nat) := (List.range (R * C)).map fun k => (k / C, k % C, f (k / C) (k % C))
def colsL (R C : Nat) (f : Nat → Nat → Nat) : List (Nat × Nat × Nat) := (List.range (R * C)).map fun k => (k % R, k / R, f (k % R) (k / R))

theorem rowsL_len (R C : Nat) (f : Nat → Nat → Nat) : (rowsL R C f).length = R * C := by simp [rowsL]
theorem colsL_len (R C : Nat) (f : Nat → Nat → Nat) : (colsL R C f).length = R * C := by simp [colsL]

theorem idx_lt {R C i j : Nat} (hi : i < R) (hj : j < C) : i * C + j < R * C := by
  have h1 : (i + 1) * C ≤ R * C := Nat.mul_le_mul_right _ hi
  rw [Nat.add_mul] at h1
  omega

theorem rowsL_at {R C : Nat} (f : Nat → Nat → Nat) {i j : Nat} (hi : i < R) (hj : j < C) : (rowsL R C f)[i * C + j]? = some (i, j, f i j) := by
  have h := idx_lt hi hj
  have e1 : (i * C + j) / C = i := by rw [Nat.add_comm, Nat.add_mul_div_right _ _ (by omega), Nat.div_eq_of_lt hj]; omega
  have e2 : (i * C + j) % C = j := by rw [Nat.add_comm, Nat.add_mul_mod_self_right, Nat.mod_eq_of_lt hj]
  simp [rowsL, h, e1, e2]

theorem colsL_at {R C : Nat} (f : Nat → Nat → Nat) {i j : Nat} (hi : i < R) (hj : j < C) : (colsL R C f)[j * R + i]? = some (i, j, f i j) := by
  have h := idx_lt hj hi
  rw [Nat.mul_comm C R] at h
  have e1 : (j * R + i) / R = j := by rw [Nat.add_comm, Nat.add_mul_div_right _ _ (by omega), Nat.div_eq_of_lt hi]; omega
  have e2 : (j * R + i) % R = i := by rw [Nat.add_comm, Nat.add_mul_mod_self_right, Nat.mod_eq_of_lt hi]
  simp [colsL, h, e1, e2]

theorem mod_div_lt {R C k : Nat} (h : k < R * C) : k % R < R ∧ k / R < C := by
  have hR : 0 < R := by rcases Nat.eq_zero_or_pos R with e | e; · subst e; simp at h
                        exact e
  exact ⟨Nat.mod_lt _ hR, Nat.div_lt_of_lt_mul h⟩

theorem div_mod_lt {R C k : Nat} (h : k < R * C) : k / C < R ∧ k % C < C := by
  have := mod_div_lt (R := C) (C := R) (by rw [Nat.mul_comm]; exact h)
  exact ⟨this.2, this.1⟩

theorem rowsL_mem {R C : Nat} {f : Nat → Nat → Nat} {x : Nat × Nat × Nat} (h : x ∈ rowsL R C f) : x.1 < R ∧ x.2.1 < C ∧ x.2.2 = f x.1 x.2.1 := by
  obtain ⟨k, hk, rfl⟩ := List.mem_map.1 h
  have := div_mod_lt (List.mem_range.1 hk)
  exact ⟨this.1, this.2, rfl⟩

theorem colsL_mem {R C : Nat} {f : Nat → Nat → Nat} {x : Nat × Nat × Nat} (h : x ∈ colsL R C f) : x.1 < R ∧ x.2.1 < C ∧ x.2.2 = f x.1 x.2.1 := by
  obtain ⟨k, hk, rfl⟩ := List.mem_map.1 h
  have := mod_div_lt (List.mem_range.1 hk)
  exact ⟨this.1, this.2, rfl⟩

theorem colsL_in {R C : Nat} (f : Nat → Nat → Nat) {i j : Nat} (hi : i < R) (hj : j < C) : (i, j, f i j) ∈ colsL R C f :=
  List.mem_of_getElem? (colsL_at f hi hj)

/-- what a file of a kind tells, in its order -/
def entL (kind R C : Nat) (f : Nat → Nat → Nat) : List (Nat × Nat × Nat) :=
  if kind = 4 then rowsL R C f else
  let l := if kind = 1 ∨ kind = 3 then (colsL R C f).filter (fun x => decide (x.2.1 ≤ x.1)) else colsL R C f
  if kind = 2 ∨ kind = 3 then l.filter (fun x => decide (x.2.2 ≠ 0)) else l

theorem entL_mem {kind R C : Nat} {f : Nat → Nat → Nat} {x : Nat × Nat × Nat} (h : x ∈ entL kind R C f) : x.1 < R ∧ x.2.1 < C ∧ x.2.2 = f x.1 x.2.1 := by
  unfold entL at h
  split at h
  · exact rowsL_mem h
  · simp only at h
    split at h <;> split at h
    · exact colsL_mem (List.mem_filter.1 (List.mem_filter.1 h).1).1
    · exact colsL_mem (List.mem_filter.1 h).1
    · exact colsL_mem (List.mem_filter.1 h).1
    · exact colsL_mem h

theorem entL_len (kind R C : Nat) (f : Nat → Nat → Nat) : (entL kind R C f).length ≤ R * C := by
  unfold entL
  split
  · rw [rowsL_len]; omega
  · simp only
    have h0 := colsL_len R C f
    have h1 := List.length_filter_le (fun x : Nat × Nat × Nat => decide (x.2.1 ≤ x.1)) (colsL R C f)
    split <;> split
    all_goals first | omega | exact Nat.le_trans (List.length_filter_le _ _) (by omega)

/-- how far a filtered list is when k of the list have come -/
theorem filter_next {α : Type} (p : α → Bool) (l : List α) (k : Nat) (x : α) (h : l[k]? = some x) :
    (p x = true → (l.filter p)[((l.take k).filter p).length]? = some x ∧ ((l.take (k + 1)).filter p).length = ((l.take k).filter p).length + 1) ∧
    (p x = false → ((l.take (k + 1)).filter p).length = ((l.take k).filter p).length) := by
  have hk : k < l.length := (List.getElem?_eq_some_iff.1 h).1
  have h2 : l.take (k + 1) = l.take k ++ [x] := by rw [List.take_add_one, h]; rfl
  have h3 : l = l.take k ++ x :: l.drop (k + 1) := by
    have := (List.take_append_drop (k + 1) l).symm
    rw [h2, List.append_assoc] at this
    exact this
  constructor
  · intro hp
    constructor
    · have h4 : l.filter p = (l.take k).filter p ++ x :: (l.drop (k + 1)).filter p := by
        conv => lhs; rw [h3]
        rw [List.filter_append, List.filter_cons_of_pos hp]
      rw [h4]; simp
    · rw [h2, List.filter_append, List.filter_cons_of_pos hp]; simp
  · intro hp
    rw [h2, List.filter_append, List.filter_cons_of_neg (by simp [hp])]; simp

end Go.Proofs.YthdcceackfdbbaaGreatDoor
namespace Go.Proofs.YthdcceackfdbbaaGreatDoor
open Go Go.RowKit

theorem hid {p : Prop} (h : p) : Hid p := h

theorem below_dn {B : Nat} {a w : World} (h : Below B a w) (n : Nat) : Below B a (w.drewN n) := ⟨h.os, h.tape, h.output, h.size, h.block⟩

theorem known_any (w : World) (k : Int) : Calls Tryz.prog 67 #[.int .i64 k] w fun e w' => e = .returned (.bool (decide (0 ≤ k ∧ k ≤ 5))) ∧ w' = w := by
  go_enter Tryz.func67, Tryz.ntmps67
  go_wp2
  all_goals go_ret
  all_goals refine ⟨?_, rfl⟩
  all_goals simp [*]
  all_goals first | omega | (rw [Bool.eq_iff_iff]; simp [*])

theorem ksym_any (w : World) (k : Int) : Calls Tryz.prog 68 #[.int .i64 k] w fun e w' => e = .returned (.bool (decide (k = 1 ∨ k = 3))) ∧ w' = w := by
  go_enter Tryz.func68, Tryz.ntmps68
  go_wp2
  all_goals go_ret
  all_goals refine ⟨?_, rfl⟩
  all_goals simp [*]
  all_goals first | omega | (rw [Bool.eq_iff_iff]; simp [*])

theorem kbox_any (w : World) (k : Int) : Calls Tryz.prog 71 #[.int .i64 k] w fun e w' => e = .returned (.bool (decide (k = 4 ∨ k = 5))) ∧ w' = w := by
  go_enter Tryz.func71, Tryz.ntmps71
  go_wp2
  all_goals go_ret
  all_goals refine ⟨?_, rfl⟩
  all_goals simp [*]
  all_goals first | omega | (rw [Bool.eq_iff_iff]; simp [*])

theorem kcoord_any (w : World) (k : Int) : Calls Tryz.prog 145 #[.int .i64 k] w fun e w' => e = .returned (.bool (decide (k = 2 ∨ k = 3))) ∧ w' = w := by
  go_enter Tryz.func145, Tryz.ntmps145
  go_wp2
  all_goals go_ret
  all_goals refine ⟨?_, rfl⟩
  all_goals simp [*]
  all_goals first | omega | (rw [Bool.eq_iff_iff]; simp [*])

theorem isSide_any (w : World) (k : Int) : Calls Tryz.prog 60 #[.int .i64 k] w fun e w' => e = .returned (.bool (decide (0 ≤ k ∧ k ≤ 40))) ∧ w' = w := by
  go_enter Tryz.func60, Tryz.ntmps60
  go_wp2
  all_goals go_ret
  all_goals refine ⟨?_, rfl⟩
  all_goals simp [*]
  all_goals first | omega | (rw [Bool.eq_iff_iff]; simp [*])

theorem isPlace_any (w : World) (k n : Int) : Calls Tryz.prog 95 #[.int .i64 k, .int .i64 n] w fun e w' => e = .returned (.bool (decide (0 ≤ k ∧ k < n))) ∧ w' = w := by
  go_enter Tryz.func95, Tryz.ntmps95
  go_wp2
  all_goals go_ret
  all_goals refine ⟨?_, rfl⟩
  all_goals simp [*]
  all_goals first | omega | (rw [Bool.eq_iff_iff]; simp [*])

theorem leaves_any (w : World) (k s : Int) : Calls Tryz.prog 96 #[.int .i64 k, .int .i64 s] w fun e w' => e = .returned (.bool (decide (1 < k ∧ (s ≤ -100000 ∨ 100000 ≤ s)))) ∧ w' = w := by
  go_enter Tryz.func96, Tryz.ntmps96
  go_wp2
  all_goals go_ret
  all_goals refine ⟨?_, rfl⟩
  all_goals simp [*]
  all_goals first | omega | (rw [Bool.eq_iff_iff]; simp [*]; omega)

/-- a view as the program hands it on -/
def viewV (R C off rs cs : Int) : Value := .agg #[.int .i64 R, .int .i64 C, .int .i64 off, .int .i64 rs, .int .i64 cs]

theorem at_any (w : World) (R C off rs cs i j : Int) (h0 : -4611686018427387904 ≤ off ∧ off ≤ 4611686018427387903) (h1 : -1000000000 ≤ i * rs ∧ i * rs ≤ 1000000000) (h2 : -1000000000 ≤ j * cs ∧ j * cs ≤ 1000000000) :
    Calls Tryz.prog 65 #[viewV R C off rs cs, .int .i64 i, .int .i64 j] w fun e w' => e = .returned (.int .i64 (off + i * rs + j * cs)) ∧ w' = w.alloc (.cells #[.int .i64 R, .int .i64 C, .int .i64 off, .int .i64 rs, .int .i64 cs] 24) := by
  unfold viewV
  go_enter Tryz.func65, Tryz.ntmps65
  go_wp2
  go_ret
  exact ⟨rfl, rfl⟩

end Go.Proofs.YthdcceackfdbbaaGreatDoor
namespace Go.Proofs.YthdcceackfdbbaaGreatDoor
open Go Go.RowKit

theorem roundAny {m m' : Nat} {P : Program} {l : Nat} {f : FuncId} {tmps : Array Value} {assign body : Code} {w : World} {R : Ending → World → Prop}
    (h : RoundIn Fence.wide m P l f tmps assign body w R) : RoundIn Fence.wide m' P l f tmps assign body w R :=
  ⟨h.1, fun c cs _ => h.2 c cs (fun d hd => by cases hd)⟩

theorem yieldAny {m : Nat} (m' : Nat) {P : Program} {l : Nat} {args : Array Value} {W : World} {R : Ending → World → Prop}
    (h : YieldAt Fence.wide m P l args W R) : YieldAt Fence.wide m' P l args W R := by
  obtain ⟨fn, tmps, assign, body, hy, hR⟩ := h
  exact ⟨fn, tmps, assign, body, hy, roundAny hR⟩

theorem callAny {m : Nat} (m' : Nat) {P : Program} {f : FuncId} {args : Array Value} {W : World} {R : Ending → World → Prop}
    (h : CallsIn Fence.wide m P f args W R) : CallsIn Fence.wide m' P f args W R := callsIn_wide.2 (callsIn_wide.1 h)

/-- what an iterator may do to the world between two rounds: all cells, and all that lies below B, stay -/
structure Sim (B : Nat) (W W' : World) : Prop where
  os : W'.os = W.os
  tape : W'.tape = W.tape
  output : W'.output = W.output
  size : W.heap.size ≤ W'.heap.size
  block : ∀ k o, W.heap[k]? = some o → (k < B ∨ o.isCells = true) → W'.heap[k]? = some o

theorem Sim.refl (B : Nat) (W : World) : Sim B W W := ⟨rfl, rfl, rfl, Nat.le_refl _, fun _ _ h _ => h⟩
theorem Sim.trans {B : Nat} {X Y Z : World} (h : Sim B X Y) (k : Sim B Y Z) : Sim B X Z :=
  ⟨k.os.trans h.os, k.tape.trans h.tape, k.output.trans h.output, Nat.le_trans h.size k.size, fun i o hi ho => k.block i o (h.block i o hi ho) ho⟩
theorem Sim.down {B B' : Nat} {X Y : World} (h : Sim B' X Y) (hB : B ≤ B') : Sim B X Y :=
  ⟨h.os, h.tape, h.output, h.size, fun i o hi ho => h.block i o hi (ho.imp (fun h => Nat.lt_of_lt_of_le h hB) id)⟩
theorem Sim.below {B : Nat} {X Y : World} (h : Below X.heap.size X Y) : Sim B X Y :=
  ⟨h.os, h.tape, h.output, h.size, fun i _ hi _ => (h.block i (Array.getElem?_eq_some_iff.1 hi).1).trans hi⟩
theorem Sim.alloc (B : Nat) (W : World) (o : Obj) : Sim B W (W.alloc o) := Sim.below ((Below.refl _ W).alloc (Nat.le_refl _) o)
theorem Sim.drew (B : Nat) (W : World) : Sim B W W.drew := ⟨rfl, rfl, rfl, Nat.le_refl _, fun _ _ h _ => h⟩
theorem Sim.putObj {B : Nat} {W : World} {l : Nat} {o : Obj} (o' : Obj) (hB : B ≤ l) (hl : W.heap[l]? = some o) (ho : o.isCells = false) : Sim B W (W.putObj l o') :=
  ⟨rfl, rfl, rfl, by simp [World.putObj], fun k x hk hx => by
    have : k ≠ l := fun e => by subst e; rw [hl] at hk; cases hk; rcases hx with hx | hx; · omega
                                rw [ho] at hx; cases hx
    rw [World.putObj_heap_other this]; exact hk⟩
theorem Sim.cell {B : Nat} {W W' : World} (h : Sim B W W') {a : Addr} {v : Value} (hc : W.cell? a = some v) : W'.cell? a = some v := by
  obtain ⟨o, ho, hi⟩ := cells_of_cell hc
  have := h.block a.block o ho (.inr hi)
  unfold World.cell? at hc ⊢
  rw [ho] at hc; rw [this]; exact hc

def Stays {β : Type} (B : Nat) (I : β → World → Prop) : Prop := ∀ s W W', I s W → Sim B W W' → I s W'

theorem Stays.up {β : Type} {B B' : Nat} {I : β → World → Prop} (h : Stays B I) (hB : B ≤ B') : Stays B' I := fun s W W' hs hw => h s W W' hs (hw.down hB)

/-- neither a row of bytes nor one of places -/
def Firm (o : Obj) : Prop := ∀ c t fz, o = .cells c t fz → t ≠ 5 ∧ t ≠ 117

theorem Firm.bytes {o : Obj} (h : Firm o) (c : Array Value) (fz : Nat × Nat) : o ≠ .cells c 5 fz := fun e => (h c _ fz e).1 rfl

/-- what a round may do: all that lies from B on stays, the rows of bytes and of places aside -/
structure KeptFrom (B : Nat) (W W' : World) : Prop where
  size : W.heap.size ≤ W'.heap.size
  same : ∀ (k : Nat) (o : Obj), B ≤ k → W.heap[k]? = some o → Firm o → W'.heap[k]? = some o

theorem KeptFrom.refl (B : Nat) (W : World) : KeptFrom B W W := ⟨Nat.le_refl _, fun _ _ _ h _ => h⟩
theorem KeptFrom.trans {B : Nat} {X Y Z : World} (h : KeptFrom B X Y) (k : KeptFrom B Y Z) : KeptFrom B X Z :=
  ⟨Nat.le_trans h.size k.size, fun i o hB hi ho => k.same i o hB (h.same i o hB hi ho) ho⟩
theorem KeptFrom.up {B B' : Nat} {X Y : World} (h : KeptFrom B X Y) (hB : B ≤ B') : KeptFrom B' X Y := ⟨h.size, fun i o hi => h.same i o (Nat.le_trans hB hi)⟩
theorem KeptFrom.below {B : Nat} {X Y : World} (h : Below X.heap.size X Y) : KeptFrom B X Y :=
  ⟨h.size, fun i _ _ hi _ => (h.block i (Array.getElem?_eq_some_iff.1 hi).1).trans hi⟩
theorem KeptFrom.others {B b : Nat} {X Y : World} (h : Lib.OthersKept 5 (some b) X Y) (hs : X.heap.size ≤ Y.heap.size) (hb : b < B) : KeptFrom B X Y :=
  ⟨hs, fun i o hB hi ho => h i o hi (fun e => by cases e; omega) ho.bytes⟩
theorem KeptFrom.set {B b j : Nat} {X : World} (hb : b < B) (v : Value) : KeptFrom B X (X.setCell ⟨b, j, none⟩ v) :=
  ⟨by simp [World.setCell], fun i o hB hi _ => by rw [Below.heap_setCell _ _ _ _ (by simp; omega)]; exact hi⟩
theorem KeptFrom.cell {B : Nat} {W W' : World} (h : KeptFrom B W W') {b j : Nat} {t : TypeId} {c : Array Value} {v : Value} (hb : W.heap[b]? = some (.cells c t (0, 0))) (ht : t ≠ 5 ∧ t ≠ 117) (hB : B ≤ b)
    (hc : W.cell? ⟨b, j, none⟩ = some v) : W'.cell? ⟨b, j, none⟩ = some v := by
  have := h.same b _ hB hb (fun c' t' fz e => by cases e; exact ht)
  unfold World.cell? at hc ⊢
  simp only at hc ⊢
  rw [hb] at hc; rw [this]; exact hc

/-- an iterator that gives the list xs, one by one, while Mem holds -/
def Gives (P : Program) (g : Nat) (fst lb : Array Value) (xs : List (Array Value)) (Mem : Nat → World → Prop) : Prop :=
  ∀ (l : Nat) (J : Nat → World → Prop) (Jx : Unit → World → Prop) (W : World),
    (∀ k W1, J k W1 → Mem k W1) → Stays W.heap.size J → Stays W.heap.size Jx →
    (∀ k a W1, xs[k]? = some a → J k W1 → YieldAt Fence.wide 0 P l a W1 fun e W' =>
      (e = .returned (.bool true) ∧ J (k + 1) W' ∧ KeptFrom W.heap.size W1 W') ∨ (e = .returned (.bool false) ∧ Jx () W' ∧ KeptFrom W.heap.size W1 W')) →
    J 0 W →
    CallsIn Fence.wide 0 P g (fst ++ #[.func (.yield l) #[] #[]] ++ lb) W fun e W' =>
      (∃ v, e = .returned v) ∧ (J xs.length W' ∨ Jx () W')

theorem Gives.weaken {P : Program} {g : Nat} {fst lb : Array Value} {xs : List (Array Value)} {Mem Mem' : Nat → World → Prop} (h : Gives P g fst lb xs Mem) (hm : ∀ k W, Mem' k W → Mem k W) : Gives P g fst lb xs Mem' :=
  fun l J Jx W hM => h l J Jx W (fun k W1 hj => hm k W1 (hM k W1 hj))

/-- how a round of the body may end -/
def roundEnd (B : Nat) (I : Nat → World → Prop) (Ix : Code → World → Prop) (k : Nat) (W : World) : Exit → Act → World → Prop
  | .normal, _, W' => KeptFrom B W W' ∧ I k W'
  | .ret, _, W' => KeptFrom B W W' ∧ Ix .ret W'
  | .exit id, _, W' => KeptFrom B W W' ∧ Ix (.exit id) W'
  | .goto t, _, W' => KeptFrom B W W' ∧ Ix (.goto t) W'
  | .panic _, _, _ => False
  | .outgrown, _, _ => False

/-- a loop over such an iterator -/
theorem range_gives {P : Program} {g : Operand} {ps : Array Tmp} {assign body : Code} {Q : Exit → Act → World → Prop} {a : Act} {w : World} {n : Nat} (m : Nat)
    {gf : Nat} {fst lb : Array Value} (hg : a.eval g = .func (.func gf) fst lb) (eg : ∀ args w, (callFunc gf args).run P w = .ok (.enter gf args) w)
    {xs : List (Array Value)} {Mem : Nat → World → Prop} (hgv : Gives P gf fst lb xs Mem) (hps : ∀ x ∈ xs, x.size = ps.size)
    (I : Nat → World → Prop) (Ix : Code → World → Prop) (Ax : Array Value → Act → World → Prop) (hMem : ∀ k W, I k W → Mem k W)
    (hI : Stays w.heap.size I) (hIx : Stays w.heap.size Ix) (hAx : ∀ x, Stays w.heap.size (Ax x)) (h0 : I 0 w)
    (hassign : ∀ (l k : Nat) (x : Array Value) (W : World) (K : Act → World → Prop), xs[k]? = some x → I k W → (∀ a' W', KeptFrom w.heap.size W W' → I k W' → Ax x a' W' → K a' W') →
      assign.wpIn (Fence.wide.inRound l) m P (Exit.then K (fun _ _ _ => False)) { tmps := (ps.zip x).foldl (fun t (p, v) => t.setIfInBounds p v) a.tmps, defers := [] } W)
    (hbody : ∀ (l k : Nat) (x : Array Value) (a' : Act) (W : World), xs[k]? = some x → I k W → Ax x a' W → body.wpIn (Fence.wide.inRound l) m P (roundEnd w.heap.size I Ix (k + 1) W) a' W)
    (hdone : ∀ (D : Nat) (W : World), w.heap.size ≤ D → I xs.length W → W.heap[D]? = some (.deferred (some [])) → Q .normal { a with defers := { target := .collected D, args := #[] } :: a.defers } W)
    (hstop : ∀ (D : Nat) (c : Code) (W : World), w.heap.size ≤ D → Ix c W → W.heap[D]? = some (.deferred (some [])) → c.wpIn Fence.wide n P Q { a with defers := { target := .collected D, args := #[] } :: a.defers } W) :
    (Code.rangeFunc g ps assign body).wpIn Fence.wide n P Q a w := by
  refine wpIn_rangeFunc ?_
  intro fn hfn
  obtain ⟨d0, hd0⟩ : ∃ d0, w.heap.size = d0 := ⟨_, rfl⟩
  obtain ⟨rc, hrc⟩ : ∃ rc : LoopState → Option Code → Loop, rc = fun st pe => { state := st, pending := pe, fn, tmps := a.tmps, params := ps, assign, body, defers := d0 } := ⟨_, rfl⟩
  obtain ⟨W1, hW1⟩ : ∃ W1, (w.alloc (.deferred (some []))).alloc (.loop (rc .ready none)) = W1 := ⟨_, rfl⟩
  have hs1 : W1.heap.size = d0 + 2 := by rw [← hW1]; simp [hd0]
  have hL1 : W1.heap[d0 + 1]? = some (.loop (rc .ready none)) := by
    have := World.alloc_heap_new (w.alloc (.deferred (some []))) (.loop (rc .ready none)); rw [World.size_alloc, hd0, hW1] at this; exact this
  have hD1 : W1.heap[d0]? = some (.deferred (some [])) := by
    have h := World.alloc_heap_new w (.deferred (some [])); rw [hd0] at h
    rw [← hW1]; exact (Below.heap_alloc _ _ _ (by simp [hd0])).trans h
  have hen : (Instr.enterLoop fn a.tmps ps assign body Fence.wide.round).run P w = .ok (d0 + 1, [{ target := .collected d0, args := #[] }]) W1 := by
    rw [← hW1, hrc, ← hd0]; exact run_enterLoop_outer _ _ _ _ _
  rw [hd0] at hI hIx hAx hassign hbody hdone hstop
  refine ⟨d0 + 1, [{ target := .collected d0, args := #[] }], W1, { target := .fn (.func gf) lb, args := fst ++ #[.func (.yield (d0 + 1)) #[] #[]] }, W1, gf,
    fst ++ #[.func (.yield (d0 + 1)) #[] #[]] ++ lb, W1, hen, ?_, ?_, ?_, ?_, ?_⟩
  · simp only [resolve, hg]; simp [go_sem]
  · intro _ _; trivial
  · simp [invoke, go_sem, eg]
  · intro h; cases h
  refine callAny _ ((hgv (d0 + 1)
    (fun k W => I k W ∧ W.heap[d0 + 1]? = some (.loop (rc .ready none)) ∧ W.heap[d0]? = some (.deferred (some [])))
    (fun _ W => ∃ c, Ix c W ∧ W.heap[d0 + 1]? = some (.loop (rc .done (some c))) ∧ W.heap[d0]? = some (.deferred (some [])))
    W1 (fun k W h => hMem k W h.1) ?_ ?_ ?_ ⟨?_, hL1, hD1⟩).mono ?_)
  · intro k A B hs hw
    exact ⟨hI k A B hs.1 (hw.down (by omega)), hw.block _ _ hs.2.1 (.inl (by omega)), hw.block _ _ hs.2.2 (.inl (by omega))⟩
  · rintro k A B ⟨c, hc, hs1, hs2⟩ hw
    exact ⟨c, hIx c A B hc (hw.down (by omega)), hw.block _ _ hs1 (.inl (by omega)), hw.block _ _ hs2 (.inl (by omega))⟩
  · rintro k x W hx ⟨hi, hl, hdf⟩
    rw [hs1]
    have hy := run_yield (P := P) (args := x) hl (by rw [hrc]; exact hps x (List.mem_of_getElem? hx))
    rw [hrc] at hy
    refine yieldAny (m := m) 0 ⟨fn, _, assign, body, hy, roundIn_of_wpIn hfn (hassign _ k x W _ hx hi ?_)⟩
    clear hy
    intro a' Wa hka hia hax
    have hla := hka.same _ _ (by omega) hl (fun c t fz e => by cases e)
    have hda := hka.same _ _ (by omega) hdf (fun c t fz e => by cases e)
    have hlt : d0 + 1 < Wa.heap.size := (Array.getElem?_eq_some_iff.1 hla).1
    refine ⟨_, run_beginRound hla (by rw [hrc]), ?_⟩
    obtain ⟨Wb, hWb⟩ : ∃ Wb, Wa.putObj (d0 + 1) (.loop { rc .ready none with state := .busy }) = Wb := ⟨_, rfl⟩
    have hl2 : Wb.heap[d0 + 1]? = some (.loop { rc .ready none with state := .busy }) := by rw [← hWb]; exact World.putObj_heap_same hlt
    have hk2 : Wb.heap[d0]? = some (.deferred (some [])) := by rw [← hWb]; exact (World.putObj_heap_other (by omega)).trans hda
    have hsb : Sim d0 Wa Wb := by rw [← hWb]; exact Sim.putObj _ (by omega) hla rfl
    have hkb : KeptFrom (d0 + 2) Wa Wb := by
      rw [← hWb]; exact ⟨by simp [World.putObj], fun i o hB hi _ => by rw [World.putObj_heap_other (by omega)]; exact hi⟩
    rw [hWb]
    refine wpIn_mono (hbody _ k x a' Wb hx (hI _ _ _ hia hsb) (hAx _ _ _ _ hax hsb)) ?_
    have fin : ∀ (jump : Option Code) (W3 : World), KeptFrom d0 Wb W3 → ∃ W4,
        (Instr.endRound (d0 + 1) jump).run P W3 = .ok (.bool jump.isNone) W4 ∧ Sim d0 W3 W4 ∧ KeptFrom (d0 + 2) W W4 ∧
        W4.heap[d0 + 1]? = some (.loop (rc (if jump.isNone then .ready else .done) jump)) ∧
        W4.heap[d0]? = some (.deferred (some [])) := fun jump W3 hk3 => by
      have hl3 := hk3.same _ _ (by omega) hl2 (fun c t fz e => by cases e)
      have hr := run_endRound (P := P) jump hl3
      refine ⟨W3.putObj (d0 + 1) (.loop (rc (if jump.isNone then .ready else .done) jump)), ?_, Sim.putObj _ (by omega) hl3 rfl, ?_, World.putObj_heap_same (Array.getElem?_eq_some_iff.1 hl3).1,
        (World.putObj_heap_other (by omega)).trans (hk3.same _ _ (Nat.le_refl _) hk2 (fun c t fz e => by cases e))⟩
      · rw [hrc] at hr ⊢
        exact hr
      · refine ((hka.up (by omega)).trans (hkb.trans (hk3.up (by omega)))).trans ⟨by simp [World.putObj], fun i o hB hi _ => by rw [World.putObj_heap_other (by omega)]; exact hi⟩
    rintro e a3 W3 hp
    cases e with
    | normal =>
      obtain ⟨W4, hr, hs4, hkk, hl4, hk4⟩ := fin none W3 hp.1
      exact ⟨_, _, hr, .inl ⟨rfl, ⟨hI _ _ _ hp.2 hs4, hl4, hk4⟩, hkk⟩⟩
    | ret =>
      obtain ⟨W4, hr, hs4, hkk, hl4, hk4⟩ := fin (some .ret) W3 hp.1
      exact ⟨_, _, hr, .inr ⟨rfl, ⟨.ret, hIx _ _ _ hp.2 hs4, hl4, hk4⟩, hkk⟩⟩
    | exit id =>
      obtain ⟨W4, hr, hs4, hkk, hl4, hk4⟩ := fin (some (.exit id)) W3 hp.1
      exact ⟨_, _, hr, .inr ⟨rfl, ⟨.exit id, hIx _ _ _ hp.2 hs4, hl4, hk4⟩, hkk⟩⟩
    | goto t =>
      obtain ⟨W4, hr, hs4, hkk, hl4, hk4⟩ := fin (some (.goto t)) W3 hp.1
      exact ⟨_, _, hr, .inr ⟨rfl, ⟨.goto t, hIx _ _ _ hp.2 hs4, hl4, hk4⟩, hkk⟩⟩
    | panic ch => exact hp.elim
    | outgrown => exact hp.elim
  · rw [← hW1]; exact hI _ _ _ h0 ((Sim.alloc _ _ _).trans (Sim.alloc _ _ _))
  · rintro e W2 ⟨⟨v, rfl⟩, (⟨hi, hl, hk⟩ | ⟨c, hi, hl, hk⟩)⟩
    · exact ⟨none, _, by have := run_endLoop (P := P) hl (by rw [hrc]; simp); rw [hrc] at this; exact this, hdone _ _ (Nat.le_refl _) (hI _ _ _ hi (Sim.putObj _ (by omega) hl rfl)) ((World.putObj_heap_other (by omega)).trans hk)⟩
    · exact ⟨some c, _, by have := run_endLoop (P := P) hl (by rw [hrc]; simp); rw [hrc] at this; exact this, hstop _ c _ (Nat.le_refl _) (hIx _ _ _ hi (Sim.putObj _ (by omega) hl rfl)) ((World.putObj_heap_other (by omega)).trans hk)⟩

end Go.Proofs.YthdcceackfdbbaaGreatDoor
namespace Go.Proofs.YthdcceackfdbbaaGreatDoor
open Go Go.RowKit

/-- block g holds just these cells -/
def Arr (w : World) (g : Nat) (t : TypeId) (l : List Value) : Prop := w.heap[g]? = some (.cells l.toArray t (0, 0))

theorem Arr.lt {w : World} {g : Nat} {t : TypeId} {l : List Value} (h : Arr w g t l) : g < w.heap.size := (Array.getElem?_eq_some_iff.1 h).1
theorem Arr.cell {w : World} {g : Nat} {t : TypeId} {l : List Value} (h : Arr w g t l) {i : Nat} {v : Value} (hi : l[i]? = some v) : w.cell? ⟨g, i, none⟩ = some v := by
  simp [World.cell?, show w.heap[g]? = _ from h, hi]
theorem Arr.frozen {w : World} {g : Nat} {t : TypeId} {l : List Value} (h : Arr w g t l) (i : Nat) : w.frozen? ⟨g, i, none⟩ = false := by
  simp [World.frozen?, show w.heap[g]? = _ from h]
theorem Arr.new (w : World) (t : TypeId) (a : Array Value) : Arr (w.alloc (.cells a t)) w.heap.size t a.toList := by
  unfold Arr; rw [World.alloc_heap_new]
theorem Arr.newL (w : World) (t : TypeId) (l : List Value) : Arr (w.alloc (.cells l.toArray t)) w.heap.size t l := World.alloc_heap_new w _
theorem Arr.eq {w w' : World} {g : Nat} {t : TypeId} {l : List Value} (h : Arr w g t l) (e : w'.heap[g]? = w.heap[g]?) : Arr w' g t l := e.trans h
theorem Arr.alloc {w : World} {g : Nat} {t : TypeId} {l : List Value} (h : Arr w g t l) (o : Obj) : Arr (w.alloc o) g t l := h.eq (Below.heap_alloc _ _ _ h.lt)
theorem Arr.drewN {w : World} {g : Nat} {t : TypeId} {l : List Value} (h : Arr w g t l) (n : Nat) : Arr (w.drewN n) g t l := h
theorem Arr.drew {w : World} {g : Nat} {t : TypeId} {l : List Value} (h : Arr w g t l) : Arr w.drew g t l := h
theorem Arr.below {w w' : World} {B g : Nat} {t : TypeId} {l : List Value} (h : Arr w g t l) (b : Below B w w') (hg : g < B) : Arr w' g t l := h.eq (b.block g hg)
theorem Arr.belowAll {w w' : World} {g : Nat} {t : TypeId} {l : List Value} (h : Arr w g t l) (b : Below w.heap.size w w') : Arr w' g t l := h.below b h.lt
theorem Arr.other {w : World} {g : Nat} {t : TypeId} {l : List Value} (h : Arr w g t l) {g' i : Nat} (v : Value) (hne : g ≠ g') : Arr (w.setCell ⟨g', i, none⟩ v) g t l :=
  h.eq (Below.heap_setCell _ _ _ _ hne)
theorem Arr.sim {B : Nat} {w w' : World} {g : Nat} {t : TypeId} {l : List Value} (h : Arr w g t l) (s : Sim B w w') : Arr w' g t l := s.block g _ h (.inr rfl)
theorem Arr.kept {B : Nat} {w w' : World} {g : Nat} {t : TypeId} {l : List Value} (h : Arr w g t l) (k : KeptFrom B w w') (hB : B ≤ g) (ht : t ≠ 5 ∧ t ≠ 117) : Arr w' g t l :=
  k.same g _ hB h (fun c t' fz e => by cases e; exact ht)
theorem Arr.others {b : Option Nat} {w w' : World} {g : Nat} {t : TypeId} {l : List Value} (h : Arr w g t l) (k : Lib.OthersKept 5 b w w') (hne : some g ≠ b) (ht : t ≠ 5) : Arr w' g t l :=
  k g _ h hne (fun c fz e => by cases e; exact ht rfl)
theorem Arr.set {w : World} {g : Nat} {t : TypeId} {l : List Value} (h : Arr w g t l) (i : Nat) (v : Value) : Arr (w.setCell ⟨g, i, none⟩ v) g t (l.set i v) := by
  unfold Arr at h ⊢
  unfold World.setCell
  simp only [Array.getElem?_modify, h]
  simp

/-- several new blocks -/
def allocs (w : World) : List Obj → World
  | [] => w
  | o :: r => allocs (w.alloc o) r

theorem allocs_size (w : World) : ∀ os : List Obj, (allocs w os).heap.size = w.heap.size + os.length
  | [] => rfl
  | o :: r => by rw [allocs, allocs_size, World.size_alloc, List.length_cons]; omega

theorem allocs_below (w : World) : ∀ os : List Obj, Below w.heap.size w (allocs w os)
  | [] => Below.refl _ _
  | o :: r => ((Below.refl _ _).alloc (Nat.le_refl _) o).trans ((allocs_below (w.alloc o) r).mono (by simp))

theorem allocs_at : ∀ (os : List Obj) (w : World) (i : Nat) (o : Obj), os[i]? = some o → (allocs w os).heap[w.heap.size + i]? = some o
  | [], _, _, _, h => by simp at h
  | x :: r, w, 0, o, h => by
    simp at h; subst h
    exact ((allocs_below (w.alloc x) r).block _ (by simp)).trans (World.alloc_heap_new w x)
  | x :: r, w, i + 1, o, h => by
    have := allocs_at r (w.alloc x) i o (by simpa using h)
    rw [World.size_alloc] at this
    rw [allocs, show w.heap.size + (i + 1) = w.heap.size + 1 + i by omega]; exact this

theorem madeCells_one (z : Value) (hz : z.cells = #[z]) (n : Nat) : madeCells z.cells n = Array.replicate n z := by
  rw [hz]; unfold madeCells
  apply Array.ext
  · simp
  · intro i h1 h2; simp [Nat.mod_one]

theorem run_make1 {P : Program} (t e : TypeId) (i : TypeInfo) (z : Value) (ht : P.underlying t = some (.slice e)) (hi : P.info? e = some i) (hz : i.zero = some z) (hs : i.size = 1) (hzc : z.cells = #[z])
    (n : Nat) (hb : i.bytes * n ≤ 281474976710656) (hn : n ≤ 140737488355328) (w : World) :
    (Instr.makeSlice t (.int .i64 (n : Int)) (.int .i64 (n : Int))).run P w = .ok (.slice (some ⟨w.heap.size, 0, none⟩) n n) (w.alloc (.cells (Array.replicate n z) e)) := by
  have h := run_make (P := P) w t e i z ht hi hz .i64 .i64 (n : Int) (n : Int) (by omega) (by omega) (by rw [← Int.natCast_mul]; omega) (by omega)
  rw [Int.toNat_natCast, hs, Nat.mul_one, madeCells_one z hzc] at h
  exact h

theorem Arr.newR (w : World) (t : TypeId) (n : Nat) (z : Value) : Arr (w.alloc (.cells (Array.replicate n z) t)) w.heap.size t (List.replicate n z) := by
  have := Arr.new w t (Array.replicate n z)
  rw [Array.toList_replicate] at this; exact this

end Go.Proofs.YthdcceackfdbbaaGreatDoor
