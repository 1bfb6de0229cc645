import Derived.Test.YthdcceackfdbbaaGreatDoorM13K
import Derived.Deep.RegionHeld
namespace Go.Proofs.YthdcceackfdbbaaGreatDoor
open Go Go.RowKit Go.Shelf
attribute [local go_sem] Oper.semAt_some

/-- a nan is taken for the canonical one -/
def canon (x : Nat) : Nat := if 9218868437227405312 < x % 9223372036854775808 then 9221120237041090560 else x

theorem canon_lt {x : Nat} (h : x < 18446744073709551616) : canon x < 18446744073709551616 := by unfold canon; split <;> omega

def CanonOk : Prop := ∀ (w : World) (x : Nat), x < 18446744073709551616 → Calls Tryz.prog 102 #[.int .u64 (x : Int)] w fun e w' => e = .returned (.int .u64 (canon x : Int)) ∧ w' = w

def viewO (R C : Nat) (off rs cs : Int) : Obj := .cells #[.int .i64 (R : Int), .int .i64 (C : Int), .int .i64 off, .int .i64 rs, .int .i64 cs] 24

theorem places_rows (w : World) (R C g : Nat) :
    Calls Tryz.prog 63 #[matV R C g, .int .i64 4] w fun e w' => e = .returned (.func (.func 97) #[matV R C g] #[]) ∧ w' = w.alloc (matO R C g) :=
  places_any w 4 R C g (by omega)

/-- the boxes of Copy -/
structure CopyB (b bb n cap R C : Nat) (off rs cs : Int) (W : World) : Prop where
  buf : Arr W b 22 [.slice (some ⟨bb, 0, none⟩) n cap]
  view : Arr W (b + 1) 24 [.int .i64 (R : Int), .int .i64 (C : Int), .int .i64 off, .int .i64 rs, .int .i64 cs]
  res : Arr W (b + 2) 88 [.int .i64 0, .int .i64 0, .slice none 0 0]
  m : Arr W (b + 5) 88 [.int .i64 (R : Int), .int .i64 (C : Int), .slice (some ⟨b + 4, 0, none⟩) (R * C) (R * C)]

theorem CopyB.sim {B b bb n cap R C : Nat} {off rs cs : Int} {W W' : World} (h : CopyB b bb n cap R C off rs cs W) (s : Sim B W W') : CopyB b bb n cap R C off rs cs W' :=
  ⟨h.buf.sim s, h.view.sim s, h.res.sim s, h.m.sim s⟩
theorem CopyB.set {b bb n cap R C : Nat} {off rs cs : Int} {W : World} (h : CopyB b bb n cap R C off rs cs W) (q : Nat) (v : Value) : CopyB b bb n cap R C off rs cs (W.setCell ⟨b + 4, q, none⟩ v) :=
  ⟨h.buf.other _ (by omega), h.view.other _ (by omega), h.res.other _ (by omega), h.m.other _ (by omega)⟩

/-- the numbers so far -/
def CopyN (g R C : Nat) (F : Nat → Nat → Nat) (k : Nat) (W : World) : Prop :=
  ∃ l : List Value, Arr W g 65 l ∧ l.length = R * C ∧ (∀ i j, i < R → j < C → i * C + j < k → l[i * C + j]? = some (.int .u64 (F i j : Int))) ∧ (∀ q, k ≤ q → q < R * C → l[q]? = some (.int .u64 0))

set_option maxRecDepth 20000 in
set_option maxHeartbeats 4000000 in
theorem copy_any (hcan : CanonOk) (w : World) (R C : Nat) (off rs cs : Int) (bb n cap : Nat) (xs : List Nat) (hR : R ≤ 40) (hC : C ≤ 40) (hn : xs.length = n) (hfit : R = 0 ∨ C = 0 ∨ Fit R C off rs cs n) (hn1 : n ≤ 100000)
    (hbuf : ∀ (k x : Nat), xs[k]? = some x → x < 18446744073709551616 ∧ w.cell? ⟨bb, k, none⟩ = some (.int .u64 (x : Int))) (hbb : bb < w.heap.size) :
    Calls Tryz.prog 69 #[.slice (some ⟨bb, 0, none⟩) n cap, viewV R C off rs cs] w fun e w' => ∃ g, e = .returned (matV R C g) ∧ MemM C g R (fun i j => canon (xs.getD (off + i * rs + j * cs).toNat 0)) w' ∧ w.heap.size ≤ g ∧ Below w.heap.size w w' ∧ ∃ l, Arr w' g 65 l := by
  have hmix : Tryz.prog.follows .mixedOrders = true := by kernel_rfl
  refine callsIn_wide (n := 0) |>.1 ?_
  refine callsIn_of_wp_marks Tryz.func69 rfl trivial ?_ rfl
  simp only [Tryz.ntmps69, List.size_toArray, List.length_cons, List.length_nil, Nat.reduceAdd, Nat.reduceSub, Array.replicate_succ, Array.replicate_zero, List.push_toArray, List.append_toArray, List.nil_append, List.cons_append, viewV]
  have hdep : Fence.wide.depth = none := rfl
  have hf1 : Fence.wide.fn 100 := trivial
  have hf2 : Fence.wide.fn 63 := trivial
  obtain ⟨b, hb⟩ : ∃ b, w.heap.size = b := ⟨_, rfl⟩
  have HBUF := hid hbuf
  clear hbuf
  gi_wp2_with fail
  refine (callsIn_wide (n := 0).2 (mat_new _ R C hR hC)).mono ?_
  rintro e w1 ⟨rfl, rfl⟩
  unfold matO matV
  gi_wp2_with fail
  refine (callsIn_wide (n := 0).2 (places_rows _ R C (b + 1 + 1 + 1 + 1))).mono ?_
  rintro e w1 ⟨rfl, rfl⟩
  unfold matO matV
  gi_wp2_with fail
  obtain ⟨O, hO⟩ : ∃ O : List Obj, [.cells #[.slice (some ⟨bb, 0, none⟩) n cap] 22, .cells #[.int .i64 (R : Int), .int .i64 (C : Int), .int .i64 off, .int .i64 rs, .int .i64 cs] 24, .cells #[.int .i64 0, .int .i64 0, .slice none 0 0] 88,
    .cells #[.int .i64 (R : Int), .int .i64 (C : Int), .slice (some ⟨b + 1 + 1 + 1 + 1, 0, none⟩) (R * C) (R * C)] 88, .cells (Array.replicate (R * C) (.int .u64 0)) 65,
    .cells #[.int .i64 (R : Int), .int .i64 (C : Int), .slice (some ⟨b + 1 + 1 + 1 + 1, 0, none⟩) (R * C) (R * C)] 88, .cells #[.int .i64 (R : Int), .int .i64 (C : Int), .slice (some ⟨b + 1 + 1 + 1 + 1, 0, none⟩) (R * C) (R * C)] 88] = O := ⟨_, rfl⟩
  obtain ⟨W0, hW0⟩ : ∃ W0, allocs w O = W0 := ⟨_, rfl⟩
  have eW : (((((((w.alloc (.cells #[.slice (some ⟨bb, 0, none⟩) n cap] 22)).alloc (.cells #[.int .i64 (R : Int), .int .i64 (C : Int), .int .i64 off, .int .i64 rs, .int .i64 cs] 24)).alloc (.cells #[.int .i64 0, .int .i64 0, .slice none 0 0] 88)).alloc
    (.cells #[.int .i64 (R : Int), .int .i64 (C : Int), .slice (some ⟨b + 1 + 1 + 1 + 1, 0, none⟩) (R * C) (R * C)] 88)).alloc (.cells (Array.replicate (R * C) (.int .u64 0)) 65)).alloc
    (.cells #[.int .i64 (R : Int), .int .i64 (C : Int), .slice (some ⟨b + 1 + 1 + 1 + 1, 0, none⟩) (R * C) (R * C)] 88)).alloc (.cells #[.int .i64 (R : Int), .int .i64 (C : Int), .slice (some ⟨b + 1 + 1 + 1 + 1, 0, none⟩) (R * C) (R * C)] 88)) = W0 := by rw [← hW0, ← hO]; rfl
  have hs0 : W0.heap.size = b + 7 := by rw [← hW0, allocs_size, hb, ← hO]; rfl
  have hb0 : Below b w W0 := by rw [← hW0, ← hb]; exact allocs_below w O
  have hat : ∀ i o, O[i]? = some o → W0.heap[b + i]? = some o := fun i o h => by rw [← hW0, ← hb]; exact allocs_at O w i o h
  have hB0 : CopyB b bb n cap R C off rs cs W0 := ⟨hat 0 _ (by rw [← hO]; rfl), hat 1 _ (by rw [← hO]; rfl), hat 2 _ (by rw [← hO]; rfl), hat 5 _ (by rw [← hO]; rfl)⟩
  have hN0 : Arr W0 (b + 4) 65 (List.replicate (R * C) (.int .u64 0)) := by
    have := hat 4 _ (by rw [← hO]; rfl)
    unfold Arr; rw [List.toArray_replicate]; exact this
  rw [eW]
  clear eW hat
  obtain ⟨F, hF⟩ : ∃ F : Nat → Nat → Nat, (fun (i j : Nat) => canon (xs.getD (off + i * rs + j * cs).toNat 0)) = F := ⟨_, rfl⟩
  refine range_gives 0 (gf := 97) (fst := #[matV R C (b + 4)]) (lb := #[]) rfl (enters_of Tryz.func97 (by kernel_rfl) rfl) (rows_gives R C (b + 4) (fun _ _ => 0) hR hC) (by intro x hx; obtain ⟨y, _, rfl⟩ := List.mem_map.1 hx; rfl)
    (fun k W => CopyB b bb n cap R C off rs cs W ∧ CopyN (b + 4) R C F k W ∧ Below b w W ∧ b + 7 ≤ W.heap.size) (fun _ _ => False)
    (fun x a' W' => ∃ (y : Nat × Nat × Nat) (Bx : Nat), x = plcA y ∧ b + 7 ≤ Bx ∧ Arr W' Bx 117 [.int .i64 (y.1 : Int), .int .i64 (y.2.1 : Int)] ∧ a' = { tmps := #[.slice (some ⟨bb, 0, none⟩) n cap, .agg #[.int .i64 (R : Int), .int .i64 (C : Int), .int .i64 off, .int .i64 rs, .int .i64 cs], .pointer (some ⟨b, 0, none⟩), .pointer (some ⟨b + 1, 0, none⟩), .pointer (some ⟨b + 1 + 1, 0, none⟩), .pointer (some ⟨b + 1 + 1 + 1 + 1 + 1, 0, none⟩), .pointer (some ⟨Bx, 0, none⟩), .pointer (some ⟨b + 1, 0, none⟩), .int .i64 (R : Int), .pointer (some ⟨b + 1, 1, none⟩), .int .i64 (C : Int),
      .agg #[.int .i64 (R : Int), .int .i64 (C : Int), .slice (some ⟨b + 1 + 1 + 1 + 1, 0, none⟩) (R * C) (R * C)], .agg #[.int .i64 (R : Int), .int .i64 (C : Int), .slice (some ⟨b + 1 + 1 + 1 + 1, 0, none⟩) (R * C) (R * C)], .func (.func 97) #[.agg #[.int .i64 (R : Int), .int .i64 (C : Int), .slice (some ⟨b + 1 + 1 + 1 + 1, 0, none⟩) (R * C) (R * C)]] #[], plcV y.1 y.2.1, undef, undef, undef, undef, undef, undef, undef, undef, undef, undef, undef, undef, undef, undef], defers := [] })
    ?hMem ?hI ?hIx ?hAx ?h0 ?assign ?body ?done ?stop
  case hMem => exact fun _ _ _ => trivial
  case hI => exact fun k A B h s => ⟨h.1.sim s, by obtain ⟨l, h2, h3⟩ := h.2.1; exact ⟨l, h2.sim s, h3⟩, h.2.2.1.trans ⟨s.os, s.tape, s.output, s.size, fun q hq => by
      have hlt : q < A.heap.size := by have := h.1.m.lt; omega
      obtain ⟨o, ho⟩ : ∃ o, A.heap[q]? = some o := ⟨A.heap[q], by simp [hlt]⟩
      exact (s.block q o ho (.inl (by omega))).trans ho.symm⟩, Nat.le_trans h.2.2.2 s.size⟩
  case hIx => exact fun c A B h s => h
  case hAx => rintro x a' A B ⟨y, Bx, h1, h2, h3, h4⟩ s; exact ⟨y, Bx, h1, h2, h3.sim s, h4⟩
  case h0 => exact ⟨hB0, ⟨_, hN0, by simp, fun i j _ _ h => by omega, fun q _ hq => by rw [List.getElem?_replicate, if_pos hq]⟩, hb0, by omega⟩
  case assign =>
    intro l1 k x W1 K hx hi hK
    obtain ⟨y, hy, rfl⟩ : ∃ y, (rowsL R C (fun _ _ => 0))[k]? = some y ∧ plcA y = x := by rw [List.getElem?_map] at hx; cases h : (rowsL R C (fun _ _ => 0))[k]? with | none => rw [h] at hx; cases hx | some y => rw [h] at hx; exact ⟨y, rfl, Option.some.inj hx⟩
    have hlt := hi.2.2.2
    obtain ⟨l0, hl0⟩ := hi.2.1
    have HK : Hid _ := hid (hK { tmps := #[.slice (some ⟨bb, 0, none⟩) n cap, .agg #[.int .i64 (R : Int), .int .i64 (C : Int), .int .i64 off, .int .i64 rs, .int .i64 cs], .pointer (some ⟨b, 0, none⟩), .pointer (some ⟨b + 1, 0, none⟩), .pointer (some ⟨b + 1 + 1, 0, none⟩), .pointer (some ⟨b + 1 + 1 + 1 + 1 + 1, 0, none⟩), .pointer (some ⟨W1.heap.size, 0, none⟩), .pointer (some ⟨b + 1, 0, none⟩), .int .i64 (R : Int), .pointer (some ⟨b + 1, 1, none⟩), .int .i64 (C : Int),
      .agg #[.int .i64 (R : Int), .int .i64 (C : Int), .slice (some ⟨b + 1 + 1 + 1 + 1, 0, none⟩) (R * C) (R * C)], .agg #[.int .i64 (R : Int), .int .i64 (C : Int), .slice (some ⟨b + 1 + 1 + 1 + 1, 0, none⟩) (R * C) (R * C)], .func (.func 97) #[.agg #[.int .i64 (R : Int), .int .i64 (C : Int), .slice (some ⟨b + 1 + 1 + 1 + 1, 0, none⟩) (R * C) (R * C)]] #[], plcV y.1 y.2.1, undef, undef, undef, undef, undef, undef, undef, undef, undef, undef, undef, undef, undef, undef], defers := [] } (W1.alloc (plcO y.1 y.2.1))
      (KeptFrom.below (Below.refl' _ _)) ⟨hi.1.sim (Sim.alloc 0 _ _), ⟨l0, hl0.1.alloc _, hl0.2⟩, hi.2.2.1.alloc (by omega) _, by simp; omega⟩ ⟨y, W1.heap.size, rfl, hlt, Arr.newL _ _ _, rfl⟩)
    clear hK hi hx hy hl0 HBUF
    unfold plcA plcV
    unfold plcV plcO at HK
    gi_wp2
    exact HK.out
  case body =>
    rintro l1 k x a' W1 hx hi ⟨y, Bx, rfl, hBx, hb2, rfl⟩
    obtain ⟨y', hy, hye⟩ : ∃ y', (rowsL R C (fun _ _ => 0))[k]? = some y' ∧ plcA y' = plcA y := by rw [List.getElem?_map] at hx; cases h : (rowsL R C (fun _ _ => 0))[k]? with | none => rw [h] at hx; cases hx | some y' => rw [h] at hx; exact ⟨y', rfl, Option.some.inj hx⟩
    have hpe := plcA_inj hye
    have hkRC : k < R * C := by have := (List.getElem?_eq_some_iff.1 hy).1; rw [rowsL_len] at this; exact this
    obtain ⟨i, j, hi', hj', hk, rfl⟩ : ∃ i j, i < R ∧ j < C ∧ i * C + j = k ∧ y' = (i, j, 0) := by
      have hdm := div_mod_lt hkRC
      refine ⟨k / C, k % C, hdm.1, hdm.2, by rw [Nat.mul_comm]; exact Nat.div_add_mod k C, ?_⟩
      have := rowsL_at (fun _ _ => 0) hdm.1 hdm.2
      rw [show k / C * C + k % C = k by rw [Nat.mul_comm]; exact Nat.div_add_mod k C, hy] at this
      exact Option.some.inj this
    clear hx hye hy
    obtain ⟨y1, y2, y3⟩ := y
    simp only at hpe hb2 ⊢
    obtain ⟨rfl, rfl⟩ := hpe
    have hfit' : Fit R C off rs cs n := by rcases hfit with h | h | h; · omega
                                           · omega
                                           · exact h
    have hin := hfit'.1 i j hi' hj'
    have hst := fit_step (by omega) (by omega) hfit'
    obtain ⟨q, hq⟩ : ∃ q : Nat, off + i * rs + j * cs = (q : Int) := ⟨_, (Int.toNat_of_nonneg hin.1).symm⟩
    have hqn : q < n := by omega
    obtain ⟨X, hX⟩ : ∃ X, xs[q]? = some X := ⟨xs[q]'(by omega), by simp [hn, hqn]⟩
    have hXb := HBUF.out q X hX
    have hFX : F i j = canon X := by rw [← hF]; simp only; rw [hq, Int.toNat_natCast, List.getD_eq_getElem?_getD, hX]; rfl
    obtain ⟨hcb, ⟨l, hl1, hl2, hl3, hl4⟩, hbe, hsz⟩ := hi
    have hbel1 : Sim 0 W1 W1.drew := Sim.drew _ _
    have hS0 : CopyB b bb n cap R C off rs cs W1.drew ∧ Arr W1.drew Bx 117 [.int .i64 (i : Int), .int .i64 (j : Int)] ∧ W1.drew.cell? ⟨bb, q, none⟩ = some (.int .u64 (X : Int)) :=
      ⟨hcb.sim hbel1, hb2.sim hbel1, (hbe.cell (p := ⟨bb, q, none⟩) (by show bb < b; omega)).trans hXb.2⟩
    unfold plcV
    gi_wp2_with fail
    refine region_round l1 (fun W' => CopyB b bb n cap R C off rs cs W' ∧ Arr W' Bx 117 [.int .i64 (i : Int), .int .i64 (j : Int)] ∧ W'.cell? ⟨bb, q, none⟩ = some (.int .u64 (X : Int))) hmix (by kernel_rfl) (by rintro ⟨a, w, h⟩; exact h) ?_
    refine wpAnyH_take (i := 0) (v := .agg #[.int .i64 (R : Int), .int .i64 (C : Int), .slice (some ⟨b + 4, 0, none⟩) (R * C) (R * C)]) rfl (by kernel_rfl) (by kernel_rfl) (by kernel_rfl) (fun _ _ _ h => h) (Or.inl ⟨by rfl, fun W' hS => ?_⟩) hS0 ?_
    · have c0 := hS.1.m.cell (i := 0) rfl
      have c1 := hS.1.m.cell (i := 1) rfl
      have c2 := hS.1.m.cell (i := 2) rfl
      clear hS
      go_simp
    simp only [Act.put]
    refine wpAnyH_take (i := 1) (v := .agg #[.int .i64 (i : Int), .int .i64 (j : Int)]) rfl (by kernel_rfl) (by kernel_rfl) (by kernel_rfl) (fun _ _ _ h => h) (Or.inl ⟨by rfl, fun W' hS => ?_⟩) hS0 ?_
    · have c0 := hS.2.1.cell (i := 0) rfl
      have c1 := hS.2.1.cell (i := 1) rfl
      clear hS
      go_simp
    simp only [Act.put]
    refine wpAnyH_take (i := 2) (v := .slice (some ⟨bb, 0, none⟩) n cap) rfl (by kernel_rfl) (by kernel_rfl) (by kernel_rfl) (fun _ _ _ h => h) (Or.inl ⟨by rfl, fun W' hS => ?_⟩) hS0 ?_
    · have c0 := hS.1.buf.cell (i := 0) rfl
      clear hS
      go_simp
    simp only [Act.put]
    refine wpAnyH_take (i := 3) (v := .agg #[.int .i64 (R : Int), .int .i64 (C : Int), .int .i64 off, .int .i64 rs, .int .i64 cs]) rfl (by kernel_rfl) (by kernel_rfl) (by kernel_rfl) (fun _ _ _ h => h) (Or.inl ⟨by rfl, fun W' hS => ?_⟩) hS0 ?_
    · have c0 := hS.1.view.cell (i := 0) rfl
      have c1 := hS.1.view.cell (i := 1) rfl
      have c2 := hS.1.view.cell (i := 2) rfl
      have c3 := hS.1.view.cell (i := 3) rfl
      have c4 := hS.1.view.cell (i := 4) rfl
      clear hS
      go_simp
    simp only [Act.put]
    refine wpAnyH_take (i := 4) (v := .pointer (some ⟨Bx, 0, none⟩)) rfl (by kernel_rfl) (by kernel_rfl) (by kernel_rfl) (fun _ _ _ h => h) (Or.inl ⟨by rfl, fun W' hS => ?_⟩) hS0 ?_
    · clear hS
      go_simp
    simp only [Act.put]
    refine wpAnyH_take (i := 5) (v := .int .i64 (i : Int)) rfl (by kernel_rfl) (by kernel_rfl) (by kernel_rfl) (fun _ _ _ h => h) (Or.inl ⟨by rfl, fun W' hS => ?_⟩) hS0 ?_
    · have c0 := hS.2.1.cell (i := 0) rfl
      have c1 := hS.2.1.cell (i := 1) rfl
      clear hS
      go_simp
    simp only [Act.put]
    refine wpAnyH_take (i := 6) (v := .pointer (some ⟨Bx, 1, none⟩)) rfl (by kernel_rfl) (by kernel_rfl) (by kernel_rfl) (fun _ _ _ h => h) (Or.inl ⟨by rfl, fun W' hS => ?_⟩) hS0 ?_
    · clear hS
      go_simp
    simp only [Act.put]
    refine wpAnyH_take (i := 7) (v := .int .i64 (j : Int)) rfl (by kernel_rfl) (by kernel_rfl) (by kernel_rfl) (fun _ _ _ h => h) (Or.inl ⟨by rfl, fun W' hS => ?_⟩) hS0 ?_
    · have c0 := hS.2.1.cell (i := 0) rfl
      have c1 := hS.2.1.cell (i := 1) rfl
      clear hS
      go_simp
    simp only [Act.put]
    refine wpAnyH_ready (rs := [8]) (by kernel_rfl) (by simp) ?_
    refine AllReadyH.cons rfl (fun K hKK => ?_) AllReadyH.nil
    go_simp
    refine (at_any _ R C off rs cs i j (by omega) (prod_small (by omega) (by omega)) (prod_small (by omega) (by omega))).mono ?_
    rintro e w1 ⟨rfl, rfl⟩
    have hS1 : CopyB b bb n cap R C off rs cs (W1.drew.alloc (.cells #[.int .i64 (R : Int), .int .i64 (C : Int), .int .i64 off, .int .i64 rs, .int .i64 cs] 24)) ∧ Arr (W1.drew.alloc (.cells #[.int .i64 (R : Int), .int .i64 (C : Int), .int .i64 off, .int .i64 rs, .int .i64 cs] 24)) Bx 117 [.int .i64 (i : Int), .int .i64 (j : Int)] ∧ (W1.drew.alloc (.cells #[.int .i64 (R : Int), .int .i64 (C : Int), .int .i64 off, .int .i64 rs, .int .i64 cs] 24)).cell? ⟨bb, q, none⟩ = some (.int .u64 (X : Int)) :=
      ⟨hS0.1.sim (Sim.alloc 0 _ _), hS0.2.1.alloc _, (Sim.alloc 0 _ _).cell hS0.2.2⟩
    rw [hq]
    refine hKK.out _ _ hS1 (fun hHeld => ?_)
    clear hKK
    refine wpAnyH_take (i := 9) (v := .pointer (some ⟨bb, q, none⟩)) rfl (by kernel_rfl) (by kernel_rfl) (by kernel_rfl) (fun _ _ _ h => h) (Or.inl ⟨by rfl, fun W' hS => ?_⟩) hS1 ?_
    · have hqi : (q : Int) < n := by omega
      clear hS
      go_simp
    simp only [Act.put]
    refine wpAnyH_take (i := 10) (v := .int .u64 (X : Int)) rfl (by kernel_rfl) (by kernel_rfl) (by kernel_rfl) (fun _ _ _ h => h) (Or.inl ⟨by rfl, fun W' hS => ?_⟩) hS1 ?_
    · have c0 := hS.2.2
      clear hS
      go_simp
    simp only [Act.put]
    refine wpAnyH_ready (rs := [11]) (by kernel_rfl) (by simp) ?_
    refine AllReadyH.cons rfl (fun K hKK => ?_) AllReadyH.nil
    go_simp
    refine (hcan _ X hXb.1).mono ?_
    rintro e w1 ⟨rfl, rfl⟩
    refine hKK.out _ _ hS1 (fun hHeld => ?_)
    clear hKK
    refine wpAnyH_ready (rs := [12]) (by kernel_rfl) (by simp) ?_
    refine AllReadyH.cons rfl (fun K hKK => ?_) AllReadyH.nil
    go_simp
    refine (mat_set _ R C (b + 4) i j (canon X) l hR hC hi' hj' (hl1.drew.alloc _) hl2).mono ?_
    rintro e w1 ⟨⟨v, rfl⟩, rfl⟩
    obtain ⟨V1, hV1⟩ : ∃ V1, W1.drew.alloc (.cells #[.int .i64 (R : Int), .int .i64 (C : Int), .int .i64 off, .int .i64 rs, .int .i64 cs] 24) = V1 := ⟨_, rfl⟩
    have k1 : KeptFrom W0.heap.size W1 V1 := by rw [← hV1]; exact KeptFrom.below ((Below.refl _ W1).drew.alloc (Nat.le_refl _) _)
    have n1 : Arr V1 (b + 4) 65 l := by rw [← hV1]; exact hl1.drew.alloc _
    have e1 : Below b w V1 := by rw [← hV1]; exact hbe.drew.alloc (by show b ≤ W1.heap.size; omega) _
    have z1 : b + 7 ≤ V1.heap.size := Nat.le_trans hsz k1.size
    rw [hV1] at hS1 ⊢
    have hS2 : CopyB b bb n cap R C off rs cs (((V1.setCell ⟨b + 4, i * C + j, none⟩ (.int .u64 (canon X : Int))).alloc (matO R C (b + 4))).alloc (plcO i j)) ∧ Arr (((V1.setCell ⟨b + 4, i * C + j, none⟩ (.int .u64 (canon X : Int))).alloc (matO R C (b + 4))).alloc (plcO i j)) Bx 117 [.int .i64 (i : Int), .int .i64 (j : Int)] ∧
        (((V1.setCell ⟨b + 4, i * C + j, none⟩ (.int .u64 (canon X : Int))).alloc (matO R C (b + 4))).alloc (plcO i j)).cell? ⟨bb, q, none⟩ = some (.int .u64 (X : Int)) :=
      ⟨((hS1.1.set _ _).sim (Sim.alloc 0 _ _)).sim (Sim.alloc 0 _ _), ((hS1.2.1.other _ (by omega)).alloc _).alloc _,
        (Sim.alloc 0 _ _).cell ((Sim.alloc 0 _ _).cell ((World.cell?_setCell_far _ _ _ _ (by show b + 4 ≠ bb; omega)).trans hS1.2.2))⟩
    refine hKK.out _ _ hS2 (fun _ => wpAnyH_done (by kernel_rfl) ?_ _)
    refine ⟨k1.trans ((KeptFrom.set (by omega) _).trans ((KeptFrom.below (Below.refl' _ _)).trans (KeptFrom.below (Below.refl' _ _)))), hS2.1, ⟨l.set (i * C + j) (.int .u64 (canon X : Int)), ((n1.set _ _).alloc _).alloc _, by simp [hl2], ?_, ?_⟩, ?_, ?_⟩
    · intro i2 j2 h1 h2 h3
      rw [List.getElem?_set]
      by_cases e : i * C + j = i2 * C + j2
      · have hee := rowsL_at (fun _ _ => 0) h1 h2
        rw [← e, rowsL_at (fun _ _ => 0) hi' hj'] at hee
        have hpair := Option.some.inj hee
        simp only [Prod.mk.injEq, and_true] at hpair
        rw [if_pos e, if_pos (by rw [hl2, hk]; exact hkRC), ← hpair.1, ← hpair.2, hFX]
      · rw [if_neg e]; exact hl3 i2 j2 h1 h2 (by omega)
    · intro q2 h1 h2
      rw [List.getElem?_set, if_neg (by omega)]; exact hl4 q2 (by omega) h2
    · exact ((e1.setCell (p := ⟨b + 4, i * C + j, none⟩) (by show b ≤ b + 4; omega) _).alloc (by simp [World.setCell]; omega) _).alloc (by simp [World.setCell]; omega) _
    · simp [World.setCell]; omega
  case done =>
    intro D W1 hD hi hK
    have c0 := hi.1.m.cell (i := 0) rfl
    have c1 := hi.1.m.cell (i := 1) rfl
    have c2 := hi.1.m.cell (i := 2) rfl
    have d0 := hi.1.res.cell (i := 0) rfl
    have d1 := hi.1.res.cell (i := 1) rfl
    have d2 := hi.1.res.cell (i := 2) rfl
    have f0 := hi.1.res.frozen 0
    have f1 := hi.1.res.frozen 1
    have f2 := hi.1.res.frozen 2
    gi_wp2
    obtain ⟨W2, hW2⟩ : ∃ W2, ((W1.setCell ⟨b + 1 + 1, 0, none⟩ (.int .i64 (R : Int))).setCell ⟨b + 1 + 1, 1, none⟩ (.int .i64 (C : Int))).setCell ⟨b + 1 + 1, 2, none⟩ (.slice (some ⟨b + 4, 0, none⟩) (R * C) (R * C)) = W2 := ⟨_, rfl⟩
    have r2 : Arr W2 (b + 2) 88 [.int .i64 (R : Int), .int .i64 (C : Int), .slice (some ⟨b + 4, 0, none⟩) (R * C) (R * C)] := by rw [← hW2]; exact ((hi.1.res.set 0 _).set 1 _).set 2 _
    have hK2 : W2.heap[D]? = some (.deferred (some [])) := by
      rw [← hW2, Below.heap_setCell _ _ _ _ (by simp; omega), Below.heap_setCell _ _ _ _ (by simp; omega), Below.heap_setCell _ _ _ _ (by simp; omega)]; exact hK
    have b2 : Below b w W2 := by rw [← hW2]; exact ((hi.2.2.1.setCell (p := ⟨b + 1 + 1, 0, none⟩) (by simp; omega) _).setCell (p := ⟨b + 1 + 1, 1, none⟩) (by simp; omega) _).setCell (p := ⟨b + 1 + 1, 2, none⟩) (by simp; omega) _
    obtain ⟨l, hl1, hl2, hl3, hl4⟩ := hi.2.1
    have n2 : Arr W2 (b + 4) 65 l := by rw [← hW2]; exact ((hl1.other _ (by omega)).other _ (by omega)).other _ (by omega)
    rw [hW2]
    have s3 : Sim b W2 (W2.putObj D (.deferred none)) := Sim.putObj _ (by omega) hK2 rfl
    have r3 := r2.sim s3
    have n3 := n2.sim s3
    have b3 : Below b w (W2.putObj D (.deferred none)) := b2.trans ⟨rfl, rfl, rfl, by simp [World.putObj], fun q hq => World.putObj_heap_other (by omega)⟩
    have x0 := r3.cell (i := 0) rfl
    have x1 := r3.cell (i := 1) rfl
    have x2 := r3.cell (i := 2) rfl
    refine ⟨by simp, .inl ⟨_, _, rfl, run_takeDeferred hK2, ?_⟩⟩
    refine ⟨matV R C (b + 4), by simp [results, Tryz.results69, go_sem, matV, x0, x1, x2], b + 4, rfl, ⟨n3.lt, fun i j h1 h2 => ?_⟩, by omega, by rw [hb]; exact b3, l, n3⟩
    rw [hF]
    exact n3.cell (hl3 i j h1 h2 (by rw [List.length_map, rowsL_len]; exact idx_lt h1 h2))
  case stop => exact fun _ _ _ _ h => h.elim

end Go.Proofs.YthdcceackfdbbaaGreatDoor
namespace Go.Proofs.YthdcceackfdbbaaGreatDoor
open Go Go.RowKit Go.Shelf
attribute [local go_sem] Oper.semAt_some

/-- the same with rows and columns exchanged -/
def SymM (R : Nat) (f : Nat → Nat → Nat) : Prop := ∀ i j, i < R → j < R → j ≤ i → f j i = f i j

theorem MemM.below {W W' : World} {B R C g : Nat} {f : Nat → Nat → Nat} (h : MemM C g R f W) (b : Below B W W') (hg : g < B) : MemM C g R f W' :=
  ⟨Nat.lt_of_lt_of_le h.1 b.size, fun i j hi hj => (b.cell (p := ⟨g, i * C + j, none⟩) hg).trans (h.2 i j hi hj)⟩

theorem Below.ofSim {b B : Nat} {W W' : World} (s : Sim B W W') (hb : b ≤ B) (hs : b ≤ W.heap.size) : Below b W W' :=
  ⟨s.os, s.tape, s.output, s.size, fun q hq => by
    obtain ⟨o, ho⟩ : ∃ o, W.heap[q]? = some o := ⟨W.heap[q]'(by omega), by simp⟩
    exact (s.block q o ho (.inl (by omega))).trans ho.symm⟩

set_option maxRecDepth 20000 in
set_option maxHeartbeats 4000000 in
theorem sym_any (w : World) (R g : Nat) (f : Nat → Nat → Nat) (hR : R ≤ 40) (hm : MemM R g R f w) (hf : ∀ i j, f i j < 18446744073709551616) :
    Calls Tryz.prog 70 #[matV R R g] w fun e w' => BoolOk (SymM R f) e ∧ Below w.heap.size w w' := by
  have hmix : Tryz.prog.follows .mixedOrders = true := by kernel_rfl
  have hmf : ∀ (fn : Fn) (first cap : Array Value) (w : World), (Instr.makeFunc fn first cap).run Tryz.prog w = .ok (.func fn first cap) w := fun _ _ _ _ => rfl
  obtain ⟨b, hb⟩ : ∃ b, w.heap.size = b := ⟨_, rfl⟩
  have hgb : g < b := by have := hm.1; omega
  have HF := hid hf
  have HM := hid hm
  clear hf hm
  refine callsIn_wide (n := 0) |>.1 ?_
  refine callsIn_of_wp_marks Tryz.func70 rfl trivial ?_ rfl
  simp only [Tryz.ntmps70, List.size_toArray, List.length_cons, List.length_nil, Nat.reduceAdd, Nat.reduceSub, Array.replicate_succ, Array.replicate_zero, List.push_toArray, List.append_toArray, List.nil_append, List.cons_append, matV]
  have hdep : Fence.wide.depth = none := rfl
  gi_wp2_with fail
  obtain ⟨O, hO⟩ : ∃ O : List Obj, [.cells #[.int .i64 (R : Int), .int .i64 (R : Int), .slice (some ⟨g, 0, none⟩) (R * R) (R * R)] 88, .cells #[.bool false] 4] = O := ⟨_, rfl⟩
  obtain ⟨W0, hW0⟩ : ∃ W0, allocs w O = W0 := ⟨_, rfl⟩
  have eW : (w.alloc (.cells #[.int .i64 (R : Int), .int .i64 (R : Int), .slice (some ⟨g, 0, none⟩) (R * R) (R * R)] 88)).alloc (.cells #[.bool false] 4) = W0 := by rw [← hW0, ← hO]; rfl
  have hs0 : W0.heap.size = b + 2 := by rw [← hW0, allocs_size, hb, ← hO]; rfl
  have hb0 : Below b w W0 := by rw [← hW0, ← hb]; exact allocs_below w O
  have hat : ∀ i o, O[i]? = some o → W0.heap[b + i]? = some o := fun i o h => by rw [← hW0, ← hb]; exact allocs_at O w i o h
  have a0 : Arr W0 b 88 [.int .i64 (R : Int), .int .i64 (R : Int), .slice (some ⟨g, 0, none⟩) (R * R) (R * R)] := hat 0 _ (by rw [← hO]; rfl)
  have a1 : Arr W0 (b + 1) 4 [.bool false] := hat 1 _ (by rw [← hO]; rfl)
  rw [eW]
  clear eW hat
  refine range_gives 0 (gf := 98) (fst := #[matV R R g]) (lb := #[]) rfl (enters_of Tryz.func98 (by kernel_rfl) rfl) (lower_gives R R g f hR hR) (by intro x hx; obtain ⟨y, _, rfl⟩ := List.mem_map.1 hx; rfl)
    (fun k W => Arr W b 88 [.int .i64 (R : Int), .int .i64 (R : Int), .slice (some ⟨g, 0, none⟩) (R * R) (R * R)] ∧ Arr W (b + 1) 4 [.bool false] ∧ Below b w W ∧ b + 2 ≤ W.heap.size ∧
      ∀ q y, q < k → ((colsL R R f).filter (fun x => decide (x.2.1 ≤ x.1)))[q]? = some y → f y.2.1 y.1 = f y.1 y.2.1)
    (fun c W => c = .ret ∧ Arr W (b + 1) 4 [.bool false] ∧ Below b w W ∧ ¬ SymM R f)
    (fun x a' W' => ∃ (y : Nat × Nat × Nat) (Bx : Nat), x = plcA y ∧ b + 2 ≤ Bx ∧ Arr W' Bx 117 [.int .i64 (y.1 : Int), .int .i64 (y.2.1 : Int)] ∧ a' = { tmps := #[.agg #[.int .i64 (R : Int), .int .i64 (R : Int), .slice (some ⟨g, 0, none⟩) (R * R) (R * R)], .pointer (some ⟨b, 0, none⟩), .pointer (some ⟨b + 1, 0, none⟩), .pointer (some ⟨Bx, 0, none⟩), .agg #[.int .i64 (R : Int), .int .i64 (R : Int), .slice (some ⟨g, 0, none⟩) (R * R) (R * R)], .func (.func 98) #[.agg #[.int .i64 (R : Int), .int .i64 (R : Int), .slice (some ⟨g, 0, none⟩) (R * R) (R * R)]] #[], plcV y.1 y.2.1, undef, undef, undef, undef, undef, undef, undef, undef], defers := [] })
    ?hMem ?hI ?hIx ?hAx ?h0 ?assign ?body ?done ?stop
  case hMem => exact fun _ _ _ => trivial
  case hI => exact fun k A B h s => ⟨h.1.sim s, h.2.1.sim s, h.2.2.1.trans (Below.ofSim s (by omega) (by omega)), Nat.le_trans h.2.2.2.1 s.size, h.2.2.2.2⟩
  case hIx => exact fun c A B h s => ⟨h.1, h.2.1.sim s, h.2.2.1.trans (Below.ofSim s (by omega) (by have := h.2.1.lt; omega)), h.2.2.2⟩
  case hAx => rintro x a' A B ⟨y, Bx, h1, h2, h3, h4⟩ s; exact ⟨y, Bx, h1, h2, h3.sim s, h4⟩
  case h0 => exact ⟨a0, a1, hb0, by omega, fun q y h => by omega⟩
  case assign =>
    intro l1 k x W1 K hx hi hK
    obtain ⟨y, hy, rfl⟩ := map_get hx
    have hlt := hi.2.2.2.1
    have HK : Hid _ := hid (hK { tmps := #[.agg #[.int .i64 (R : Int), .int .i64 (R : Int), .slice (some ⟨g, 0, none⟩) (R * R) (R * R)], .pointer (some ⟨b, 0, none⟩), .pointer (some ⟨b + 1, 0, none⟩), .pointer (some ⟨W1.heap.size, 0, none⟩), .agg #[.int .i64 (R : Int), .int .i64 (R : Int), .slice (some ⟨g, 0, none⟩) (R * R) (R * R)], .func (.func 98) #[.agg #[.int .i64 (R : Int), .int .i64 (R : Int), .slice (some ⟨g, 0, none⟩) (R * R) (R * R)]] #[], plcV y.1 y.2.1, undef, undef, undef, undef, undef, undef, undef, undef], defers := [] } (W1.alloc (plcO y.1 y.2.1))
      (KeptFrom.below (Below.refl' _ _)) ⟨hi.1.alloc _, hi.2.1.alloc _, hi.2.2.1.alloc (by omega) _, by simp; omega, hi.2.2.2.2⟩ ⟨y, W1.heap.size, rfl, hlt, Arr.newL _ _ _, rfl⟩)
    clear hK hi hx hy
    unfold plcA plcV
    unfold plcV plcO at HK
    gi_wp2
    exact HK.out
  case body =>
    rintro l1 k x a' W1 hx hi ⟨y, Bx, rfl, hBx, hb2, rfl⟩
    obtain ⟨y', hy, hye⟩ := map_get hx
    have hpe := plcA_inj hye
    have hmem := List.mem_filter.1 (List.mem_of_getElem? hy)
    have hyb := colsL_mem hmem.1
    have hle : y'.2.1 ≤ y'.1 := by simpa using hmem.2
    obtain ⟨i, j, z⟩ := y'
    obtain ⟨y1, y2, y3⟩ := y
    simp only at hyb hle hpe hb2 ⊢
    obtain ⟨rfl, rfl⟩ := hpe
    obtain ⟨hi1, hj1, rfl⟩ := hyb
    clear hx hye hmem
    obtain ⟨c0, c1, c2, c3, c4⟩ := hi
    obtain ⟨S, hSd⟩ : ∃ S : World → Prop, (fun W' => Arr W' b 88 [.int .i64 (R : Int), .int .i64 (R : Int), .slice (some ⟨g, 0, none⟩) (R * R) (R * R)] ∧ Arr W' Bx 117 [.int .i64 (i : Int), .int .i64 (j : Int)] ∧ MemM R g R f W' ∧ Below W1.heap.size W1 W') = S := ⟨_, rfl⟩
    have hSo : ∀ W', S W' → Arr W' b 88 [.int .i64 (R : Int), .int .i64 (R : Int), .slice (some ⟨g, 0, none⟩) (R * R) (R * R)] ∧ Arr W' Bx 117 [.int .i64 (i : Int), .int .i64 (j : Int)] ∧ MemM R g R f W' ∧ Below W1.heap.size W1 W' := fun W' h => by rw [← hSd] at h; exact h
    have hst : ∀ W' o o', S W' → S ((W'.alloc o).alloc o') := fun W' o o' h => by
      rw [← hSd] at h ⊢
      exact ⟨(h.1.alloc _).alloc _, (h.2.1.alloc _).alloc _, h.2.2.1.sim ((Sim.alloc 0 _ _).trans (Sim.alloc 0 _ _)), (h.2.2.2.alloc h.2.2.2.size _).alloc (Nat.le_trans h.2.2.2.size (by simp)) _⟩
    have hS0 : S W1.drew := by
      rw [← hSd]
      exact ⟨c0.drew, hb2.drew, (HM.out.below (hb ▸ c2) (by omega)).sim (Sim.drew 0 _), (Below.refl _ W1).drew⟩
    clear hSd
    have HSO := hid hSo
    have HST := hid hst
    clear hSo hst
    obtain ⟨dv, hdv⟩ : ∃ dv, ((f i j : Int) != (f j i : Int)) = dv := ⟨_, rfl⟩
    have HDV := hid hdv
    clear hdv
    unfold plcV
    gi_wp2_with fail
    refine region_round l1 S hmix (by kernel_rfl) (by rintro ⟨a, w, h⟩; exact h) ?_
    refine wpAnyH_take (i := 0) (v := .agg #[.int .i64 (R : Int), .int .i64 (R : Int), .slice (some ⟨g, 0, none⟩) (R * R) (R * R)]) rfl (by kernel_rfl) (by kernel_rfl) (by kernel_rfl) (fun _ _ _ h => h) (Or.inl ⟨by rfl, fun W' hS => ?_⟩) hS0 ?_
    · have hSS := HSO.out _ hS
      have q0 := hSS.1.cell (i := 0) rfl
      have q1 := hSS.1.cell (i := 1) rfl
      have q2 := hSS.1.cell (i := 2) rfl
      clear hS hSS
      go_simp
    simp only [Act.put]
    refine wpAnyH_take (i := 1) (v := .agg #[.int .i64 (i : Int), .int .i64 (j : Int)]) rfl (by kernel_rfl) (by kernel_rfl) (by kernel_rfl) (fun _ _ _ h => h) (Or.inl ⟨by rfl, fun W' hS => ?_⟩) hS0 ?_
    · have hSS := HSO.out _ hS
      have q0 := hSS.2.1.cell (i := 0) rfl
      have q1 := hSS.2.1.cell (i := 1) rfl
      clear hS hSS
      go_simp
    simp only [Act.put]
    refine wpAnyH_take (i := 3) (v := .agg #[.int .i64 (R : Int), .int .i64 (R : Int), .slice (some ⟨g, 0, none⟩) (R * R) (R * R)]) rfl (by kernel_rfl) (by kernel_rfl) (by kernel_rfl) (fun _ _ _ h => h) (Or.inl ⟨by rfl, fun W' hS => ?_⟩) hS0 ?_
    · have hSS := HSO.out _ hS
      have q0 := hSS.1.cell (i := 0) rfl
      have q1 := hSS.1.cell (i := 1) rfl
      have q2 := hSS.1.cell (i := 2) rfl
      clear hS hSS
      go_simp
    simp only [Act.put]
    refine wpAnyH_take (i := 4) (v := .agg #[.int .i64 (i : Int), .int .i64 (j : Int)]) rfl (by kernel_rfl) (by kernel_rfl) (by kernel_rfl) (fun _ _ _ h => h) (Or.inl ⟨by rfl, fun W' hS => ?_⟩) hS0 ?_
    · have hSS := HSO.out _ hS
      have q0 := hSS.2.1.cell (i := 0) rfl
      have q1 := hSS.2.1.cell (i := 1) rfl
      clear hS hSS
      go_simp
    simp only [Act.put]
    have HS := hS0
    clear hS0
    refine wpAnyH_ready (rs := [2]) (by kernel_rfl) (by simp) ?_
    refine AllReadyH.cons rfl (fun K hKK => ?_) ?_
    · go_simp
      refine (mat_at _ R R g i j (f i j) hR hR hi1 hj1 ((HSO.out _ HS).2.2.1.2 i j hi1 hj1) (HSO.out _ HS).2.2.1.1).mono ?_
      rintro e w1 ⟨rfl, rfl⟩
      have HS' := HST.out _ (matO R R g) (plcO i j) HS
      refine hKK.out _ _ HS' (fun hHeld => ?_)
      clear hKK HS hHeld
      have HS := HS'
      clear HS'
      refine wpAnyH_ready (rs := [5]) (by kernel_rfl) (by simp) ?_
      refine AllReadyH.cons rfl (fun K hKK => ?_) ?_
      · go_simp
        refine (mirrored_any _ i j).mono ?_
        rintro e w1 ⟨rfl, rfl⟩
        have HS' := HST.out _ (plcO i j) (plcO j i) HS
        refine hKK.out _ _ HS' (fun hHeld => ?_)
        clear hKK HS hHeld
        have HS := HS'
        clear HS'
        unfold plcV
        refine wpAnyH_ready (rs := [6]) (by kernel_rfl) (by simp) ?_
        refine AllReadyH.cons rfl (fun K hKK => ?_) ?_
        · go_simp
          refine (mat_at _ R R g j i (f j i) hR hR hj1 hi1 ((HSO.out _ HS).2.2.1.2 j i hj1 hi1) (HSO.out _ HS).2.2.1.1).mono ?_
          rintro e w1 ⟨rfl, rfl⟩
          have HS' := HST.out _ (matO R R g) (plcO j i) HS
          refine hKK.out _ _ HS' (fun hHeld => ?_)
          clear hKK HS hHeld
          have HS := HS'
          clear HS'
          refine wpAnyH_take (i := 7) (v := .bool dv) rfl (by kernel_rfl) (by kernel_rfl) (by kernel_rfl) (fun _ _ _ h => h) (Or.inl ⟨by rfl, fun W' hS => ?_⟩) HS ?_
          · have hdv' := HDV.out
            clear hS
            go_simp
          simp only [Act.put]
          refine wpAnyH_done (by kernel_rfl) ?_ _
          have hbel := (HSO.out _ HS).2.2.2
          have hA0 := (HSO.out _ HS).1
          generalize World.alloc _ _ = W2 at *
          have r1 : Arr W2 (b + 1) 4 [.bool false] := c1.belowAll hbel
          have r0 : Arr W2 b 88 [.int .i64 (R : Int), .int .i64 (R : Int), .slice (some ⟨g, 0, none⟩) (R * R) (R * R)] := hA0
          have e2 : Below b w W2 := c2.trans (hbel.mono (by omega))
          have x1 := r1.cell (i := 0) rfl
          have x2 := r1.frozen 0
          have k2 : KeptFrom W0.heap.size W1 W2 := KeptFrom.below hbel
          have hsz2 := hbel.size

          cases dv with
          | false =>
            have hfe : f j i = f i j := by have := HDV.out; simp at this; omega
            gi_wp2
            refine ⟨k2, r0, r1, e2, by omega, fun q y hq h => ?_⟩
            by_cases hqk : q = k
            · subst hqk; rw [hy] at h; cases h; exact hfe
            · exact c4 q y (by omega) h
          | true =>
            have hfe : ¬ f j i = f i j := by have := HDV.out; simp at this; omega
            gi_wp2
            refine ⟨k2.trans (KeptFrom.set (by omega) _), rfl, r1.set 0 _, e2.setCell (p := ⟨b + 1, 0, none⟩) (by show b ≤ b + 1; omega) _, fun h => hfe (h i j hi1 hj1 hle)⟩

        exact AllReadyH.nil

      exact AllReadyH.nil

    exact AllReadyH.nil
  case done =>
    intro D W1 hD hi hK
    have hsym : SymM R f := fun i j h1 h2 h3 => by
      have hin : (i, j, f i j) ∈ (colsL R R f).filter (fun x => decide (x.2.1 ≤ x.1)) := List.mem_filter.2 ⟨colsL_in f h1 h2, by simpa using h3⟩
      obtain ⟨q, hq, he⟩ := List.getElem_of_mem hin
      exact hi.2.2.2.2 q (i, j, f i j) (by rw [List.length_map]; exact hq) (by rw [← he]; simp [hq])
    have HSY := hid hsym
    clear hsym
    have x1 := hi.2.1.cell (i := 0) rfl
    have x2 := hi.2.1.frozen 0
    gi_wp2
    have r2 : Arr (W1.setCell ⟨b + 1, 0, none⟩ (.bool true)) (b + 1) 4 [.bool true] := hi.2.1.set 0 _
    have hK2 : (W1.setCell ⟨b + 1, 0, none⟩ (.bool true)).heap[D]? = some (.deferred (some [])) := by rw [Below.heap_setCell _ _ _ _ (by simp; omega)]; exact hK
    have b2 : Below b w (W1.setCell ⟨b + 1, 0, none⟩ (.bool true)) := hi.2.2.1.setCell (p := ⟨b + 1, 0, none⟩) (by show b ≤ b + 1; omega) _
    generalize W1.setCell ⟨b + 1, 0, none⟩ (.bool true) = W2 at *
    have r3 := r2.sim (Sim.putObj (B := b) (.deferred none) (by omega) hK2 rfl)
    have b3 : Below b w (W2.putObj D (.deferred none)) := b2.trans ⟨rfl, rfl, rfl, by simp [World.putObj], fun q hq => World.putObj_heap_other (by omega)⟩
    have y1 := r3.cell (i := 0) rfl
    refine ⟨by simp, .inl ⟨_, _, rfl, run_takeDeferred hK2, ?_⟩⟩
    exact ⟨.bool true, by simp [results, Tryz.results70, go_sem, y1], boolOk_t HSY.out, by rw [hb]; exact b3⟩
  case stop =>
    rintro D c W2 hD ⟨rfl, r2, b2, hns⟩ hK2
    gi_wp2
    have r3 := r2.sim (Sim.putObj (B := b) (.deferred none) (by omega) hK2 rfl)
    have b3 : Below b w (W2.putObj D (.deferred none)) := b2.trans ⟨rfl, rfl, rfl, by simp [World.putObj], fun q hq => World.putObj_heap_other (by omega)⟩
    have y1 := r3.cell (i := 0) rfl
    refine ⟨by simp, .inl ⟨_, _, rfl, run_takeDeferred hK2, ?_⟩⟩
    exact ⟨.bool false, by simp [results, Tryz.results70, go_sem, y1], boolOk_f hns, by rw [hb]; exact b3⟩

end Go.Proofs.YthdcceackfdbbaaGreatDoor
