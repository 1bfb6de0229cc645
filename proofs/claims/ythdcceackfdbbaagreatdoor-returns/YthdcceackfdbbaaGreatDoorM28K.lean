import Derived.Test.YthdcceackfdbbaaGreatDoorM14K
import Derived.Test.YthdcceackfdbbaaGreatDoorM18K
import Derived.Test.YthdcceackfdbbaaGreatDoorFeQ
import Derived.Test.YthdcceackfdbbaaGreatDoorM17K
import Derived.Test.YthdcceackfdbbaaGreatDoorM09K
import Derived.Deep.QuietTactic
namespace Go.Proofs.YthdcceackfdbbaaGreatDoor
open Go Go.RowKit Go.Shelf
attribute [local go_sem] Oper.semAt_some

/-- a number written into a buffer -/
def putStep (off rs cs : Int) (l : List Value) (x : Nat × Nat × Nat) : List Value := l.set (off + x.1 * rs + x.2.1 * cs).toNat (.int .u64 (x.2.2 : Int))
/-- a buffer into which a matrix is written -/
def putL (R C : Nat) (off rs cs : Int) (f : Nat → Nat → Nat) (l : List Value) : List Value := (rowsL R C f).foldl (putStep off rs cs) l

/-- the boxes of Put -/
structure PutB (b bb n cap g R C : Nat) (off rs cs : Int) (W : World) : Prop where
  buf : Arr W b 22 [.slice (some ⟨bb, 0, none⟩) n cap]
  view : Arr W (b + 1) 24 [.int .i64 (R : Int), .int .i64 (C : Int), .int .i64 off, .int .i64 rs, .int .i64 cs]
  m : Arr W (b + 2) 88 [.int .i64 (R : Int), .int .i64 (C : Int), .slice (some ⟨g, 0, none⟩) (R * C) (R * C)]

theorem PutB.sim {B b bb n cap g R C : Nat} {off rs cs : Int} {W W' : World} (h : PutB b bb n cap g R C off rs cs W) (s : Sim B W W') : PutB b bb n cap g R C off rs cs W' := ⟨h.buf.sim s, h.view.sim s, h.m.sim s⟩
theorem PutB.set {b bb n cap g R C : Nat} {off rs cs : Int} {W : World} (h : PutB b bb n cap g R C off rs cs W) (hb : bb < b) (q : Nat) (v : Value) : PutB b bb n cap g R C off rs cs (W.setCell ⟨bb, q, none⟩ v) :=
  ⟨h.buf.other _ (by omega), h.view.other _ (by omega), h.m.other _ (by omega)⟩

theorem putFold_len (off rs cs : Int) (xs : List (Nat × Nat × Nat)) : ∀ l : List Value, (xs.foldl (putStep off rs cs) l).length = l.length := by
  induction xs with
  | nil => intro l; rfl
  | cons x r ih => intro l; rw [List.foldl_cons, ih]; simp [putStep]

theorem Kept.simB {S : Nat → Prop} {B : Nat} {w W W' : World} (h : Kept S w W) (s : Sim B W W') (hB : w.heap.size ≤ B) : Kept S w W' :=
  ⟨s.os.trans h.os, s.tape.trans h.tape, s.output.trans h.output, Nat.le_trans h.size s.size, fun k hk hs => by
    have h1 := h.block k hk hs
    obtain ⟨o, ho⟩ : ∃ o, w.heap[k]? = some o := ⟨w.heap[k], by simp [hk]⟩
    rw [ho] at h1 ⊢
    exact s.block k o h1 (.inl (by omega))⟩

set_option maxRecDepth 20000 in
set_option maxHeartbeats 4000000 in
theorem vput_any (w : World) (R C : Nat) (off rs cs : Int) (bb n cap g : Nat) (f : Nat → Nat → Nat) (l : List Value) (hR : R ≤ 40) (hC : C ≤ 40) (hfit : R = 0 ∨ C = 0 ∨ Fit R C off rs cs n) (hn1 : n ≤ 100000)
    (hbuf : Arr w bb 65 l) (hn : n ≤ l.length) (hm : MemM C g R f w) (hgb : g ≠ bb) :
    Calls Tryz.prog 40 #[.slice (some ⟨bb, 0, none⟩) n cap, viewV R C off rs cs, matV R C g] w fun e w' => (∃ v, e = .returned v) ∧ Kept (fun q => q = bb) w w' ∧ Arr w' bb 65 (putL R C off rs cs f l) := by
  have hmix : Tryz.prog.follows .mixedOrders = true := by kernel_rfl
  refine callsIn_wide (n := 0) |>.1 ?_
  refine callsIn_of_wp_marks Tryz.func40 rfl trivial ?_ rfl
  simp only [Tryz.ntmps40, List.size_toArray, List.length_cons, List.length_nil, Nat.reduceAdd, Nat.reduceSub, Array.replicate_succ, Array.replicate_zero, List.push_toArray, List.append_toArray, List.nil_append, List.cons_append, viewV, matV]
  have hdep : Fence.wide.depth = none := rfl
  have hf2 : Fence.wide.fn 63 := trivial
  obtain ⟨b, hb⟩ : ∃ b, w.heap.size = b := ⟨_, rfl⟩
  have hbb : bb < b := by have := hbuf.lt; omega
  have hgl : g < b := by have := hm.1; omega
  have HBUF := hid hbuf
  have HM := hid hm
  clear hbuf hm
  have HP := hid (fun w => callsIn_wide (n := 0).2 (places_rows w R C g))
  unfold matV matO at HP
  gi_wp2_with fail
  refine (HP.out _).mono ?_
  rintro e w1 ⟨rfl, rfl⟩
  clear HP
  gi_wp2_with fail
  obtain ⟨O, hO⟩ : ∃ O : List Obj, [.cells #[.slice (some ⟨bb, 0, none⟩) n cap] 22, .cells #[.int .i64 (R : Int), .int .i64 (C : Int), .int .i64 off, .int .i64 rs, .int .i64 cs] 24, .cells #[.int .i64 (R : Int), .int .i64 (C : Int), .slice (some ⟨g, 0, none⟩) (R * C) (R * C)] 88,
    .cells #[.int .i64 (R : Int), .int .i64 (C : Int), .slice (some ⟨g, 0, none⟩) (R * C) (R * C)] 88] = O := ⟨_, rfl⟩
  obtain ⟨W0, hW0⟩ : ∃ W0, allocs w O = W0 := ⟨_, rfl⟩
  have eW : ((((w.alloc (.cells #[.slice (some ⟨bb, 0, none⟩) n cap] 22)).alloc (.cells #[.int .i64 (R : Int), .int .i64 (C : Int), .int .i64 off, .int .i64 rs, .int .i64 cs] 24)).alloc (.cells #[.int .i64 (R : Int), .int .i64 (C : Int), .slice (some ⟨g, 0, none⟩) (R * C) (R * C)] 88)).alloc
    (.cells #[.int .i64 (R : Int), .int .i64 (C : Int), .slice (some ⟨g, 0, none⟩) (R * C) (R * C)] 88)) = W0 := by rw [← hW0, ← hO]; rfl
  have hs0 : W0.heap.size = b + 4 := by rw [← hW0, allocs_size, hb, ← hO]; rfl
  have hb0 : Below b w W0 := by rw [← hW0, ← hb]; exact allocs_below w O
  have hat : ∀ i o, O[i]? = some o → W0.heap[b + i]? = some o := fun i o h => by rw [← hW0, ← hb]; exact allocs_at O w i o h
  have hB0 : PutB b bb n cap g R C off rs cs W0 := ⟨hat 0 _ (by rw [← hO]; rfl), hat 1 _ (by rw [← hO]; rfl), hat 2 _ (by rw [← hO]; rfl)⟩
  rw [eW]
  clear eW hat
  refine range_gives 0 (gf := 97) (fst := #[matV R C g]) (lb := #[]) rfl (enters_of Tryz.func97 (by kernel_rfl) rfl) (rows_gives R C g f hR hC) (by intro x hx; obtain ⟨y, _, rfl⟩ := List.mem_map.1 hx; rfl)
    (fun k W => PutB b bb n cap g R C off rs cs W ∧ Arr W bb 65 (((rowsL R C f).take k).foldl (putStep off rs cs) l) ∧ MemM C g R f W ∧ Kept (fun q => q = bb) w W ∧ b + 4 ≤ W.heap.size) (fun _ _ => False)
    (fun x a' W' => ∃ (y : Nat × Nat × Nat) (Bx : Nat), x = plcA y ∧ b + 4 ≤ Bx ∧ Arr W' Bx 117 [.int .i64 (y.1 : Int), .int .i64 (y.2.1 : Int)] ∧ a' = { tmps := #[.slice (some ⟨bb, 0, none⟩) n cap, .agg #[.int .i64 (R : Int), .int .i64 (C : Int), .int .i64 off, .int .i64 rs, .int .i64 cs], .agg #[.int .i64 (R : Int), .int .i64 (C : Int), .slice (some ⟨g, 0, none⟩) (R * C) (R * C)], .pointer (some ⟨b, 0, none⟩), .pointer (some ⟨b + 1, 0, none⟩), .pointer (some ⟨b + 1 + 1, 0, none⟩), .pointer (some ⟨Bx, 0, none⟩), .agg #[.int .i64 (R : Int), .int .i64 (C : Int), .slice (some ⟨g, 0, none⟩) (R * C) (R * C)], .func (.func 97) #[.agg #[.int .i64 (R : Int), .int .i64 (C : Int), .slice (some ⟨g, 0, none⟩) (R * C) (R * C)]] #[], plcV y.1 y.2.1, undef, undef, undef, undef, undef, undef, undef, undef, undef, undef, undef], defers := [] })
    ?hMem ?hI ?hIx ?hAx ?h0 ?assign ?body ?done ?stop
  case hMem => exact fun _ _ _ => trivial
  case hI => exact fun k A B h s => ⟨h.1.sim s, h.2.1.sim s, h.2.2.1.sim s, h.2.2.2.1.simB s (by omega), Nat.le_trans h.2.2.2.2 s.size⟩
  case hIx => exact fun c A B h s => h
  case hAx => rintro x a' A B ⟨y, Bx, h1, h2, h3, h4⟩ s; exact ⟨y, Bx, h1, h2, h3.sim s, h4⟩
  case h0 => exact ⟨hB0, HBUF.out.below hb0 hbb, HM.out.below hb0 hgl, Kept.ofBelow (hb ▸ hb0), by omega⟩
  case assign =>
    intro l1 k x W1 K hx hi hK
    obtain ⟨y, hy, rfl⟩ := map_get hx
    have hlt := hi.2.2.2.2
    have HK : Hid _ := hid (hK { tmps := #[.slice (some ⟨bb, 0, none⟩) n cap, .agg #[.int .i64 (R : Int), .int .i64 (C : Int), .int .i64 off, .int .i64 rs, .int .i64 cs], .agg #[.int .i64 (R : Int), .int .i64 (C : Int), .slice (some ⟨g, 0, none⟩) (R * C) (R * C)], .pointer (some ⟨b, 0, none⟩), .pointer (some ⟨b + 1, 0, none⟩), .pointer (some ⟨b + 1 + 1, 0, none⟩), .pointer (some ⟨W1.heap.size, 0, none⟩), .agg #[.int .i64 (R : Int), .int .i64 (C : Int), .slice (some ⟨g, 0, none⟩) (R * C) (R * C)], .func (.func 97) #[.agg #[.int .i64 (R : Int), .int .i64 (C : Int), .slice (some ⟨g, 0, none⟩) (R * C) (R * C)]] #[], plcV y.1 y.2.1, undef, undef, undef, undef, undef, undef, undef, undef, undef, undef, undef], defers := [] } (W1.alloc (plcO y.1 y.2.1))
      (KeptFrom.below (Below.refl' _ _)) ⟨hi.1.sim (Sim.alloc 0 _ _), hi.2.1.alloc _, hi.2.2.1.sim (Sim.alloc 0 _ _), hi.2.2.2.1.trans (Kept.ofBelow (S := fun q => q = bb) (Below.refl' _ _)) (fun q h => .inl h), by simp; omega⟩ ⟨y, W1.heap.size, rfl, hlt, Arr.newL _ _ _, rfl⟩)
    clear hK hi hx hy
    unfold plcA plcV
    unfold plcV plcO at HK
    gi_wp2
    exact HK.out
  case body =>
    rintro l1 k x a' W1 hx hi ⟨y, Bx, rfl, hBx, hb2, rfl⟩
    obtain ⟨y', hy, hye⟩ := map_get hx
    have hpe := plcA_inj hye
    have hmy := rowsL_mem (List.mem_of_getElem? hy)
    obtain ⟨i', j', z'⟩ := y'
    obtain ⟨i, j, z⟩ := y
    simp only at hpe hb2 hmy ⊢
    obtain ⟨rfl, rfl⟩ := hpe
    obtain ⟨hi', hj', rfl⟩ := hmy
    clear hx hye
    have hfit' : Fit R C off rs cs n := by rcases hfit with h | h | h; · omega
                                           · omega
                                           · exact h
    have hin := hfit'.1 i' j' hi' hj'
    have hst := fit_step (by omega) (by omega) hfit'
    obtain ⟨q, hq⟩ : ∃ q : Nat, off + i' * rs + j' * cs = (q : Int) := ⟨_, (Int.toNat_of_nonneg hin.1).symm⟩
    have hqn : q < n := by omega
    obtain ⟨hcb, hl1, hmm, hkk, hsz⟩ := hi
    obtain ⟨L, hL⟩ : ∃ L, ((rowsL R C f).take k).foldl (putStep off rs cs) l = L := ⟨_, rfl⟩
    rw [hL] at hl1
    have hLl : L.length = l.length := by rw [← hL]; exact putFold_len off rs cs _ l
    have hLn : ((rowsL R C f).take (k + 1)).foldl (putStep off rs cs) l = L.set q (.int .u64 (f i' j' : Int)) := by
      rw [List.take_add_one, hy]
      simp only [Option.toList, List.foldl_append, List.foldl_cons, List.foldl_nil]
      rw [hL]
      unfold putStep
      simp only
      rw [hq, Int.toNat_natCast]
    have hbel1 : Sim 0 W1 W1.drew := Sim.drew _ _
    have hS0 : PutB b bb n cap g R C off rs cs W1.drew ∧ Arr W1.drew Bx 117 [.int .i64 (i' : Int), .int .i64 (j' : Int)] := ⟨hcb.sim hbel1, hb2.sim hbel1⟩
    have hM1 : MemM C g R f W1.drew := hmm.sim hbel1
    have hA1 : Arr W1.drew bb 65 L := hl1.drew
    have hK1 : Kept (fun q => q = bb) w W1.drew := hkk.trans (Kept.drewN (S := fun q => q = bb) 1) (fun q h => .inl h)
    have hZ1 : b + 4 ≤ W1.drew.heap.size := hsz
    have hF1 : KeptFrom W0.heap.size W1 W1.drew := KeptFrom.below ((Below.refl _ W1).drew)
    unfold plcV
    gi_wp2_with fail
    refine region_round l1 (fun W' => PutB b bb n cap g R C off rs cs W' ∧ Arr W' Bx 117 [.int .i64 (i' : Int), .int .i64 (j' : Int)]) hmix (by kernel_rfl) (by rintro ⟨a, w, h⟩; exact h) ?_
    clear hcb hmm hl1 hkk hsz hb2 hbel1
    generalize W1.drew = V0 at *
    refine wpAnyH_take (i := 0) (v := .slice (some ⟨bb, 0, none⟩) n cap) rfl (by kernel_rfl) (by kernel_rfl) (by kernel_rfl) (fun _ _ _ h => h) (Or.inl ⟨by rfl, fun W' hS => ?_⟩) hS0 ?_
    · have q0 := hS.1.buf.cell (i := 0) rfl
      clear hS
      go_simp
    simp only [Act.put]
    refine wpAnyH_take (i := 1) (v := .agg #[.int .i64 (R : Int), .int .i64 (C : Int), .int .i64 off, .int .i64 rs, .int .i64 cs]) rfl (by kernel_rfl) (by kernel_rfl) (by kernel_rfl) (fun _ _ _ h => h) (Or.inl ⟨by rfl, fun W' hS => ?_⟩) hS0 ?_
    · have q0 := hS.1.view.cell (i := 0) rfl
      have q1 := hS.1.view.cell (i := 1) rfl
      have q2 := hS.1.view.cell (i := 2) rfl
      have q3 := hS.1.view.cell (i := 3) rfl
      have q4 := hS.1.view.cell (i := 4) rfl
      clear hS
      go_simp
    simp only [Act.put]
    refine wpAnyH_take (i := 2) (v := .pointer (some ⟨Bx, 0, none⟩)) rfl (by kernel_rfl) (by kernel_rfl) (by kernel_rfl) (fun _ _ _ h => h) (Or.inl ⟨by rfl, fun W' hS => ?_⟩) hS0 ?_
    · clear hS
      go_simp
    simp only [Act.put]
    refine wpAnyH_take (i := 3) (v := .int .i64 (i' : Int)) rfl (by kernel_rfl) (by kernel_rfl) (by kernel_rfl) (fun _ _ _ h => h) (Or.inl ⟨by rfl, fun W' hS => ?_⟩) hS0 ?_
    · have q0 := hS.2.cell (i := 0) rfl
      clear hS
      go_simp
    simp only [Act.put]
    refine wpAnyH_take (i := 4) (v := .pointer (some ⟨Bx, 1, none⟩)) rfl (by kernel_rfl) (by kernel_rfl) (by kernel_rfl) (fun _ _ _ h => h) (Or.inl ⟨by rfl, fun W' hS => ?_⟩) hS0 ?_
    · clear hS
      go_simp
    simp only [Act.put]
    refine wpAnyH_take (i := 5) (v := .int .i64 (j' : Int)) rfl (by kernel_rfl) (by kernel_rfl) (by kernel_rfl) (fun _ _ _ h => h) (Or.inl ⟨by rfl, fun W' hS => ?_⟩) hS0 ?_
    · have q0 := hS.2.cell (i := 1) rfl
      clear hS
      go_simp
    simp only [Act.put]
    refine wpAnyH_take (i := 7) (v := .agg #[.int .i64 (R : Int), .int .i64 (C : Int), .slice (some ⟨g, 0, none⟩) (R * C) (R * C)]) rfl (by kernel_rfl) (by kernel_rfl) (by kernel_rfl) (fun _ _ _ h => h) (Or.inl ⟨by rfl, fun W' hS => ?_⟩) hS0 ?_
    · have q0 := hS.1.m.cell (i := 0) rfl
      have q1 := hS.1.m.cell (i := 1) rfl
      have q2 := hS.1.m.cell (i := 2) rfl
      clear hS
      go_simp
    simp only [Act.put]
    refine wpAnyH_take (i := 8) (v := .agg #[.int .i64 (i' : Int), .int .i64 (j' : Int)]) rfl (by kernel_rfl) (by kernel_rfl) (by kernel_rfl) (fun _ _ _ h => h) (Or.inl ⟨by rfl, fun W' hS => ?_⟩) hS0 ?_
    · have q0 := hS.2.cell (i := 0) rfl
      have q1 := hS.2.cell (i := 1) rfl
      clear hS
      go_simp
    simp only [Act.put]
    refine wpAnyH_ready (rs := [6]) (by kernel_rfl) (by simp) ?_
    refine AllReadyH.cons rfl (fun K hKK => ?_) AllReadyH.nil
    go_simp
    refine (at_any _ R C off rs cs i' j' (by omega) (prod_small (by omega) (by omega)) (prod_small (by omega) (by omega))).mono ?_
    rintro e w1 ⟨rfl, hw1⟩
    have s1 : Below V0.heap.size V0 w1 := by rw [hw1]; exact Below.refl' _ _
    clear hw1
    have hS1 : PutB b bb n cap g R C off rs cs w1 ∧ Arr w1 Bx 117 [.int .i64 (i' : Int), .int .i64 (j' : Int)] := ⟨hS0.1.sim (Sim.below (B := 0) s1), hS0.2.belowAll s1⟩
    have hM2 : MemM C g R f w1 := hM1.below s1 hM1.1
    have hA2 := hA1.belowAll s1
    have hK2 : Kept (fun q => q = bb) w w1 := hK1.trans (Kept.ofBelow (S := fun q => q = bb) s1) (fun q h => .inl h)
    have hF2 : KeptFrom W0.heap.size W1 w1 := hF1.trans (KeptFrom.below s1)
    have hZ2 : b + 4 ≤ w1.heap.size := Nat.le_trans hZ1 s1.size
    rw [hq]
    refine hKK.out _ _ hS1 (fun hHeld => ?_)
    clear hKK hHeld hS0 hM1 hA1 hK1 hF1 hZ1 s1
    have hat := mat_at w1 R C g i' j' (f i' j') hR hC hi' hj' (hM2.2 i' j' hi' hj') hM2.1
    unfold matV plcV at hat
    refine wpAnyH_ready (rs := [9]) (by kernel_rfl) (by simp) ?_
    refine AllReadyH.cons rfl (fun K hKK => ?_) AllReadyH.nil
    go_simp
    refine hat.mono ?_
    rintro e w2 ⟨rfl, hw2⟩
    have s2 : Below w1.heap.size w1 w2 := by rw [hw2]; exact ((Below.refl _ _).alloc (Nat.le_refl _) _).alloc (by simp) _
    clear hw2 hat
    have hS2 : PutB b bb n cap g R C off rs cs w2 ∧ Arr w2 Bx 117 [.int .i64 (i' : Int), .int .i64 (j' : Int)] := ⟨hS1.1.sim (Sim.below (B := 0) s2), hS1.2.belowAll s2⟩
    have hM3 : MemM C g R f w2 := hM2.below s2 hM2.1
    have hA3 := hA2.belowAll s2
    have hK3 : Kept (fun q => q = bb) w w2 := hK2.trans (Kept.ofBelow (S := fun q => q = bb) s2) (fun q h => .inl h)
    have hF3 : KeptFrom W0.heap.size W1 w2 := hF2.trans (KeptFrom.below s2)
    have hZ3 : b + 4 ≤ w2.heap.size := Nat.le_trans hZ2 s2.size
    refine hKK.out _ _ hS2 (fun hHeld => ?_)
    clear hKK hHeld hS1 hM2 hA2 hK2 hF2 hZ2 s2
    have hqi : (q : Int) < n := by omega
    refine wpAnyH_take (i := 10) (v := .pointer (some ⟨bb, q, none⟩)) rfl (by kernel_rfl) (by kernel_rfl) (by kernel_rfl) (fun _ _ _ h => h) (Or.inl ⟨by rfl, fun W' hS => ?_⟩) hS2 ?_
    · clear hS
      go_simp
    simp only [Act.put]
    obtain ⟨y, hy0⟩ : ∃ y, L[q]? = some y := ⟨L[q]'(by omega), by simp⟩
    have x0 := hA3.cell hy0
    have f0 := hA3.frozen q
    refine wpAnyH_ready (rs := [11]) (by kernel_rfl) (by simp) ?_
    refine AllReadyH.cons rfl (fun K hKK => ?_) AllReadyH.nil
    go_simp
    have hS3 : PutB b bb n cap g R C off rs cs (w2.setCell ⟨bb, q, none⟩ (.int .u64 (f i' j' : Int))) ∧ Arr (w2.setCell ⟨bb, q, none⟩ (.int .u64 (f i' j' : Int))) Bx 117 [.int .i64 (i' : Int), .int .i64 (j' : Int)] := ⟨hS2.1.set hbb _ _, hS2.2.other _ (by omega)⟩
    refine hKK.out _ _ hS3 (fun _ => wpAnyH_done (by kernel_rfl) ?_ _)
    refine ⟨hF3.trans (KeptFrom.set (by omega) _), hS3.1, ?_, ⟨by simpa [World.setCell] using hM3.1, fun a c ha hc => ?_⟩, hK3.trans (Kept.set (S := fun q => q = bb) rfl _) (fun q h => .inl h), by simpa [World.setCell] using hZ3⟩
    · rw [hLn]; exact hA3.set q _
    · exact (World.cell?_of_block (w := w2) (Below.heap_setCell _ _ _ _ hgb)).trans (hM3.2 a c ha hc)
  case done =>
    intro D W1 hD hi hK
    refine ⟨by simp, .inl ⟨_, _, rfl, run_takeDeferred hK, ?_⟩⟩
    refine ⟨_, results_none rfl _ _ _, ⟨_, rfl⟩, ?_, ?_⟩
    · exact hi.2.2.2.1.trans (T := fun q => q = D) ⟨rfl, rfl, rfl, by simp [World.putObj], fun q hq hs => World.putObj_heap_other (fun e => hs e)⟩ (fun q hq => .inr (by omega))
    · have h2 := hi.2.1
      rw [List.length_map, List.take_length] at h2
      exact (World.putObj_heap_other (by omega)).trans h2
  case stop => exact fun _ _ _ _ h => h.elim

end Go.Proofs.YthdcceackfdbbaaGreatDoor
/- Own text: a reader of files: Into. -/
namespace Go.Proofs.YthdcceackfdbbaaGreatDoor
open Go Go.RowKit

open Classical in
/-- what Into answers -/
noncomputable def intoE (s : RSt) (R C off rs cs : Int) (n : Nat) : Int :=
  match s with
  | .ended _ R' C' _ => if ¬ FitV R C off rs cs n then 2 else if R ≠ R' ∨ C ≠ C' then 4 else 0
  | _ => 11
/-- the buffer behind it -/
noncomputable def intoL (s : RSt) (R C off rs cs : Int) (n : Nat) (l : List Value) : List Value :=
  match s with
  | .ended _ R' C' f => if intoE s R C off rs cs n = 0 then putL R' C' off rs cs f l else l
  | _ => l

theorem intoE_2 {k R' C' n : Nat} {f : Nat → Nat → Nat} {R C off rs cs : Int} (h : ¬ FitV R C off rs cs n) : intoE (.ended k R' C' f) R C off rs cs n = 2 := by
  simp only [intoE]; rw [if_pos h]
theorem intoE_4 {k R' C' n : Nat} {f : Nat → Nat → Nat} {R C off rs cs : Int} (h : FitV R C off rs cs n) (h2 : ¬ (R = R' ∧ C = C')) : intoE (.ended k R' C' f) R C off rs cs n = 4 := by
  simp only [intoE]; rw [if_neg (fun k => k h), if_pos (by omega)]
theorem intoE_0 {k R' C' n : Nat} {f : Nat → Nat → Nat} {R C off rs cs : Int} (h : FitV R C off rs cs n) (h2 : R = R' ∧ C = C') : intoE (.ended k R' C' f) R C off rs cs n = 0 := by
  simp only [intoE]; rw [if_neg (fun k => k h), if_neg (by omega)]

def IntoR (w : World) (p : Nat) (Sf : Nat → Prop) (s : RSt) (bb : Nat) (l' : List Value) (er : Int) (e : Ending) (w' : World) : Prop :=
  e = .returned (.int .i64 er) ∧ Kept (fun q => q = bb) w w' ∧ Arr w' bb 65 l' ∧ ReadIs w' p Sf s

set_option maxRecDepth 20000 in
set_option maxHeartbeats 1000000 in
theorem into_no (w : World) (p : Nat) (Sf : Nat → Prop) (s : RSt) (st file num : Value) (er : Int) (R' C' k n cap bb : Nat) (l : List Value) (R C off rs cs : Int) (ha : Arr w p 90 (rdrC st file er false R' C' num k)) (h : ReadIs w p Sf s) (hbuf : Arr w bb 65 l) :
    Calls Tryz.prog 20 #[.pointer (some ⟨p, 0, none⟩), .slice (some ⟨bb, 0, none⟩) n cap, viewV R C off rs cs] w fun e w' => IntoR w p Sf s bb l 11 e w' := by
  have k3 : ∀ o, (w.alloc o).cell? ⟨p, 3, none⟩ = some (.bool false) := fun o => (ha.alloc o).cell (i := 3) rfl
  have H := hid h
  have HB := hid hbuf
  clear ha h hbuf
  unfold viewV
  go_enter Tryz.func20, Tryz.ntmps20
  go_wp2
  go_ret
  exact ⟨rfl, Kept.ofBelow (Below.refl' _ _), HB.out.alloc _, H.out.below (Below.refl' _ _)⟩

set_option maxRecDepth 20000 in
set_option maxHeartbeats 2000000 in
theorem into_yes (w : World) (p : Nat) (Sf : Nat → Prop) (k R' C' : Nat) (f : Nat → Nat → Nat) (n cap bb : Nat) (l : List Value) (R C off rs cs : Int) (h : ReadIs w p Sf (.ended k R' C' f)) (hbuf : Arr w bb 65 l) (hn : n ≤ l.length) (hn1 : n ≤ maxLen) (hbp : bb ≠ p) (hbS : ¬ Sf bb) :
    Calls Tryz.prog 20 #[.pointer (some ⟨p, 0, none⟩), .slice (some ⟨bb, 0, none⟩) n cap, viewV R C off rs cs] w fun e w' => IntoR w p Sf (.ended k R' C' f) bb (intoL (.ended k R' C' f) R C off rs cs n l) (intoE (.ended k R' C' f) R C off rs cs n) e w' := by
  have hmix : Tryz.prog.follows .mixedOrders = true := by kernel_rfl
  obtain ⟨hk5, hR, hC, g, v, ha, hg, hv, hm⟩ := h.at_
  have hgb : g ≠ bb := fun e => hbS (e ▸ hg)
  obtain ⟨b, hb⟩ : ∃ b, w.heap.size = b := ⟨_, rfl⟩
  have vV : Arr (w.alloc (.cells #[.int .i64 R, .int .i64 C, .int .i64 off, .int .i64 rs, .int .i64 cs] 24)) b 24 [.int .i64 R, .int .i64 C, .int .i64 off, .int .i64 rs, .int .i64 cs] := by rw [← hb]; exact Arr.newL _ _ _
  have bV : Below b w (w.alloc (.cells #[.int .i64 R, .int .i64 C, .int .i64 off, .int .i64 rs, .int .i64 cs] 24)) := by rw [← hb]; exact Below.refl' _ _
  have a3 := (ha.belowAll (hb ▸ bV)).cell (i := 3) rfl
  have l0 := vV.cell (i := 0) rfl
  have l1 := vV.cell (i := 1) rfl
  have l2 := vV.cell (i := 2) rfl
  have l3 := vV.cell (i := 3) rfl
  have l4 := vV.cell (i := 4) rfl
  have HF := hid (fun w => fits_any w R C off rs cs n (by unfold maxLen at hn1; omega))
  obtain ⟨er, her⟩ : ∃ er, intoE (.ended k R' C' f) R C off rs cs n = er := ⟨_, rfl⟩
  obtain ⟨l', hl'⟩ : ∃ l', intoL (.ended k R' C' f) R C off rs cs n l = l' := ⟨_, rfl⟩
  rw [her, hl']
  have hL : l' = if er = 0 then putL R' C' off rs cs f l else l := by rw [← hl', ← her]; rfl
  have hE : (¬ FitV R C off rs cs n → er = 2) ∧ (FitV R C off rs cs n → (¬ (R = R' ∧ C = C') → er = 4) ∧ (R = R' ∧ C = C' → er = 0)) := by rw [← her]; exact ⟨intoE_2, fun h => ⟨intoE_4 h, intoE_0 h⟩⟩
  have HL := hid hL
  have HE := hid hE
  have H := hid h
  have HBUF := hid hbuf
  have HA := hid ha
  have HVV := hid vV
  have HBV := hid bV
  have HM := hid hm
  clear hL hE h hbuf ha vV bV her hl' hm hv
  obtain ⟨V, hV⟩ : ∃ V, w.alloc (.cells #[.int .i64 R, .int .i64 C, .int .i64 off, .int .i64 rs, .int .i64 cs] 24) = V := ⟨_, rfl⟩
  rw [hV] at a3 l0 l1 l2 l3 l4 HVV HBV
  unfold viewV at HF ⊢
  unfold maxLen at hn1
  go_enter Tryz.func20, Tryz.ntmps20
  go_wp2_with fail
  refine (HF.out V).mono ?_
  rintro e W1 ⟨hbo, b1⟩
  clear HF hV a3 l0 l1 l2 l3 l4
  have bz := HBV.out.size
  have b2 : Below b w W1 := HBV.out.trans (b1.mono (by omega))
  have fin : ∀ W, Below b w W → er ≠ 0 → Hid (IntoR w p Sf (.ended k R' C' f) bb l' er (.returned (.int .i64 er)) W) := fun W hW h0 => by
    refine ⟨rfl, Kept.ofBelow (hb ▸ hW), ?_, H.out.below (hb ▸ hW)⟩
    rw [HL.out, if_neg h0]
    exact HBUF.out.belowAll (hb ▸ hW)
  obtain ⟨bo, rfl, hbo⟩ := hbo
  cases bo with
  | false =>
    have hnf : ¬ FitV R C off rs cs n := fun h => by simpa using hbo.2 h
    have he2 : er = 2 := HE.out.1 hnf
    subst he2
    have hfin := fin W1 b2 (by decide)
    clear fin b1 b2 hbo
    go_wp2
    go_ret
    exact hfin.out
  | true =>
    have hfit := hbo.1 rfl
    have hE2 := HE.out.2 hfit
    have HE2 := hid hE2
    have HFIT := hid hfit
    have vW := HVV.out.below b1 (by have := HVV.out.lt; omega)
    have aW := HA.out.belowAll (hb ▸ b2)
    have HB2 := hid b2
    have HFIN := hid fin
    clear hbo hE2 hfit fin b1 b2
    have v0 := vW.cell (i := 0) rfl
    have v1 := vW.cell (i := 1) rfl
    have p4 := aW.cell (i := 4) rfl
    have p5 := aW.cell (i := 5) rfl
    have HVW := hid vW
    have HAW := hid aW
    clear vW aW
    have shp : (R = R' ∧ C = C') → Hid (er = 0) := fun h => HE2.out.2 h
    have shn : ¬ (R = R' ∧ C = C') → Hid (er = 4) := fun h => HE2.out.1 h
    by_cases hRR : R = R'
    · by_cases hCC : C = C'
      · have he0 := shp ⟨hRR, hCC⟩
        obtain ⟨_, _, _, hfit3⟩ := HFIT.out
        have hn100 := HFIT.out.1
        have hfit4 : R' = 0 ∨ C' = 0 ∨ Fit R' C' off rs cs n := by
          rcases hfit3 with h | h | h
          · left; omega
          · right; left; omega
          · right; right
            rw [hRR, hCC] at h
            simpa using h
        have HFIT4 := hid hfit4
        clear shp shn hfit3 hfit4 HFIT
        subst hRR
        subst hCC
        have hRt : (R' : Int) = R' := rfl
        go_wp2_with fail
        go_quiet (fail)
        go_wp2_with fail
        have hAD := HAW.out.drewN nq
        have hVD := HVW.out.drewN nq
        have hBD := below_dn HB2.out nq
        clear v0 v1 p4 p5
        generalize W1.drewN nq = W2 at *
        refine wp_region_held (S := fun W' => Arr W' p 90 (rdrC (stV 66 p) .nilIface 0 true R' C' (.slice (some ⟨g, 0, none⟩) (R' * C') (R' * C')) k) ∧ Arr W' b 24 [.int .i64 (R' : Int), .int .i64 (C' : Int), .int .i64 off, .int .i64 rs, .int .i64 cs]) hmix ?_
        change wpAnyH _ _ _ _ _ _ _ _ W2.drew
        have hSS := And.intro hAD.drew hVD.drew
        have hB3 : Below b w W2.drew := hBD.drew
        clear hAD hVD hBD
        generalize W2.drew = W3 at *
        refine wpAnyH_take (i := 0) (v := .slice (some ⟨bb, 0, none⟩) n cap) rfl (by kernel_rfl) (by kernel_rfl) (by kernel_rfl) (fun _ _ _ h => h) (Or.inl ⟨by rfl, fun W' hS => ?_⟩) hSS ?_
        · clear hS
          go_simp
        simp only [Act.put]
        refine wpAnyH_take (i := 1) (v := .agg #[.int .i64 (R' : Int), .int .i64 (C' : Int), .int .i64 off, .int .i64 rs, .int .i64 cs]) rfl (by kernel_rfl) (by kernel_rfl) (by kernel_rfl) (fun _ _ _ h => h) (Or.inl ⟨by rfl, fun W' hS => ?_⟩) hSS ?_
        · have q0 := hS.2.cell (i := 0) rfl
          have q1 := hS.2.cell (i := 1) rfl
          have q2 := hS.2.cell (i := 2) rfl
          have q3 := hS.2.cell (i := 3) rfl
          have q4 := hS.2.cell (i := 4) rfl
          clear hS
          go_simp
        simp only [Act.put]
        refine wpAnyH_take (i := 2) (v := .pointer (some ⟨p, 0, none⟩)) rfl (by kernel_rfl) (by kernel_rfl) (by kernel_rfl) (fun _ _ _ h => h) (Or.inl ⟨by rfl, fun W' hS => ?_⟩) hSS ?_
        · clear hS
          go_simp
        simp only [Act.put]
        refine wpAnyH_take (i := 3) (v := .pointer (some ⟨p, 0, none⟩)) rfl (by kernel_rfl) (by kernel_rfl) (by kernel_rfl) (fun _ _ _ h => h) (Or.inl ⟨by rfl, fun W' hS => ?_⟩) hSS ?_
        · clear hS
          go_simp
        simp only [Act.put]
        refine wpAnyH_take (i := 4) (v := .pointer (some ⟨p, 4, none⟩)) rfl (by kernel_rfl) (by kernel_rfl) (by kernel_rfl) (fun _ _ _ h => h) (Or.inl ⟨by rfl, fun W' hS => ?_⟩) hSS ?_
        · clear hS
          go_simp
        simp only [Act.put]
        refine wpAnyH_take (i := 5) (v := .agg #[.int .i64 (R' : Int), .int .i64 (C' : Int), .slice (some ⟨g, 0, none⟩) (R' * C') (R' * C')]) rfl (by kernel_rfl) (by kernel_rfl) (by kernel_rfl) (fun _ _ _ h => h) (Or.inl ⟨by rfl, fun W' hS => ?_⟩) hSS ?_
        · have q0 := hS.1.cell (i := 4) rfl
          have q1 := hS.1.cell (i := 5) rfl
          have q2 := hS.1.cell (i := 6) rfl
          clear hS
          go_simp
        simp only [Act.put]
        have hpb : p ≠ b := by have := HA.out.lt; omega
        have hbbl : bb < b := by have := HBUF.out.lt; omega
        have hbw := HBUF.out.belowAll (hb ▸ hB3)
        have hmw : MemM C' g R' f W3 := HM.out.below (hb ▸ hB3) HM.out.1
        have hput := vput_any W3 R' C' off rs cs bb n cap g f l hR hC HFIT4.out hn100 hbw hn hmw hgb
        unfold viewV matV at hput
        refine wpAnyH_ready (rs := [6]) (by kernel_rfl) (by simp) ?_
        refine AllReadyH.cons rfl (fun K hKK => ?_) AllReadyH.nil
        go_simp
        refine hput.mono ?_
        rintro e W4 ⟨⟨rv, rfl⟩, hk4, ha4⟩
        have hS4 : Arr W4 p 90 (rdrC (stV 66 p) .nilIface 0 true R' C' (.slice (some ⟨g, 0, none⟩) (R' * C') (R' * C')) k) ∧ Arr W4 b 24 [.int .i64 (R' : Int), .int .i64 (C' : Int), .int .i64 off, .int .i64 rs, .int .i64 cs] := ⟨hk4.arr hSS.1 (fun e => hbp e.symm), hk4.arr hSS.2 (by omega)⟩
        refine hKK.out _ _ hS4 (fun hHeld => ?_)
        clear hKK hHeld
        refine wpAnyH_done (by kernel_rfl) ?_ _
        have hkw : Kept (fun q => q = bb) w W4 := (Kept.ofBelow (hb ▸ hB3)).trans hk4 (fun q h => .inl h)
        have hfin : Hid (IntoR w p Sf (.ended k R' C' f) bb l' er (.returned (.int .i64 0)) W4) := by
          refine ⟨by rw [he0.out], hkw, by rw [HL.out, if_pos he0.out]; exact ha4, ?_⟩
          refine H.out.frame (fun q hq => hkw.block q ?_ ?_) hkw.size
          · rcases hq with rfl | hq
            · exact HA.out.lt
            · exact H.out.lt q hq
          · rcases hq with rfl | hq
            · exact fun e => hbp e.symm
            · exact fun e => hbS (e ▸ hq)
        clear hS4 hSS hk4 ha4 hput hbw hmw hkw he0
        go_wp2
        go_ret
        exact hfin.out
      · have he4 : er = 4 := (shn (fun h => hCC h.2)).out
        have hfin : Hid (∀ W, Below b w W → IntoR w p Sf (.ended k R' C' f) bb l' er (.returned (.int .i64 4)) W) := fun W hW => by have := (HFIN.out W hW (by rw [he4]; decide)).out; rw [he4] at this ⊢; exact this
        clear shp shn HFIN he4
        subst hRR
        go_wp2_with fail
        go_quiet (fail)
        go_wp2
        go_ret
        exact hfin.out _ (below_dn HB2.out nq)
    · have he4 : er = 4 := (shn (fun h => hRR h.1)).out
      have hfin : Hid (∀ W, Below b w W → IntoR w p Sf (.ended k R' C' f) bb l' er (.returned (.int .i64 4)) W) := fun W hW => by have := (HFIN.out W hW (by rw [he4]; decide)).out; rw [he4] at this ⊢; exact this
      clear shp shn HFIN he4
      go_wp2_with fail
      go_quiet (fail)
      go_wp2
      go_ret
      exact hfin.out _ (below_dn HB2.out nq)

theorem into_any (w : World) (p : Nat) (Sf : Nat → Prop) (s : RSt) (n cap bb : Nat) (l : List Value) (R C off rs cs : Int) (h : ReadIs w p Sf s) (hbuf : Arr w bb 65 l) (hn : n ≤ l.length) (hn1 : n ≤ maxLen) (hbp : bb ≠ p) (hbS : ¬ Sf bb) :
    Calls Tryz.prog 20 #[.pointer (some ⟨p, 0, none⟩), .slice (some ⟨bb, 0, none⟩) n cap, viewV R C off rs cs] w fun e w' => IntoR w p Sf s bb (intoL s R C off rs cs n l) (intoE s R C off rs cs n) e w' := by
  cases s with
  | begin => exact into_no w p Sf .begin _ _ _ _ _ _ _ n cap bb l R C off rs cs h.at_ h hbuf
  | file s => obtain ⟨q, h1, h2⟩ := h.at_; exact into_no w p Sf (.file s) _ _ _ _ _ _ _ n cap bb l R C off rs cs h1 h hbuf
  | failed e => exact into_no w p Sf (.failed e) _ _ _ _ _ _ _ n cap bb l R C off rs cs h.at_.2 h hbuf
  | ended k R' C' f => exact into_yes w p Sf k R' C' f n cap bb l R C off rs cs h hbuf hn hn1 hbp hbS

end Go.Proofs.YthdcceackfdbbaaGreatDoor
/- Own text: views of the laws; a buffer into which was written. -/
namespace Go.Proofs.YthdcceackfdbbaaGreatDoor
open Go Go.RowKit

theorem rc_inj {C i j i' j' : Nat} (hj : j < C) (hj' : j' < C) (h : i * C + j = i' * C + j') : i = i' ∧ j = j' := by
  have e1 : (i * C + j) / C = i := by rw [Nat.add_comm, Nat.add_mul_div_right _ _ (by omega), Nat.div_eq_of_lt hj]; omega
  have e2 : (i' * C + j') / C = i' := by rw [Nat.add_comm, Nat.add_mul_div_right _ _ (by omega), Nat.div_eq_of_lt hj']; omega
  have hi : i = i' := by rw [← e1, ← e2, h]
  subst hi
  exact ⟨rfl, by omega⟩

/-- row by row, each step as long as d -/
theorem fit_rows {R C d o n : Nat} (hd : 0 < d) (hn : o + d * (R * C) < n + d) : Fit R C (o : Int) ((d * C : Nat) : Int) (d : Int) n := by
  have e : ∀ i j : Nat, (o : Int) + (i : Int) * ((d * C : Nat) : Int) + (j : Int) * (d : Int) = ((o + d * (i * C + j) : Nat) : Int) := by
    intro i j
    push_cast
    rw [Int.mul_add, Int.mul_comm (j : Int), ← Int.mul_assoc (i : Int), Int.mul_comm (i : Int) (d : Int), Int.mul_assoc]
    omega
  constructor
  · intro i j hi hj
    rw [e]
    have h1 := idx_lt hi hj
    have h2 : d * (i * C + j + 1) ≤ d * (R * C) := Nat.mul_le_mul_left _ h1
    rw [Nat.mul_add] at h2
    omega
  · intro i j i' j' hi hj hi' hj' h
    rw [e, e] at h
    have h1 : d * (i * C + j) = d * (i' * C + j') := by omega
    exact rc_inj hj hj' (Nat.eq_of_mul_eq_mul_left hd h1)

/-- column by column, from behind -/
theorem fit_cols {R C o n : Nat} (ho : o < n) (hn : R * C ≤ o + 1) : Fit R C (o : Int) (-1) (-(R : Int)) n := by
  have e : ∀ i j : Nat, i < R → j < C → j * R + i ≤ o ∧ (o : Int) + (i : Int) * (-1) + (j : Int) * (-(R : Int)) = ((o - (j * R + i) : Nat) : Int) := by
    intro i j hi hj
    have h1 := idx_lt hj hi
    rw [Nat.mul_comm C R] at h1
    refine ⟨by omega, ?_⟩
    rw [Int.mul_neg, Int.mul_neg, show (j : Int) * (R : Int) = ((j * R : Nat) : Int) by push_cast; rfl]
    omega
  constructor
  · intro i j hi hj
    obtain ⟨h1, h2⟩ := e i j hi hj
    rw [h2]
    omega
  · intro i j i' j' hi hj hi' hj' h
    obtain ⟨h1, h2⟩ := e i j hi hj
    obtain ⟨h3, h4⟩ := e i' j' hi' hj'
    rw [h2, h4] at h
    have := rc_inj (C := R) (i := j) (j := i) (i' := j') (j' := i') hi hi' (by omega)
    exact ⟨this.2, this.1⟩

/-- where a number of a matrix lies -/
def plcP (off rs cs : Int) (x : Nat × Nat × Nat) : Nat := (off + x.1 * rs + x.2.1 * cs).toNat
def setP (off rs cs : Int) (V : Nat × Nat × Nat → Value) (l : List Value) (x : Nat × Nat × Nat) : List Value := l.set (plcP off rs cs x) (V x)

theorem setP_miss {off rs cs : Int} {V : Nat × Nat × Nat → Value} {i : Nat} : ∀ (xs : List (Nat × Nat × Nat)) (l : List Value), (∀ x ∈ xs, plcP off rs cs x ≠ i) → (xs.foldl (setP off rs cs V) l)[i]? = l[i]?
  | [], l, _ => rfl
  | x :: r, l, h => by
    rw [List.foldl_cons, setP_miss r _ (fun y hy => h y (by simp [hy]))]
    unfold setP
    rw [List.getElem?_set_ne (h x (by simp))]

theorem setP_len {off rs cs : Int} {V : Nat × Nat × Nat → Value} : ∀ (xs : List (Nat × Nat × Nat)) (l : List Value), (xs.foldl (setP off rs cs V) l).length = l.length
  | [], l => rfl
  | x :: r, l => by rw [List.foldl_cons, setP_len r]; simp [setP]

theorem setP_hit {off rs cs : Int} {V : Nat × Nat × Nat → Value} : ∀ (xs : List (Nat × Nat × Nat)) (l : List Value), xs.Pairwise (fun a b => plcP off rs cs a ≠ plcP off rs cs b) → ∀ x ∈ xs, plcP off rs cs x < l.length → (xs.foldl (setP off rs cs V) l)[plcP off rs cs x]? = some (V x)
  | [], l, _, x, hx, _ => by simp at hx
  | y :: r, l, hp, x, hx, hl => by
    rw [List.foldl_cons]
    obtain ⟨h1, h2⟩ := List.pairwise_cons.1 hp
    rcases List.mem_cons.1 hx with rfl | hx
    · rw [setP_miss r _ (fun z hz => (h1 z hz).symm)]
      unfold setP
      rw [List.getElem?_set_self hl]
    · exact setP_hit r _ h2 x hx (by unfold setP; simpa using hl)

theorem putL_eq (R C : Nat) (off rs cs : Int) (f : Nat → Nat → Nat) (l : List Value) : putL R C off rs cs f l = (rowsL R C f).foldl (setP off rs cs (fun x => .int .u64 (x.2.2 : Int))) l := rfl

theorem rows_pair {R C : Nat} {f : Nat → Nat → Nat} {off rs cs : Int} {n : Nat} (h : R = 0 ∨ C = 0 ∨ Fit R C off rs cs n) : (rowsL R C f).Pairwise (fun a b => plcP off rs cs a ≠ plcP off rs cs b) := by
  unfold rowsL
  rw [List.pairwise_map]
  refine (List.pairwise_lt_range (n := R * C)).imp_of_mem (fun {a b} ha hb hab e => ?_)
  have ha := List.mem_range.1 ha
  have hb := List.mem_range.1 hb
  have hRC : ¬ R = 0 ∧ ¬ C = 0 := by
    constructor <;> intro e <;> subst e <;> simp at ha
  have h : Fit R C off rs cs n := by rcases h with h | h | h; · exact (hRC.1 h).elim
                                     · exact (hRC.2 h).elim
                                     · exact h
  obtain ⟨a1, a2⟩ := div_mod_lt ha
  obtain ⟨b1, b2⟩ := div_mod_lt hb
  have ea := (h.1 _ _ a1 a2).1
  have eb := (h.1 _ _ b1 b2).1
  unfold plcP at e
  simp only at e
  obtain ⟨q1, q2⟩ := h.2 _ _ _ _ a1 a2 b1 b2 (by omega)
  have h1 := Nat.div_add_mod a C
  have h2 := Nat.div_add_mod b C
  rw [q1, q2] at h1
  omega

theorem rows_lt {R C : Nat} {f : Nat → Nat → Nat} {off rs cs : Int} {n : Nat} (h : R = 0 ∨ C = 0 ∨ Fit R C off rs cs n) {x : Nat × Nat × Nat} (hx : x ∈ rowsL R C f) : 0 ≤ off + x.1 * rs + x.2.1 * cs ∧ plcP off rs cs x < n := by
  obtain ⟨h1, h2, _⟩ := rowsL_mem hx
  have h : Fit R C off rs cs n := by rcases h with h | h | h; · omega
                                     · omega
                                     · exact h
  have := h.1 _ _ h1 h2
  unfold plcP
  omega

/-- the buffer when k numbers were looked at, and set back -/
def backL (R C : Nat) (off rs cs : Int) (f : Nat → Nat → Nat) (k : Nat) (l : List Value) : List Value := ((rowsL R C f).take k).foldl (setP off rs cs (fun _ => .int .u64 7)) (putL R C off rs cs f l)

theorem backL_len (R C : Nat) (off rs cs : Int) (f : Nat → Nat → Nat) (k : Nat) (l : List Value) : (backL R C off rs cs f k l).length = l.length := by
  unfold backL; rw [setP_len, putL_eq, setP_len]

theorem backL_at {R C : Nat} {f : Nat → Nat → Nat} {off rs cs : Int} {n : Nat} (h : R = 0 ∨ C = 0 ∨ Fit R C off rs cs n) {l : List Value} (hl : n ≤ l.length) {k : Nat} {x : Nat × Nat × Nat} (hx : (rowsL R C f)[k]? = some x) :
    (backL R C off rs cs f k l)[plcP off rs cs x]? = some (.int .u64 (x.2.2 : Int)) ∧ (backL R C off rs cs f k l).set (plcP off rs cs x) (.int .u64 7) = backL R C off rs cs f (k + 1) l := by
  have hp := rows_pair (f := f) h
  have hm := List.mem_of_getElem? hx
  constructor
  · unfold backL
    rw [setP_miss _ _ (fun y hy => ?_), putL_eq]
    · exact setP_hit _ _ hp x hm (by have := (rows_lt h hm).2; omega)
    · obtain ⟨j, hj, rfl⟩ := List.getElem_of_mem hy
      rw [List.length_take] at hj
      rw [List.getElem_take]
      have hk : k < (rowsL R C f).length := (List.getElem?_eq_some_iff.1 hx).1
      have := List.pairwise_iff_getElem.1 hp j k (by omega) hk (by omega)
      rw [(List.getElem?_eq_some_iff.1 hx).2] at this
      exact this
  · unfold backL
    rw [List.take_add_one, hx]
    simp [List.foldl_append, setP]

theorem backL_all {R C : Nat} {f : Nat → Nat → Nat} {off rs cs : Int} {n N : Nat} (h : R = 0 ∨ C = 0 ∨ Fit R C off rs cs n) {i : Nat} (hi : i < N) : (backL R C off rs cs f (R * C) (List.replicate N (.int .u64 7)))[i]? = some (.int .u64 7) := by
  have hp := rows_pair (f := f) h
  unfold backL
  rw [List.take_of_length_le (by rw [rowsL_len]; exact Nat.le_refl _)]
  by_cases hx : ∃ x ∈ rowsL R C f, plcP off rs cs x = i
  · obtain ⟨x, hx, rfl⟩ := hx
    exact setP_hit (V := fun _ => .int .u64 7) _ _ hp x hx (by rw [putL_eq, setP_len]; simpa using hi)
  · have hx' : ∀ x ∈ rowsL R C f, plcP off rs cs x ≠ i := fun x h1 h2 => hx ⟨x, h1, h2⟩
    rw [setP_miss _ _ hx', putL_eq, setP_miss _ _ hx']
    simp [hi]

end Go.Proofs.YthdcceackfdbbaaGreatDoor
