import Derived.Test.YthdcceackfdbbaaGreatDoorM09R
import Derived.Test.YthdcceackfdbbaaGreatDoorM02R
import Derived.Test.YthdcceackfdbbaaGreatDoorM00R
import Derived.Test.YthdcceackfdbbaaGreatDoorM18R
import Derived.Test.YthdcceackfdbbaaGreatDoorRvQR
import Derived.RegionTactic
import Derived.BigQuiet
namespace Go.Proofs.YthdcceackfdbbaaGreatDoor
open Go Go.RowKit Go.Shelf
attribute [local go_sem] Oper.semAt_some
def putStep (off rs cs : Int) (l : List Value) (x : Nat × Nat × Nat) : List Value := l.set (off + x.1 * rs + x.2.1 * cs).toNat (.int .u64 (x.2.2 : Int))
def putL (R C : Nat) (off rs cs : Int) (f : Nat → Nat → Nat) (l : List Value) : List Value := (rowsL R C f).foldl (putStep off rs cs) l
structure PutB (b bb n cap g R C : Nat) (off rs cs : Int) (W : World) : Prop where
  buf : Arr W b 22 [.slice (some ⟨bb, 0, none⟩) n cap]
  view : Arr W (b + 1) 24 [.int .i64 (R : Int), .int .i64 (C : Int), .int .i64 off, .int .i64 rs, .int .i64 cs]
  m : Arr W (b + 2) 88 [.int .i64 (R : Int), .int .i64 (C : Int), .slice (some ⟨g, 0, none⟩) (R * C) (R * C)]
theorem PutB.sim {B b bb n cap g R C : Nat} {off rs cs : Int} {W W' : World} (h : PutB b bb n cap g R C off rs cs W) (s : Sim B W W') : PutB b bb n cap g R C off rs cs W' := ⟨h.buf.sim s, h.view.sim s, h.m.sim s⟩
theorem PutB.set {b bb n cap g R C : Nat} {off rs cs : Int} {W : World} (h : PutB b bb n cap g R C off rs cs W) (hb : bb < b) (q : Nat) (v : Value) : PutB b bb n cap g R C off rs cs (W.setCell ⟨bb, q, none⟩ v) :=
  ⟨h.buf.other _ (by omega), h.view.other _ (by omega), h.m.other _ (by omega)⟩
theorem putFold_len (off rs cs : Int) (xs : List (Nat × Nat × Nat)) : ∀ l : List Value, (xs.foldl (putStep off rs cs) l).length = l.length := by
  induction xs with
  | nil => intro l; rfl
  | cons x r ih => intro l; rw [List.foldl_cons, ih]; simp [putStep]
theorem Kept.simB {S : Nat → Prop} {B : Nat} {w W W' : World} (h : Kept S w W) (s : Sim B W W') (hB : w.heap.size ≤ B) : Kept S w W' :=
  ⟨s.os.trans h.os, s.tape.trans h.tape, s.output.trans h.output, Nat.le_trans h.size s.size, fun k hk hs => by
    have h1 := h.block k hk hs
    obtain ⟨o, ho⟩ : ∃ o, w.heap[k]? = some o := ⟨w.heap[k], by simp [hk]⟩
    rw [ho] at h1 ⊢
    exact s.block k o h1 (.inl (by omega))⟩
set_option maxRecDepth 20000 in
set_option maxHeartbeats 4000000 in
theorem vput_any (w : World) (R C : Nat) (off rs cs : Int) (bb n cap g : Nat) (f : Nat → Nat → Nat) (l : List Value) (hR : R ≤ 40) (hC : C ≤ 40) (hfit : R = 0 ∨ C = 0 ∨ Fit R C off rs cs n) (hn1 : n ≤ 100000)
    (hbuf : Arr w bb 65 l) (hn : n ≤ l.length) (hm : MemM C g R f w) (hgb : g ≠ bb) :
    Calls Tryz.prog 40 #[.slice (some ⟨bb, 0, none⟩) n cap, viewV R C off rs cs, matV R C g] w fun e w' => (∃ v, e = .returned v) ∧ Kept (fun q => q = bb) w w' ∧ Arr w' bb 65 (putL R C off rs cs f l) := by
  have hmix : Tryz.prog.follows .mixedOrders = true := by kernel_rfl
  refine callsIn_wide (n := 0) |>.1 ?_
  refine callsIn_of_wp_marks Tryz.func40 rfl trivial ?_ rfl
  simp only [Tryz.ntmps40, List.size_toArray, List.length_cons, List.length_nil, Nat.reduceAdd, Nat.reduceSub, Array.replicate_succ, Array.replicate_zero, List.push_toArray, List.append_toArray, List.nil_append, List.cons_append, viewV, matV]
  have hdep : Fence.wide.depth = none := rfl
  have hf2 : Fence.wide.fn 63 := trivial
  obtain ⟨b, hb⟩ : ∃ b, w.heap.size = b := ⟨_, rfl⟩
  have hbb : bb < b := by have := hbuf.lt; omega
  have hgl : g < b := by have := hm.1; omega
  have HBUF := hid hbuf
  have HM := hid hm
  clear hbuf hm
  have HP := hid (fun w => callsIn_wide (n := 0).2 (places_rows w R C g))
  unfold matV matO at HP
  gi_wp2_with fail
  refine (HP.out _).mono ?_
  rintro e w1 ⟨rfl, rfl⟩
  clear HP
  gi_wp2_with fail
  obtain ⟨O, hO⟩ : ∃ O : List Obj, [.cells #[.slice (some ⟨bb, 0, none⟩) n cap] 22, .cells #[.int .i64 (R : Int), .int .i64 (C : Int), .int .i64 off, .int .i64 rs, .int .i64 cs] 24, .cells #[.int .i64 (R : Int), .int .i64 (C : Int), .slice (some ⟨g, 0, none⟩) (R * C) (R * C)] 88,
    .cells #[.int .i64 (R : Int), .int .i64 (C : Int), .slice (some ⟨g, 0, none⟩) (R * C) (R * C)] 88] = O := ⟨_, rfl⟩
  obtain ⟨W0, hW0⟩ : ∃ W0, allocs w O = W0 := ⟨_, rfl⟩
  have eW : ((((w.alloc (.cells #[.slice (some ⟨bb, 0, none⟩) n cap] 22)).alloc (.cells #[.int .i64 (R : Int), .int .i64 (C : Int), .int .i64 off, .int .i64 rs, .int .i64 cs] 24)).alloc (.cells #[.int .i64 (R : Int), .int .i64 (C : Int), .slice (some ⟨g, 0, none⟩) (R * C) (R * C)] 88)).alloc
    (.cells #[.int .i64 (R : Int), .int .i64 (C : Int), .slice (some ⟨g, 0, none⟩) (R * C) (R * C)] 88)) = W0 := by rw [← hW0, ← hO]; rfl
  have hs0 : W0.heap.size = b + 4 := by rw [← hW0, allocs_size, hb, ← hO]; rfl
  have hb0 : Below b w W0 := by rw [← hW0, ← hb]; exact allocs_below w O
  have hat : ∀ i o, O[i]? = some o → W0.heap[b + i]? = some o := fun i o h => by rw [← hW0, ← hb]; exact allocs_at O w i o h
  have hB0 : PutB b bb n cap g R C off rs cs W0 := ⟨hat 0 _ (by rw [← hO]; rfl), hat 1 _ (by rw [← hO]; rfl), hat 2 _ (by rw [← hO]; rfl)⟩
  rw [eW]
  clear eW hat
  refine range_gives 0 (gf := 97) (fst := #[matV R C g]) (lb := #[]) rfl (enters_of Tryz.func97 (by kernel_rfl) rfl) (rows_gives R C g f hR hC) (by intro x hx; obtain ⟨y, _, rfl⟩ := List.mem_map.1 hx; rfl)
    (fun k W => PutB b bb n cap g R C off rs cs W ∧ Arr W bb 65 (((rowsL R C f).take k).foldl (putStep off rs cs) l) ∧ MemM C g R f W ∧ Kept (fun q => q = bb) w W ∧ b + 4 ≤ W.heap.size) (fun _ _ => False)
    (fun x a' W' => ∃ (y : Nat × Nat × Nat) (Bx : Nat), x = plcA y ∧ b + 4 ≤ Bx ∧ Arr W' Bx 117 [.int .i64 (y.1 : Int), .int .i64 (y.2.1 : Int)] ∧ a' = { tmps := #[.slice (some ⟨bb, 0, none⟩) n cap, .agg #[.int .i64 (R : Int), .int .i64 (C : Int), .int .i64 off, .int .i64 rs, .int .i64 cs], .agg #[.int .i64 (R : Int), .int .i64 (C : Int), .slice (some ⟨g, 0, none⟩) (R * C) (R * C)], .pointer (some ⟨b, 0, none⟩), .pointer (some ⟨b + 1, 0, none⟩), .pointer (some ⟨b + 1 + 1, 0, none⟩), .pointer (some ⟨Bx, 0, none⟩), .agg #[.int .i64 (R : Int), .int .i64 (C : Int), .slice (some ⟨g, 0, none⟩) (R * C) (R * C)], .func (.func 97) #[.agg #[.int .i64 (R : Int), .int .i64 (C : Int), .slice (some ⟨g, 0, none⟩) (R * C) (R * C)]] #[], plcV y.1 y.2.1, undef, undef, undef, undef, undef, undef, undef, undef, undef, undef, undef], defers := [] })
    ?hMem ?hI ?hIx ?hAx ?h0 ?assign ?body ?done ?stop
  case hMem => exact fun _ _ _ => trivial
  case hI => exact fun k A B h s => ⟨h.1.sim s, h.2.1.sim s, h.2.2.1.sim s, h.2.2.2.1.simB s (by omega), Nat.le_trans h.2.2.2.2 s.size⟩
  case hIx => exact fun c A B h s => h
  case hAx => rintro x a' A B ⟨y, Bx, h1, h2, h3, h4⟩ s; exact ⟨y, Bx, h1, h2, h3.sim s, h4⟩
  case h0 => exact ⟨hB0, HBUF.out.below hb0 hbb, HM.out.below hb0 hgl, Kept.ofBelow (hb ▸ hb0), by omega⟩
  case assign =>
    intro l1 k x W1 K hx hi hK
    obtain ⟨y, hy, rfl⟩ := map_get hx
    have hlt := hi.2.2.2.2
    have HK : Hid _ := hid (hK { tmps := #[.slice (some ⟨bb, 0, none⟩) n cap, .agg #[.int .i64 (R : Int), .int .i64 (C : Int), .int .i64 off, .int .i64 rs, .int .i64 cs], .agg #[.int .i64 (R : Int), .int .i64 (C : Int), .slice (some ⟨g, 0, none⟩) (R * C) (R * C)], .pointer (some ⟨b, 0, none⟩), .pointer (some ⟨b + 1, 0, none⟩), .pointer (some ⟨b + 1 + 1, 0, none⟩), .pointer (some ⟨W1.heap.size, 0, none⟩), .agg #[.int .i64 (R : Int), .int .i64 (C : Int), .slice (some ⟨g, 0, none⟩) (R * C) (R * C)], .func (.func 97) #[.agg #[.int .i64 (R : Int), .int .i64 (C : Int), .slice (some ⟨g, 0, none⟩) (R * C) (R * C)]] #[], plcV y.1 y.2.1, undef, undef, undef, undef, undef, undef, undef, undef, undef, undef, undef], defers := [] } (W1.alloc (plcO y.1 y.2.1))
      (KeptFrom.below (Below.refl' _ _)) ⟨hi.1.sim (Sim.alloc 0 _ _), hi.2.1.alloc _, hi.2.2.1.sim (Sim.alloc 0 _ _), hi.2.2.2.1.trans (Kept.ofBelow (S := fun q => q = bb) (Below.refl' _ _)) (fun q h => .inl h), by simp; omega⟩ ⟨y, W1.heap.size, rfl, hlt, Arr.newL _ _ _, rfl⟩)
    clear hK hi hx hy
    unfold plcA plcV
    unfold plcV plcO at HK
    gi_wp2
    exact HK.out
  case body =>
    rintro l1 k x a' W1 hx hi ⟨y, Bx, rfl, hBx, hb2, rfl⟩
    obtain ⟨y', hy, hye⟩ := map_get hx
    have hpe := plcA_inj hye
    have hmy := rowsL_mem (List.mem_of_getElem? hy)
    obtain ⟨i', j', z'⟩ := y'
    obtain ⟨i, j, z⟩ := y
    simp only at hpe hb2 hmy ⊢
    obtain ⟨rfl, rfl⟩ := hpe
    obtain ⟨hi', hj', rfl⟩ := hmy
    clear hx hye
    have hfit' : Fit R C off rs cs n := by rcases hfit with h | h | h; · omega
                                           · omega
                                           · exact h
    have hin := hfit'.1 i' j' hi' hj'
    have hst := fit_step (by omega) (by omega) hfit'
    obtain ⟨q, hq⟩ : ∃ q : Nat, off + i' * rs + j' * cs = (q : Int) := ⟨_, (Int.toNat_of_nonneg hin.1).symm⟩
    have hqn : q < n := by omega
    obtain ⟨hcb, hl1, hmm, hkk, hsz⟩ := hi
    obtain ⟨L, hL⟩ : ∃ L, ((rowsL R C f).take k).foldl (putStep off rs cs) l = L := ⟨_, rfl⟩
    rw [hL] at hl1
    have hLl : L.length = l.length := by rw [← hL]; exact putFold_len off rs cs _ l
    have hLn : ((rowsL R C f).take (k + 1)).foldl (putStep off rs cs) l = L.set q (.int .u64 (f i' j' : Int)) := by
      rw [List.take_add_one, hy]
      simp only [Option.toList, List.foldl_append, List.foldl_cons, List.foldl_nil]
      rw [hL]
      unfold putStep
      simp only
      rw [hq, Int.toNat_natCast]
    have hbel1 : Sim 0 W1 W1.drew := Sim.drew _ _
    have hS0 : PutB b bb n cap g R C off rs cs W1.drew ∧ Arr W1.drew Bx 117 [.int .i64 (i' : Int), .int .i64 (j' : Int)] := ⟨hcb.sim hbel1, hb2.sim hbel1⟩
    have hM1 : MemM C g R f W1.drew := hmm.sim hbel1
    have hA1 : Arr W1.drew bb 65 L := hl1.drew
    have hK1 : Kept (fun q => q = bb) w W1.drew := hkk.trans (Kept.drewN (S := fun q => q = bb) 1) (fun q h => .inl h)
    have hZ1 : b + 4 ≤ W1.drew.heap.size := hsz
    have hF1 : KeptFrom W0.heap.size W1 W1.drew := KeptFrom.below ((Below.refl _ W1).drew)
    unfold plcV
    gi_wp2_with fail
    refine region_round l1 (fun W' => PutB b bb n cap g R C off rs cs W' ∧ Arr W' Bx 117 [.int .i64 (i' : Int), .int .i64 (j' : Int)]) hmix (by kernel_rfl) (by rintro ⟨a, w, h⟩; exact h) ?_
    clear hcb hmm hl1 hkk hsz hb2 hbel1
    generalize W1.drew = V0 at *
    refine wpAnyH_take (i := 0) (v := .slice (some ⟨bb, 0, none⟩) n cap) rfl (by kernel_rfl) (by kernel_rfl) (by kernel_rfl) (fun _ _ _ h => h) (Or.inl ⟨by rfl, fun W' hS => ?_⟩) hS0 ?_
    · have q0 := hS.1.buf.cell (i := 0) rfl
      clear hS
      go_simp
    simp only [Act.put]
    refine wpAnyH_take (i := 1) (v := .agg #[.int .i64 (R : Int), .int .i64 (C : Int), .int .i64 off, .int .i64 rs, .int .i64 cs]) rfl (by kernel_rfl) (by kernel_rfl) (by kernel_rfl) (fun _ _ _ h => h) (Or.inl ⟨by rfl, fun W' hS => ?_⟩) hS0 ?_
    · have q0 := hS.1.view.cell (i := 0) rfl
      have q1 := hS.1.view.cell (i := 1) rfl
      have q2 := hS.1.view.cell (i := 2) rfl
      have q3 := hS.1.view.cell (i := 3) rfl
      have q4 := hS.1.view.cell (i := 4) rfl
      clear hS
      go_simp
    simp only [Act.put]
    refine wpAnyH_take (i := 2) (v := .pointer (some ⟨Bx, 0, none⟩)) rfl (by kernel_rfl) (by kernel_rfl) (by kernel_rfl) (fun _ _ _ h => h) (Or.inl ⟨by rfl, fun W' hS => ?_⟩) hS0 ?_
    · clear hS
      go_simp
    simp only [Act.put]
    refine wpAnyH_take (i := 3) (v := .int .i64 (i' : Int)) rfl (by kernel_rfl) (by kernel_rfl) (by kernel_rfl) (fun _ _ _ h => h) (Or.inl ⟨by rfl, fun W' hS => ?_⟩) hS0 ?_
    · have q0 := hS.2.cell (i := 0) rfl
      clear hS
      go_simp
    simp only [Act.put]
    refine wpAnyH_take (i := 4) (v := .pointer (some ⟨Bx, 1, none⟩)) rfl (by kernel_rfl) (by kernel_rfl) (by kernel_rfl) (fun _ _ _ h => h) (Or.inl ⟨by rfl, fun W' hS => ?_⟩) hS0 ?_
    · clear hS
      go_simp
    simp only [Act.put]
    refine wpAnyH_take (i := 5) (v := .int .i64 (j' : Int)) rfl (by kernel_rfl) (by kernel_rfl) (by kernel_rfl) (fun _ _ _ h => h) (Or.inl ⟨by rfl, fun W' hS => ?_⟩) hS0 ?_
    · have q0 := hS.2.cell (i := 1) rfl
      clear hS
      go_simp
    simp only [Act.put]
    refine wpAnyH_take (i := 7) (v := .agg #[.int .i64 (R : Int), .int .i64 (C : Int), .slice (some ⟨g, 0, none⟩) (R * C) (R * C)]) rfl (by kernel_rfl) (by kernel_rfl) (by kernel_rfl) (fun _ _ _ h => h) (Or.inl ⟨by rfl, fun W' hS => ?_⟩) hS0 ?_
    · have q0 := hS.1.m.cell (i := 0) rfl
      have q1 := hS.1.m.cell (i := 1) rfl
      have q2 := hS.1.m.cell (i := 2) rfl
      clear hS
      go_simp
    simp only [Act.put]
    refine wpAnyH_take (i := 8) (v := .agg #[.int .i64 (i' : Int), .int .i64 (j' : Int)]) rfl (by kernel_rfl) (by kernel_rfl) (by kernel_rfl) (fun _ _ _ h => h) (Or.inl ⟨by rfl, fun W' hS => ?_⟩) hS0 ?_
    · have q0 := hS.2.cell (i := 0) rfl
      have q1 := hS.2.cell (i := 1) rfl
      clear hS
      go_simp
    simp only [Act.put]
    refine wpAnyH_ready (rs := [6]) (by kernel_rfl) (by simp) ?_
    refine AllReadyH.cons rfl (fun K hKK => ?_) AllReadyH.nil
    go_simp
    refine (at_any _ R C off rs cs i' j' (by omega) (prod_small (by omega) (by omega)) (prod_small (by omega) (by omega))).mono ?_
    rintro e w1 ⟨rfl, hw1⟩
    have s1 : Below V0.heap.size V0 w1 := by rw [hw1]; exact Below.refl' _ _
    clear hw1
    have hS1 : PutB b bb n cap g R C off rs cs w1 ∧ Arr w1 Bx 117 [.int .i64 (i' : Int), .int .i64 (j' : Int)] := ⟨hS0.1.sim (Sim.below (B := 0) s1), hS0.2.belowAll s1⟩
    have hM2 : MemM C g R f w1 := hM1.below s1 hM1.1
    have hA2 := hA1.belowAll s1
    have hK2 : Kept (fun q => q = bb) w w1 := hK1.trans (Kept.ofBelow (S := fun q => q = bb) s1) (fun q h => .inl h)
    have hF2 : KeptFrom W0.heap.size W1 w1 := hF1.trans (KeptFrom.below s1)
    have hZ2 : b + 4 ≤ w1.heap.size := Nat.le_trans hZ1 s1.size
    rw [hq]
    refine hKK.out _ _ hS1 (fun hHeld => ?_)
    clear hKK hHeld hS0 hM1 hA1 hK1 hF1 hZ1 s1
    have hat := mat_at w1 R C g i' j' (f i' j') hR hC hi' hj' (hM2.2 i' j' hi' hj') hM2.1
    unfold matV plcV at hat
    refine wpAnyH_ready (rs := [9]) (by kernel_rfl) (by simp) ?_
    refine AllReadyH.cons rfl (fun K hKK => ?_) AllReadyH.nil
    go_simp
    refine hat.mono ?_
    rintro e w2 ⟨rfl, hw2⟩
    have s2 : Below w1.heap.size w1 w2 := by rw [hw2]; exact ((Below.refl _ _).alloc (Nat.le_refl _) _).alloc (by simp) _
    clear hw2 hat
    have hS2 : PutB b bb n cap g R C off rs cs w2 ∧ Arr w2 Bx 117 [.int .i64 (i' : Int), .int .i64 (j' : Int)] := ⟨hS1.1.sim (Sim.below (B := 0) s2), hS1.2.belowAll s2⟩
    have hM3 : MemM C g R f w2 := hM2.below s2 hM2.1
    have hA3 := hA2.belowAll s2
    have hK3 : Kept (fun q => q = bb) w w2 := hK2.trans (Kept.ofBelow (S := fun q => q = bb) s2) (fun q h => .inl h)
    have hF3 : KeptFrom W0.heap.size W1 w2 := hF2.trans (KeptFrom.below s2)
    have hZ3 : b + 4 ≤ w2.heap.size := Nat.le_trans hZ2 s2.size
    refine hKK.out _ _ hS2 (fun hHeld => ?_)
    clear hKK hHeld hS1 hM2 hA2 hK2 hF2 hZ2 s2
    have hqi : (q : Int) < n := by omega
    refine wpAnyH_take (i := 10) (v := .pointer (some ⟨bb, q, none⟩)) rfl (by kernel_rfl) (by kernel_rfl) (by kernel_rfl) (fun _ _ _ h => h) (Or.inl ⟨by rfl, fun W' hS => ?_⟩) hS2 ?_
    · clear hS
      go_simp
    simp only [Act.put]
    obtain ⟨y, hy0⟩ : ∃ y, L[q]? = some y := ⟨L[q]'(by omega), by simp⟩
    have x0 := hA3.cell hy0
    have f0 := hA3.frozen q
    refine wpAnyH_ready (rs := [11]) (by kernel_rfl) (by simp) ?_
    refine AllReadyH.cons rfl (fun K hKK => ?_) AllReadyH.nil
    go_simp
    have hS3 : PutB b bb n cap g R C off rs cs (w2.setCell ⟨bb, q, none⟩ (.int .u64 (f i' j' : Int))) ∧ Arr (w2.setCell ⟨bb, q, none⟩ (.int .u64 (f i' j' : Int))) Bx 117 [.int .i64 (i' : Int), .int .i64 (j' : Int)] := ⟨hS2.1.set hbb _ _, hS2.2.other _ (by omega)⟩
    refine hKK.out _ _ hS3 (fun _ => wpAnyH_done (by kernel_rfl) ?_ _)
    refine ⟨hF3.trans (KeptFrom.set (by omega) _), hS3.1, ?_, ⟨by simpa [World.setCell] using hM3.1, fun a c ha hc => ?_⟩, hK3.trans (Kept.set (S := fun q => q = bb) rfl _) (fun q h => .inl h), by simpa [World.setCell] using hZ3⟩
    · rw [hLn]; exact hA3.set q _
    · exact (World.cell?_of_block (w := w2) (Below.heap_setCell _ _ _ _ hgb)).trans (hM3.2 a c ha hc)
  case done =>
    intro D W1 hD hi hK
    refine ⟨by simp, .inl ⟨_, _, rfl, run_takeDeferred hK, ?_⟩⟩
    refine ⟨_, results_none rfl _ _ _, ⟨_, rfl⟩, ?_, ?_⟩
    · exact hi.2.2.2.1.trans (T := fun q => q = D) ⟨rfl, rfl, rfl, by simp [World.putObj], fun q hq hs => World.putObj_heap_other (fun e => hs e)⟩ (fun q hq => .inr (by omega))
    · have h2 := hi.2.1
      rw [List.length_map, List.take_length] at h2
      exact (World.putObj_heap_other (by omega)).trans h2
  case stop => exact fun _ _ _ _ h => h.elim
end Go.Proofs.YthdcceackfdbbaaGreatDoor
namespace Go.Proofs.YthdcceackfdbbaaGreatDoor
open Go Go.RowKit
theorem rc_inj {C i j i' j' : Nat} (hj : j < C) (hj' : j' < C) (h : i * C + j = i' * C + j') : i = i' ∧ j = j' := by
  have e1 : (i * C + j) / C = i := by rw [Nat.add_comm, Nat.add_mul_div_right _ _ (by omega), Nat.div_eq_of_lt hj]; omega
  have e2 : (i' * C + j') / C = i' := by rw [Nat.add_comm, Nat.add_mul_div_right _ _ (by omega), Nat.div_eq_of_lt hj']; omega
  have hi : i = i' := by rw [← e1, ← e2, h]
  subst hi
  exact ⟨rfl, by omega⟩
end Go.Proofs.YthdcceackfdbbaaGreatDoor
namespace Go.Proofs.YthdcceackfdbbaaGreatDoor
open Go Go.RowKit
theorem nums_set {L : List Value} {R C : Nat} {f : Nat → Nat → Nat} (hl : L.length = R * C) (h : ∀ a b, a < R → b < C → L[a * C + b]? = some (.int .u64 (f a b : Int))) {i j : Nat} (hi : i < R) (hj : j < C) (x : Nat) :
    ∀ a b, a < R → b < C → (L.set (i * C + j) (.int .u64 (x : Int)))[a * C + b]? = some (.int .u64 (setF f i j x a b : Int)) := by
  intro a b ha hb
  unfold setF
  by_cases e : a = i ∧ b = j
  · rw [if_pos e, e.1, e.2, List.getElem?_set_self (by have := idx_lt hi hj; omega)]
  · rw [if_neg e, List.getElem?_set_ne (fun h => e (by have := rc_inj hj hb h; omega))]
    exact h a b ha hb
set_option maxRecDepth 20000 in
set_option maxHeartbeats 2000000 in
theorem rentry_0 (w : World) (p B : Nat) (ao : Option Addr) (n cap : Nat) (ws : List ByteArray) (hn : ws.length = n) (hn1 : n ≤ 1000000) (hcap : n ≤ cap) (hsz : ∀ x ∈ ws, x.size ≤ 1000000) (hws : StrsAt w ao ws) (R C left : Nat) (free : List (Nat × Nat)) (f : Nat → Nat → Nat) (h : TxtIs B w p (.ent 0 R C left free f)) (hB : B ≤ p) :
    Calls Tryz.prog 118 #[.pointer (some ⟨p, 0, none⟩), .slice ao n cap] w fun e w' => LineQ B w p (arrE 0 R C left free f false (ws.map (·.data.toList))) e w' := by
  obtain ⟨_, hR, hC, hCR, had, g, hb, bl, aP, hBg, hBh, hgh, hgp, hhp, ⟨L, aG, hLl, hLn⟩, aH, hbl, hle, hfr, _⟩ := h
  obtain ⟨hfree, htot⟩ := hfr (by omega)
  have HL : Hid (∀ w : World, Calls Tryz.prog 77 #[.int .i64 0] w fun e w' => e = .returned (.bool false) ∧ w' = w) := fun w => by simpa using list_any w 0
  have HH : Hid (∀ w : World, Calls Tryz.prog 44 #[.int .i64 0] w fun e w' => e = .returned (.bool false) ∧ w' = w) := fun w => by simpa using half_any w 0
  have hpl := aP.lt
  have hRC : R * C ≤ 1600 := Nat.mul_le_mul hR hC
  obtain ⟨res, hres⟩ : ∃ res, arrE 0 R C left free f false (ws.map (·.data.toList)) = res := ⟨_, rfl⟩
  rw [hres]
  have HRES := hid hres
  have HP := hid aP
  have HG := hid aG
  have HHB := hid aH
  have HLN := hid hLn
  have HLL := hid hLl
  have HFREE := hid hfree
  have HTOT := hid htot
  have HBL := hid hbl
  have HWS := hid hws
  have HSZ := hid hsz
  have p0 := aP.cell (i := 0) rfl
  have hplen : (plsL 0 R C).length ≤ 1600 := by rw [plsL_eq (by omega), List.length_map]; exact Nat.le_trans (List.length_filter_le _ _) (by rw [List.length_range]; exact hRC)
  have HCR : Hid (True) := trivial
  clear hCR hres aP aG aH hLn hLl hfree htot hbl hws hsz hfr
  go_enter Tryz.func118, Tryz.ntmps118
  go_wp2_with fail
  refine (HL.out w).mono ?_
  rintro e w1 ⟨rfl, rfl⟩
  by_cases h1 : n = 1
  · subst h1
    obtain ⟨x0, rfl⟩ : ∃ x0, ws = [x0] := by
      match ws, hn with
      | [x0], _ => exact ⟨x0, rfl⟩
    have hwx := HWS.out 0 x0 (by simp)
    obtain ⟨gw, ow, rfl, hgw, hcw⟩ := hwx
    rw [Nat.add_zero] at hcw
    have hx0s := HSZ.out x0 (by simp)
    go_wp2_with fail
    refine (rcounted_any w1 (some ⟨gw, ow, none⟩) 0 cap [] rfl (by omega) (by simp) (fun k x h => by simp at h)).mono ?_
    rintro e w2 ⟨hr, b2⟩
    obtain ⟨vo, vn, vc, rfl⟩ : ∃ vo vn vc, e = .returned (.tuple #[.slice vo vn vc, .bool true]) := by
      rcases hr with ⟨h, _⟩ | ⟨l, v, h, he, ho⟩
      · cases h
      · rcases ho.2 with ⟨e2, _⟩ | ⟨g, cap, cur, e2, _⟩
        · exact ⟨_, _, _, by rw [he, e2]⟩
        · exact ⟨_, _, _, by rw [he, e2]⟩
    clear hr
    obtain ⟨wt, hwt⟩ : ∃ wt, had + left = wt := ⟨_, rfl⟩
    rw [hwt] at HP
    have HP2 := hid (HP.out.belowAll b2)
    have HG2 := hid (HG.out.belowAll b2)
    have HHB2 := hid (HHB.out.belowAll b2)
    have HB2 : Hid (Below B w1 w2) := b2.mono (by omega)
    have hcw2 : w2.cell? ⟨gw, ow, none⟩ = some (.string x0) := (b2.cell (p := ⟨gw, ow, none⟩) hgw).trans hcw
    have hgw2 : gw < w2.heap.size := Nat.lt_of_lt_of_le hgw b2.size
    have hpl2 : p < w2.heap.size := Nat.lt_of_lt_of_le hpl b2.size
    have HRS : Hid ((if left = 0 then (10, .first) else putT 0 R C left free f 0 x0.data.toList) = res) := HRES.out
    clear HP HG HHB b2 hcw hgw p0 HRES HWS
    have q2 := HP2.out.cell (i := 2) rfl
    have q3 := HP2.out.cell (i := 3) rfl
    by_cases hl0 : left = 0
    · obtain rfl : res = (10, .first) := by rw [← HRS.out, if_pos hl0]
      have hhw : ((had : Int) == (wt : Int)) = true := by rw [beq_iff_eq]; omega
      clear HRS
      go_wp2_with fail
      go_quiet (fail)
      go_wp2
      go_ret
      exact ⟨rfl, below_dn HB2.out _, fun h => by cases h⟩
    · have hhw : ((had : Int) == (wt : Int)) = false := by rw [beq_eq_false_iff_ne]; omega
      obtain ⟨⟨i, j⟩, hij⟩ : ∃ q, (plsL 0 R C)[had]? = some q := ⟨(plsL 0 R C)[had]'(by have := HTOT.out; omega), by simp⟩
      obtain ⟨hiR, hjC, hji⟩ := (pls_mem (by omega)).1 (List.mem_of_getElem? hij)
      have hfg : free.getD 0 (0, 0) = (i, j) := by
        rw [HFREE.out, List.getD_eq_getElem?_getD, List.getElem?_drop, Nat.add_zero, hij]; rfl
      have HFG := hid hfg
      have HIJ := hid hij
      clear hfg hij
      go_wp2_with fail
      go_quiet (fail)
      have HP3 : Hid (Arr (w2.drewN nq) p 133 (txtC 0 true wt had R C (.slice (some ⟨g, 0, none⟩) (R * C) (R * C)) (.slice (some ⟨hb, 0, none⟩) (R * C) (R * C)))) := HP2.out
      have HG3 : Hid (Arr (w2.drewN nq) g 65 L) := HG2.out
      have HHB3 : Hid (Arr (w2.drewN nq) hb 4 (bl.map Value.bool)) := HHB2.out
      have HB3 : Hid (Below B w1 (w2.drewN nq)) := below_dn HB2.out nq
      have hcw3 : (w2.drewN nq).cell? ⟨gw, ow, none⟩ = some (.string x0) := hcw2
      have hgw3 : gw < (w2.drewN nq).heap.size := hgw2
      have hpl3 : p < (w2.drewN nq).heap.size := hpl2
      clear HP2 HG2 HHB2 HB2 hcw2 hgw2 hpl2 q2 q3
      generalize w2.drewN nq = Z at *
      have HNX := hid (rnext_any Z p 0 R C wt had i j true _ _ (by omega) hR hC (by have := HTOT.out; omega) HP3.out HIJ.out)
      have p0 := HP3.out.cell (i := 0) rfl
      go_wp2_with fail
      refine HNX.out.mono ?_
      rintro e Z' ⟨rfl, rfl⟩
      clear HNX
      go_wp2_with fail
      refine (HL.out Z').mono ?_
      rintro e Z'' ⟨rfl, rfl⟩
      have HSC := hid (rscan_any Z'' x0 (by unfold maxLen; omega))
      obtain ⟨sx, se, hsc⟩ : ∃ sx se, scanL x0.data.toList = (sx, se) := ⟨_, _, rfl⟩
      rw [hsc] at HSC
      simp only at HSC
      go_wp2_with fail
      refine HSC.out.mono ?_
      rintro e Y ⟨rfl, bY⟩
      have HP4 := hid (HP3.out.belowAll bY)
      have HG4 := hid (HG3.out.belowAll bY)
      have HHB4 := hid (HHB3.out.belowAll bY)
      have HB4 : Hid (Below B w1 Y) := HB3.out.trans (bY.mono (by omega))
      clear HSC bY HP3 HG3 HHB3 HB3 hcw3 p0
      by_cases hse : se = 0
      · subst hse
        obtain ⟨P, hPi⟩ : ∃ P : Nat, (i : Int) * (C : Int) = (P : Int) := ⟨i * C, by push_cast; rfl⟩
        have eP : i * C = P := by have : ((i * C : Nat) : Int) = P := by push_cast; exact hPi
                                  omega
        have hPj : P + j < R * C := by have := idx_lt hiR hjC; omega
        obtain ⟨N, hN⟩ : ∃ N, R * C = N := ⟨_, rfl⟩
        rw [hN] at hPj HP4 HLL hRC
        have hPj' : (P : Int) + j < N := by omega
        obtain ⟨old, hold⟩ : ∃ v, L[P + j]? = some v := ⟨L[P + j]'(by rw [HLL.out]; exact hPj), by simp⟩
        have q3 := HP4.out.cell (i := 3) rfl
        have e3 := HP4.out.frozen 3
        have a5 := HP4.out.set 3 (.int .i64 ((had : Int) + 1))
        have HP5 : Hid (Arr (Y.setCell ⟨p, 3, none⟩ (.int .i64 ((had : Int) + 1))) p 133 (txtC 0 true wt (had + 1) R C (.slice (some ⟨g, 0, none⟩) N N) (.slice (some ⟨hb, 0, none⟩) N N))) := a5
        have HG5 : Hid (Arr (Y.setCell ⟨p, 3, none⟩ (.int .i64 ((had : Int) + 1))) g 65 L) := HG4.out.other _ hgp
        have HHB5 : Hid (Arr (Y.setCell ⟨p, 3, none⟩ (.int .i64 ((had : Int) + 1))) hb 4 (bl.map Value.bool)) := HHB4.out.other _ hhp
        have HB5 : Hid (Below B w1 (Y.setCell ⟨p, 3, none⟩ (.int .i64 ((had : Int) + 1)))) := HB4.out.setCell (p := ⟨p, 3, none⟩) hB _
        have hhad : (had : Int) ≤ 1600 := by have := HTOT.out; omega
        clear a5 HP4 HG4 HHB4 HB4
        go_wp2_with fail
        clear q3 e3
        generalize Y.setCell ⟨p, 3, none⟩ (.int .i64 ((had : Int) + 1)) = Y5 at *
        have q5 := HP5.out.cell (i := 5) rfl
        have q6 := HP5.out.cell (i := 6) rfl
        have g0 := HG5.out.cell hold
        have g1 := HG5.out.frozen (P + j)
        have HP6 : Hid (Arr (Y5.setCell ⟨g, P + j, none⟩ (.int .u64 (sx : Int))).drew p 133 (txtC 0 true wt (had + 1) R C (.slice (some ⟨g, 0, none⟩) N N) (.slice (some ⟨hb, 0, none⟩) N N))) := HP5.out.other _ (Ne.symm hgp)
        have HG6 : Hid (Arr (Y5.setCell ⟨g, P + j, none⟩ (.int .u64 (sx : Int))).drew g 65 (L.set (P + j) (.int .u64 (sx : Int)))) := HG5.out.set _ _
        have HHB6 : Hid (Arr (Y5.setCell ⟨g, P + j, none⟩ (.int .u64 (sx : Int))).drew hb 4 (bl.map Value.bool)) := HHB5.out.other _ (Ne.symm hgh)
        have HB6 : Hid (Below B w1 (Y5.setCell ⟨g, P + j, none⟩ (.int .u64 (sx : Int))).drew) := (HB5.out.setCell (p := ⟨g, P + j, none⟩) hBg _).drew
        clear HP5 HG5 HHB5 HB5
        go_region
        clear q5 q6 g0 g1
        generalize (Y5.setCell ⟨g, P + j, none⟩ (.int .u64 (sx : Int))).drew = Y6 at *
        have p0 := HP6.out.cell (i := 0) rfl
        go_wp2_with fail
        refine (HH.out Y6).mono ?_
        rintro e Y7 ⟨rfl, rfl⟩
        have hns := nums_set (by rw [HLL.out, hN]) HLN.out hiR hjC sx
        rw [eP] at hns
        have hef : free.eraseIdx 0 = (plsL 0 R C).drop (had + 1) := by
          rw [HFREE.out, List.eraseIdx_zero, List.tail_drop]
        obtain rfl : res = (0, TSt.ent 0 R C (left - 1) (free.eraseIdx 0) (putF 0 f (i, j) sx)) := by
          rw [← HRS.out, if_neg hl0]; unfold putT; rw [hsc, if_neg (by simp), HFG.out]
        have HNS := hid hns
        have HEF := hid hef
        clear hns hef HRS p0
        have hfin : Hid (LineQ B w1 p (0, TSt.ent 0 R C (left - 1) (free.eraseIdx 0) (putF 0 f (i, j) sx)) (.returned (.int .i64 0)) Y7) := by
          refine ⟨rfl, HB6.out, fun _ => ⟨by omega, hR, hC, (fun h => by omega), had + 1, g, hb, bl, ?_, hBg, hBh, hgh, hgp, hhp, ⟨_, HG6.out, by rw [List.length_set, HLL.out, hN], HNS.out⟩, HHB6.out, HBL.out, by omega, ⟨fun _ => ⟨HEF.out, by have := HTOT.out; omega⟩, fun h => by omega⟩⟩⟩
          rw [show had + 1 + (left - 1) = wt by omega, hN]; exact HP6.out
        clear HP6 HG6 HHB6 HB6
        go_wp2
        go_ret
        exact hfin.out
      · have hse' : ((se : Int) != 0) = true := by simp; omega
        obtain rfl : res = (se, .first) := by
          rw [← HRS.out, if_neg hl0]; unfold putT; rw [hsc, if_pos hse]
        clear HRS
        go_wp2
        go_ret
        exact ⟨rfl, HB4.out, fun h => (hse h).elim⟩
  · have h1' : ((n : Int) == 1) = false := by rw [beq_eq_false_iff_ne]; omega
    obtain rfl : res = (6, .first) := by
      rw [← HRES.out]; unfold arrE; rw [if_pos (.inr (by simp; omega))]
    clear HRES
    go_wp2
    go_ret
    exact ⟨rfl, Below.refl _ _, fun h => by cases h⟩
set_option maxRecDepth 20000 in
set_option maxHeartbeats 2000000 in
theorem rentry_1 (w : World) (p B : Nat) (ao : Option Addr) (n cap : Nat) (ws : List ByteArray) (hn : ws.length = n) (hn1 : n ≤ 1000000) (hcap : n ≤ cap) (hsz : ∀ x ∈ ws, x.size ≤ 1000000) (hws : StrsAt w ao ws) (R C left : Nat) (free : List (Nat × Nat)) (f : Nat → Nat → Nat) (h : TxtIs B w p (.ent 1 R C left free f)) (hB : B ≤ p) :
    Calls Tryz.prog 118 #[.pointer (some ⟨p, 0, none⟩), .slice ao n cap] w fun e w' => LineQ B w p (arrE 1 R C left free f false (ws.map (·.data.toList))) e w' := by
  obtain ⟨_, hR, hC, hCR, had, g, hb, bl, aP, hBg, hBh, hgh, hgp, hhp, ⟨L, aG, hLl, hLn⟩, aH, hbl, hle, hfr, _⟩ := h
  obtain ⟨hfree, htot⟩ := hfr (by omega)
  have HL : Hid (∀ w : World, Calls Tryz.prog 77 #[.int .i64 1] w fun e w' => e = .returned (.bool false) ∧ w' = w) := fun w => by simpa using list_any w 1
  have HH : Hid (∀ w : World, Calls Tryz.prog 44 #[.int .i64 1] w fun e w' => e = .returned (.bool true) ∧ w' = w) := fun w => by simpa using half_any w 1
  have hpl := aP.lt
  have hRC : R * C ≤ 1600 := Nat.mul_le_mul hR hC
  obtain ⟨res, hres⟩ : ∃ res, arrE 1 R C left free f false (ws.map (·.data.toList)) = res := ⟨_, rfl⟩
  rw [hres]
  have HRES := hid hres
  have HP := hid aP
  have HG := hid aG
  have HHB := hid aH
  have HLN := hid hLn
  have HLL := hid hLl
  have HFREE := hid hfree
  have HTOT := hid htot
  have HBL := hid hbl
  have HWS := hid hws
  have HSZ := hid hsz
  have p0 := aP.cell (i := 0) rfl
  have hplen : (plsL 1 R C).length ≤ 1600 := by rw [plsL_eq (by omega), List.length_map]; exact Nat.le_trans (List.length_filter_le _ _) (by rw [List.length_range]; exact hRC)
  have HCR : Hid (C = R) := hCR (by omega)
  clear hCR hres aP aG aH hLn hLl hfree htot hbl hws hsz hfr
  go_enter Tryz.func118, Tryz.ntmps118
  go_wp2_with fail
  refine (HL.out w).mono ?_
  rintro e w1 ⟨rfl, rfl⟩
  by_cases h1 : n = 1
  · subst h1
    obtain ⟨x0, rfl⟩ : ∃ x0, ws = [x0] := by
      match ws, hn with
      | [x0], _ => exact ⟨x0, rfl⟩
    have hwx := HWS.out 0 x0 (by simp)
    obtain ⟨gw, ow, rfl, hgw, hcw⟩ := hwx
    rw [Nat.add_zero] at hcw
    have hx0s := HSZ.out x0 (by simp)
    go_wp2_with fail
    refine (rcounted_any w1 (some ⟨gw, ow, none⟩) 0 cap [] rfl (by omega) (by simp) (fun k x h => by simp at h)).mono ?_
    rintro e w2 ⟨hr, b2⟩
    obtain ⟨vo, vn, vc, rfl⟩ : ∃ vo vn vc, e = .returned (.tuple #[.slice vo vn vc, .bool true]) := by
      rcases hr with ⟨h, _⟩ | ⟨l, v, h, he, ho⟩
      · cases h
      · rcases ho.2 with ⟨e2, _⟩ | ⟨g, cap, cur, e2, _⟩
        · exact ⟨_, _, _, by rw [he, e2]⟩
        · exact ⟨_, _, _, by rw [he, e2]⟩
    clear hr
    obtain ⟨wt, hwt⟩ : ∃ wt, had + left = wt := ⟨_, rfl⟩
    rw [hwt] at HP
    have HP2 := hid (HP.out.belowAll b2)
    have HG2 := hid (HG.out.belowAll b2)
    have HHB2 := hid (HHB.out.belowAll b2)
    have HB2 : Hid (Below B w1 w2) := b2.mono (by omega)
    have hcw2 : w2.cell? ⟨gw, ow, none⟩ = some (.string x0) := (b2.cell (p := ⟨gw, ow, none⟩) hgw).trans hcw
    have hgw2 : gw < w2.heap.size := Nat.lt_of_lt_of_le hgw b2.size
    have hpl2 : p < w2.heap.size := Nat.lt_of_lt_of_le hpl b2.size
    have HRS : Hid ((if left = 0 then (10, .first) else putT 1 R C left free f 0 x0.data.toList) = res) := HRES.out
    clear HP HG HHB b2 hcw hgw p0 HRES HWS
    have q2 := HP2.out.cell (i := 2) rfl
    have q3 := HP2.out.cell (i := 3) rfl
    by_cases hl0 : left = 0
    · obtain rfl : res = (10, .first) := by rw [← HRS.out, if_pos hl0]
      have hhw : ((had : Int) == (wt : Int)) = true := by rw [beq_iff_eq]; omega
      clear HRS
      go_wp2_with fail
      go_quiet (fail)
      go_wp2
      go_ret
      exact ⟨rfl, below_dn HB2.out _, fun h => by cases h⟩
    · have hhw : ((had : Int) == (wt : Int)) = false := by rw [beq_eq_false_iff_ne]; omega
      obtain ⟨⟨i, j⟩, hij⟩ : ∃ q, (plsL 1 R C)[had]? = some q := ⟨(plsL 1 R C)[had]'(by have := HTOT.out; omega), by simp⟩
      obtain ⟨hiR, hjC, hji⟩ := (pls_mem (by omega)).1 (List.mem_of_getElem? hij)
      have hfg : free.getD 0 (0, 0) = (i, j) := by
        rw [HFREE.out, List.getD_eq_getElem?_getD, List.getElem?_drop, Nat.add_zero, hij]; rfl
      have HFG := hid hfg
      have HIJ := hid hij
      clear hfg hij
      go_wp2_with fail
      go_quiet (fail)
      have HP3 : Hid (Arr (w2.drewN nq) p 133 (txtC 1 true wt had R C (.slice (some ⟨g, 0, none⟩) (R * C) (R * C)) (.slice (some ⟨hb, 0, none⟩) (R * C) (R * C)))) := HP2.out
      have HG3 : Hid (Arr (w2.drewN nq) g 65 L) := HG2.out
      have HHB3 : Hid (Arr (w2.drewN nq) hb 4 (bl.map Value.bool)) := HHB2.out
      have HB3 : Hid (Below B w1 (w2.drewN nq)) := below_dn HB2.out nq
      have hcw3 : (w2.drewN nq).cell? ⟨gw, ow, none⟩ = some (.string x0) := hcw2
      have hgw3 : gw < (w2.drewN nq).heap.size := hgw2
      have hpl3 : p < (w2.drewN nq).heap.size := hpl2
      clear HP2 HG2 HHB2 HB2 hcw2 hgw2 hpl2 q2 q3
      generalize w2.drewN nq = Z at *
      have HNX := hid (rnext_any Z p 1 R C wt had i j true _ _ (by omega) hR hC (by have := HTOT.out; omega) HP3.out HIJ.out)
      have p0 := HP3.out.cell (i := 0) rfl
      go_wp2_with fail
      refine HNX.out.mono ?_
      rintro e Z' ⟨rfl, rfl⟩
      clear HNX
      go_wp2_with fail
      refine (HL.out Z').mono ?_
      rintro e Z'' ⟨rfl, rfl⟩
      have HSC := hid (rscan_any Z'' x0 (by unfold maxLen; omega))
      obtain ⟨sx, se, hsc⟩ : ∃ sx se, scanL x0.data.toList = (sx, se) := ⟨_, _, rfl⟩
      rw [hsc] at HSC
      simp only at HSC
      go_wp2_with fail
      refine HSC.out.mono ?_
      rintro e Y ⟨rfl, bY⟩
      have HP4 := hid (HP3.out.belowAll bY)
      have HG4 := hid (HG3.out.belowAll bY)
      have HHB4 := hid (HHB3.out.belowAll bY)
      have HB4 : Hid (Below B w1 Y) := HB3.out.trans (bY.mono (by omega))
      clear HSC bY HP3 HG3 HHB3 HB3 hcw3 p0
      by_cases hse : se = 0
      · subst hse
        obtain ⟨P, hPi⟩ : ∃ P : Nat, (i : Int) * (C : Int) = (P : Int) := ⟨i * C, by push_cast; rfl⟩
        have eP : i * C = P := by have : ((i * C : Nat) : Int) = P := by push_cast; exact hPi
                                  omega
        have hPj : P + j < R * C := by have := idx_lt hiR hjC; omega
        obtain ⟨N, hN⟩ : ∃ N, R * C = N := ⟨_, rfl⟩
        rw [hN] at hPj HP4 HLL hRC
        have hPj' : (P : Int) + j < N := by omega
        obtain ⟨old, hold⟩ : ∃ v, L[P + j]? = some v := ⟨L[P + j]'(by rw [HLL.out]; exact hPj), by simp⟩
        have q3 := HP4.out.cell (i := 3) rfl
        have e3 := HP4.out.frozen 3
        have a5 := HP4.out.set 3 (.int .i64 ((had : Int) + 1))
        have HP5 : Hid (Arr (Y.setCell ⟨p, 3, none⟩ (.int .i64 ((had : Int) + 1))) p 133 (txtC 1 true wt (had + 1) R C (.slice (some ⟨g, 0, none⟩) N N) (.slice (some ⟨hb, 0, none⟩) N N))) := a5
        have HG5 : Hid (Arr (Y.setCell ⟨p, 3, none⟩ (.int .i64 ((had : Int) + 1))) g 65 L) := HG4.out.other _ hgp
        have HHB5 : Hid (Arr (Y.setCell ⟨p, 3, none⟩ (.int .i64 ((had : Int) + 1))) hb 4 (bl.map Value.bool)) := HHB4.out.other _ hhp
        have HB5 : Hid (Below B w1 (Y.setCell ⟨p, 3, none⟩ (.int .i64 ((had : Int) + 1)))) := HB4.out.setCell (p := ⟨p, 3, none⟩) hB _
        have hhad : (had : Int) ≤ 1600 := by have := HTOT.out; omega
        clear a5 HP4 HG4 HHB4 HB4
        go_wp2_with fail
        clear q3 e3
        generalize Y.setCell ⟨p, 3, none⟩ (.int .i64 ((had : Int) + 1)) = Y5 at *
        have q5 := HP5.out.cell (i := 5) rfl
        have q6 := HP5.out.cell (i := 6) rfl
        have g0 := HG5.out.cell hold
        have g1 := HG5.out.frozen (P + j)
        have HP6 : Hid (Arr (Y5.setCell ⟨g, P + j, none⟩ (.int .u64 (sx : Int))).drew p 133 (txtC 1 true wt (had + 1) R C (.slice (some ⟨g, 0, none⟩) N N) (.slice (some ⟨hb, 0, none⟩) N N))) := HP5.out.other _ (Ne.symm hgp)
        have HG6 : Hid (Arr (Y5.setCell ⟨g, P + j, none⟩ (.int .u64 (sx : Int))).drew g 65 (L.set (P + j) (.int .u64 (sx : Int)))) := HG5.out.set _ _
        have HHB6 : Hid (Arr (Y5.setCell ⟨g, P + j, none⟩ (.int .u64 (sx : Int))).drew hb 4 (bl.map Value.bool)) := HHB5.out.other _ (Ne.symm hgh)
        have HB6 : Hid (Below B w1 (Y5.setCell ⟨g, P + j, none⟩ (.int .u64 (sx : Int))).drew) := (HB5.out.setCell (p := ⟨g, P + j, none⟩) hBg _).drew
        clear HP5 HG5 HHB5 HB5
        go_region
        clear q5 q6 g0 g1
        generalize (Y5.setCell ⟨g, P + j, none⟩ (.int .u64 (sx : Int))).drew = Y6 at *
        have p0 := HP6.out.cell (i := 0) rfl
        go_wp2_with fail
        refine (HH.out Y6).mono ?_
        rintro e Y7 ⟨rfl, rfl⟩
        have hns := nums_set (by rw [HLL.out, hN]) HLN.out hiR hjC sx
        rw [eP] at hns
        have hef : free.eraseIdx 0 = (plsL 1 R C).drop (had + 1) := by
          rw [HFREE.out, List.eraseIdx_zero, List.tail_drop]
        obtain rfl : res = (0, TSt.ent 1 R C (left - 1) (free.eraseIdx 0) (putF 1 f (i, j) sx)) := by
          rw [← HRS.out, if_neg hl0]; unfold putT; rw [hsc, if_neg (by simp), HFG.out]
        have HNS := hid hns
        have HEF := hid hef
        clear hns hef HRS p0
        obtain rfl : C = R := HCR.out
        obtain ⟨Q, hQi⟩ : ∃ Q : Nat, (j : Int) * (C : Int) = (Q : Int) := ⟨j * C, by push_cast; rfl⟩
        have eQ : j * C = Q := by have : ((j * C : Nat) : Int) = Q := by push_cast; exact hQi
                                  omega
        have hQj : Q + i < N := by have := idx_lt (R := C) (C := C) hjC hiR; omega
        have hQj' : (Q : Int) + i < N := by omega
        obtain ⟨old2, hold2⟩ : ∃ v, (L.set (P + j) (.int .u64 (sx : Int)))[Q + i]? = some v := ⟨(L.set (P + j) (.int .u64 (sx : Int)))[Q + i]'(by rw [List.length_set, HLL.out]; exact hQj), by simp⟩
        have q5 := HP6.out.cell (i := 5) rfl
        have q6 := HP6.out.cell (i := 6) rfl
        have g0 := HG6.out.cell hold2
        have g1 := HG6.out.frozen (Q + i)
        have hns2 := nums_set (R := C) (C := C) (by rw [List.length_set, HLL.out, hN]) HNS.out hjC hiR sx
        rw [eQ] at hns2
        have hfin : Hid (LineQ B w1 p (0, TSt.ent 1 C C (left - 1) (free.eraseIdx 0) (putF 1 f (i, j) sx)) (.returned (.int .i64 0)) (Y7.setCell ⟨g, Q + i, none⟩ (.int .u64 (sx : Int))).drew) := by
          refine ⟨rfl, (HB6.out.setCell (p := ⟨g, Q + i, none⟩) hBg _).drew, fun _ => ⟨by omega, hR, hC, (fun _ => rfl), had + 1, g, hb, bl, ?_, hBg, hBh, hgh, hgp, hhp, ⟨_, HG6.out.set _ _, by rw [List.length_set, List.length_set, HLL.out, hN], hns2⟩, HHB6.out.other _ (Ne.symm hgh), HBL.out, by omega, ⟨fun _ => ⟨HEF.out, by have := HTOT.out; omega⟩, fun h => by omega⟩⟩⟩
          rw [show had + 1 + (left - 1) = wt by omega, hN]; exact HP6.out.other _ (Ne.symm hgp)
        clear HP6 HG6 HHB6 HB6 hns2
        go_wp2_with fail
        go_region
        clear q5 q6 g0 g1
        go_wp2
        go_ret
        exact hfin.out
      · have hse' : ((se : Int) != 0) = true := by simp; omega
        obtain rfl : res = (se, .first) := by
          rw [← HRS.out, if_neg hl0]; unfold putT; rw [hsc, if_pos hse]
        clear HRS
        go_wp2
        go_ret
        exact ⟨rfl, HB4.out, fun h => (hse h).elim⟩
  · have h1' : ((n : Int) == 1) = false := by rw [beq_eq_false_iff_ne]; omega
    obtain rfl : res = (6, .first) := by
      rw [← HRES.out]; unfold arrE; rw [if_pos (.inr (by simp; omega))]
    clear HRES
    go_wp2
    go_ret
    exact ⟨rfl, Below.refl _ _, fun h => by cases h⟩
end Go.Proofs.YthdcceackfdbbaaGreatDoor
