import Derived.Test.YthdcceackfdbbaaGreatDoorM11R

namespace Go.Proofs.YthdcceackfdbbaaGreatDoor
open Go Go.RowKit Go.Shelf
attribute [local go_sem] Oper.semAt_some
theorem BytesAt.of_arr {w w' : World} {g off : Nat} {t : TypeId} {c : List Value} {l : List UInt8} (h : BytesAt w g off l) (ha : Arr w g t c) (ha' : Arr w' g t c) : BytesAt w' g off l := fun k x hx => by
  have := h k x hx
  unfold World.cell? at this ⊢
  simp only at this ⊢
  rw [show w.heap[g]? = _ from ha] at this
  rw [show w'.heap[g]? = _ from ha']
  exact this
theorem Kept.sim {S : Nat → Prop} {B : Nat} {w W W' : World} (h : Kept S w W) (s : Sim B W W') (hB : w.heap.size ≤ B) : Kept S w W' :=
  ⟨s.os.trans h.os, s.tape.trans h.tape, s.output.trans h.output, Nat.le_trans h.size s.size, fun k hk hs => by
    have h1 := h.block k hk hs
    obtain ⟨o, ho⟩ : ∃ o, w.heap[k]? = some o := ⟨w.heap[k], by simp [hk]⟩
    rw [ho] at h1 ⊢
    exact s.block k o h1 (.inl (by omega))⟩
def numP (pl : List UInt8) (k : Nat) : Nat := valL ((pl.drop (8 * k)).take 8)
def fP (kind R C : Nat) (pl : List UInt8) (i j : Nat) : Nat := if kind = 4 then numP pl (i * C + j) else numP pl (j * R + i)
theorem idx_inj {C i j i' j' : Nat} (hj : j < C) (hj' : j' < C) (h : i * C + j = i' * C + j') : i = i' ∧ j = j' := by
  have e1 : (i * C + j) / C = i := by rw [Nat.add_comm, Nat.add_mul_div_right _ _ (by omega), Nat.div_eq_of_lt hj]; omega
  have e2 : (i' * C + j') / C = i' := by rw [Nat.add_comm, Nat.add_mul_div_right _ _ (by omega), Nat.div_eq_of_lt hj']; omega
  have : i = i' := by rw [← e1, ← e2, h]
  subst this
  exact ⟨rfl, by omega⟩
theorem plc_idx {kind R C q i j z : Nat} (hk : kind = 4 ∨ kind = 5) (h : (plcL kind R C (fun _ _ => 0))[q]? = some (i, j, z)) : i < R ∧ j < C ∧ q = (if kind = 4 then i * C + j else j * R + i) := by
  have hm := plcL_mem (List.mem_of_getElem? h)
  simp only at hm
  refine ⟨hm.1, hm.2.1, ?_⟩
  rcases hk with rfl | rfl
  · simp only [plcL, if_pos] at h ⊢
    have hq : q < R * C := by have := (List.getElem?_eq_some_iff.1 h).1; rw [rowsL_len] at this; exact this
    have hdm := div_mod_lt hq
    have h2 := rowsL_at (fun _ _ => 0) hdm.1 hdm.2
    rw [show q / C * C + q % C = q by rw [Nat.mul_comm]; exact Nat.div_add_mod q C, h] at h2
    have h3 := Option.some.inj h2
    simp only [Prod.mk.injEq] at h3
    rw [h3.1, h3.2.1, Nat.mul_comm]; exact (Nat.div_add_mod q C).symm
  · simp only [plcL] at h ⊢
    rw [if_neg (by omega), if_neg (by omega)] at h
    rw [if_neg (by omega)]
    have hq : q < R * C := by have := (List.getElem?_eq_some_iff.1 h).1; rw [colsL_len] at this; exact this
    have hdm := mod_div_lt hq
    have h2 := colsL_at (fun _ _ => 0) hdm.1 hdm.2
    rw [show q / R * R + q % R = q by rw [Nat.mul_comm]; exact Nat.div_add_mod q R, h] at h2
    have h3 := Option.some.inj h2
    simp only [Prod.mk.injEq] at h3
    rw [h3.1, h3.2.1, Nat.mul_comm]; exact (Nat.div_add_mod q R).symm
theorem plcL_len {kind R C : Nat} {f : Nat → Nat → Nat} (hk : kind = 4 ∨ kind = 5) : (plcL kind R C f).length = R * C := by
  rcases hk with rfl | rfl
  · simp [plcL, rowsL_len]
  · simp [plcL, colsL_len]
def NumsTo (g kind R C : Nat) (pl : List UInt8) (k : Nat) (W : World) : Prop :=
  ∃ l : List Value, Arr W g 65 l ∧ l.length = R * C ∧ ∀ q i j z, q < k → (plcL kind R C (fun _ _ => 0))[q]? = some (i, j, z) → l[i * C + j]? = some (.int .u64 (numP pl q : Int))
structure FillB (b p g0 : Nat) (rc cur : List Value) (k n cap : Nat) (W : World) : Prop where
  r : Arr W b 128 [.pointer (some ⟨p, 0, none⟩)]
  pay : Arr W (b + 1) 72 [.slice (some ⟨g0, 8 * k, none⟩) (n - 8 * k) (cap - 8 * k)]
  res : Arr W (b + 1 + 1) 35 [.int .i64 0]
  bits : ∃ x : Nat, Arr W (b + 1 + 1 + 1) 65 [.int .u64 (x : Int)]
  rcd : Arr W p 171 rc
  bytes : Arr W g0 5 cur
theorem FillB.sim {B b p g0 : Nat} {rc cur : List Value} {k n cap : Nat} {W W' : World} (h : FillB b p g0 rc cur k n cap W) (s : Sim B W W') : FillB b p g0 rc cur k n cap W' :=
  ⟨h.r.sim s, h.pay.sim s, h.res.sim s, by obtain ⟨x, hx⟩ := h.bits; exact ⟨x, hx.sim s⟩, h.rcd.sim s, h.bytes.sim s⟩
set_option maxRecDepth 20000 in
set_option maxHeartbeats 4000000 in
theorem fill_any (w : World) (p : Nat) (S : Nat → Prop) (g g0 cap kind R C : Nat) (st hd : Value) (wh : Bool) (pl : List UInt8) (cur l0 : List Value) (hk : kind = 4 ∨ kind = 5) (hR : R ≤ 40) (hC : C ≤ 40) (hSg : S g)
    (ha : Arr w p 171 (boxC st hd kind R C (.slice (some ⟨g, 0, none⟩) (R * C) (R * C)) wh)) (hg : Arr w g 65 l0) (hl0 : l0.length = R * C) (h0 : Arr w g0 5 cur) (hby : BytesAt w g0 0 pl) (hpl : pl.length = 8 * (R * C)) (hcap : pl.length + 4 ≤ cap) (hcm : cap ≤ 9223372036854775807) :
    Calls Tryz.prog 216 #[.pointer (some ⟨p, 0, none⟩), .slice (some ⟨g0, 0, none⟩) (8 * (R * C)) cap] w fun e w' => Kept S w w' ∧ Arr w' p 171 (boxC st hd kind R C (.slice (some ⟨g, 0, none⟩) (R * C) (R * C)) wh) ∧
      (((∃ q, q < R * C ∧ canon (numP pl q) ≠ numP pl q) ∧ e = .returned (.int .i64 1)) ∨ ((∀ q, q < R * C → canon (numP pl q) = numP pl q) ∧ e = .returned (.int .i64 0) ∧ ∃ l, Arr w' g 65 l ∧ MemM C g R (fP kind R C pl) w')) := by
  have hmix : Tryz.prog.follows .mixedOrders = true := by kernel_rfl
  have hRC : R * C ≤ 40 * 40 := Nat.mul_le_mul hR hC
  obtain ⟨b, hb⟩ : ∃ b, w.heap.size = b := ⟨_, rfl⟩
  obtain ⟨rc, hrc⟩ : ∃ rc, boxC st hd kind R C (.slice (some ⟨g, 0, none⟩) (R * C) (R * C)) wh = rc := ⟨_, rfl⟩
  have hr2 : rc[2]? = some (.int .i64 (kind : Int)) := by rw [← hrc]; rfl
  have hr3 : rc[3]? = some (.int .i64 (R : Int)) := by rw [← hrc]; rfl
  have hr4 : rc[4]? = some (.int .i64 (C : Int)) := by rw [← hrc]; rfl
  have hr5 : rc[5]? = some (.slice (some ⟨g, 0, none⟩) (R * C) (R * C)) := by rw [← hrc]; rfl
  rw [hrc] at ha ⊢
  clear hrc
  have hpg : p ≠ g := ha.ne hg (by decide)
  have hpg0 : p ≠ g0 := ha.ne h0 (by decide)
  have hgg0 : g ≠ g0 := hg.ne h0 (by decide)
  have hpb : p < b := by have := ha.lt; omega
  have hgb : g < b := by have := hg.lt; omega
  have hg0b : g0 < b := by have := h0.lt; omega
  refine callsIn_wide (n := 0) |>.1 ?_
  refine callsIn_of_wp_marks Tryz.func216 rfl trivial ?_ rfl
  simp only [Tryz.ntmps216, List.size_toArray, List.length_cons, List.length_nil, Nat.reduceAdd, Nat.reduceSub, Array.replicate_succ, Array.replicate_zero, List.push_toArray, List.append_toArray, List.nil_append, List.cons_append]
  have hdep : Fence.wide.depth = none := rfl
  have hf1 : Fence.wide.fn 63 := trivial
  gi_wp2_with fail
  obtain ⟨O, hO⟩ : ∃ O : List Obj, [.cells #[.pointer (some ⟨p, 0, none⟩)] 128, .cells #[.slice (some ⟨g0, 0, none⟩) (8 * (R * C)) cap] 72, .cells #[.int .i64 0] 35, .cells #[.int .u64 0] 65] = O := ⟨_, rfl⟩
  obtain ⟨V, hV⟩ : ∃ V, allocs w O = V := ⟨_, rfl⟩
  have eV : (((w.alloc (.cells #[.pointer (some ⟨p, 0, none⟩)] 128)).alloc (.cells #[.slice (some ⟨g0, 0, none⟩) (8 * (R * C)) cap] 72)).alloc (.cells #[.int .i64 0] 35)).alloc (.cells #[.int .u64 0] 65) = V := by rw [← hV, ← hO]; rfl
  have hsV : V.heap.size = b + 4 := by rw [← hV, allocs_size, hb, ← hO]; rfl
  have hbV : Below b w V := by rw [← hV, ← hb]; exact allocs_below w O
  have hat : ∀ i o, O[i]? = some o → V.heap[b + i]? = some o := fun i o h => by rw [← hV, ← hb]; exact allocs_at O w i o h
  have fV : FillB b p g0 rc cur 0 (8 * (R * C)) cap V := ⟨hat 0 _ (by rw [← hO]; rfl), by have := hat 1 _ (by rw [← hO]; rfl); exact this, hat 2 _ (by rw [← hO]; rfl), ⟨0, hat 3 _ (by rw [← hO]; rfl)⟩, ha.below hbV hpb, h0.below hbV hg0b⟩
  have gV : Arr V g 65 l0 := hg.below hbV hgb
  have kV : Kept S w V := Kept.ofBelow (hb ▸ hbV)
  rw [eV]
  clear eV hat hO hV
  have hSV : FillB b p g0 rc cur 0 (8 * (R * C)) cap V.drew := fV.sim (Sim.drew 0 _)
  refine region_wide (FillB b p g0 rc cur 0 (8 * (R * C)) cap) hmix (by rintro ⟨a, w, _, _, (⟨_, h⟩ | ⟨_, h, _⟩)⟩ <;> cases h) ?_
  refine wpAnyH_take (i := 0) (v := .pointer (some ⟨p, 0, none⟩)) rfl (by kernel_rfl) (by kernel_rfl) (by kernel_rfl) (fun _ _ _ h => h) (Or.inl ⟨by rfl, fun W' hS => ?_⟩) hSV ?_
  · have q0 := hS.r.cell (i := 0) rfl
    clear hS
    go_simp
  simp only [Act.put]
  refine wpAnyH_take (i := 1) (v := .pointer (some ⟨p, 0, none⟩)) rfl (by kernel_rfl) (by kernel_rfl) (by kernel_rfl) (fun _ _ _ h => h) (Or.inl ⟨by rfl, fun W' hS => ?_⟩) hSV ?_
  · clear hS
    go_simp
  simp only [Act.put]
  refine wpAnyH_take (i := 2) (v := .pointer (some ⟨p, 3, none⟩)) rfl (by kernel_rfl) (by kernel_rfl) (by kernel_rfl) (fun _ _ _ h => h) (Or.inl ⟨by rfl, fun W' hS => ?_⟩) hSV ?_
  · clear hS
    go_simp
  simp only [Act.put]
  refine wpAnyH_take (i := 3) (v := .agg #[.int .i64 (R : Int), .int .i64 (C : Int), .slice (some ⟨g, 0, none⟩) (R * C) (R * C)]) rfl (by kernel_rfl) (by kernel_rfl) (by kernel_rfl) (fun _ _ _ h => h) (Or.inl ⟨by rfl, fun W' hS => ?_⟩) hSV ?_
  · have q0 := hS.rcd.cell hr3
    have q1 := hS.rcd.cell hr4
    have q2 := hS.rcd.cell hr5
    clear hS
    go_simp
  simp only [Act.put]
  refine wpAnyH_take (i := 4) (v := .pointer (some ⟨p, 0, none⟩)) rfl (by kernel_rfl) (by kernel_rfl) (by kernel_rfl) (fun _ _ _ h => h) (Or.inl ⟨by rfl, fun W' hS => ?_⟩) hSV ?_
  · have q0 := hS.r.cell (i := 0) rfl
    clear hS
    go_simp
  simp only [Act.put]
  refine wpAnyH_take (i := 5) (v := .pointer (some ⟨p, 0, none⟩)) rfl (by kernel_rfl) (by kernel_rfl) (by kernel_rfl) (fun _ _ _ h => h) (Or.inl ⟨by rfl, fun W' hS => ?_⟩) hSV ?_
  · clear hS
    go_simp
  simp only [Act.put]
  refine wpAnyH_take (i := 6) (v := .pointer (some ⟨p, 2, none⟩)) rfl (by kernel_rfl) (by kernel_rfl) (by kernel_rfl) (fun _ _ _ h => h) (Or.inl ⟨by rfl, fun W' hS => ?_⟩) hSV ?_
  · clear hS
    go_simp
  simp only [Act.put]
  refine wpAnyH_take (i := 7) (v := .int .i64 (kind : Int)) rfl (by kernel_rfl) (by kernel_rfl) (by kernel_rfl) (fun _ _ _ h => h) (Or.inl ⟨by rfl, fun W' hS => ?_⟩) hSV ?_
  · have q0 := hS.rcd.cell hr2
    clear hS
    go_simp
  simp only [Act.put]
  refine wpAnyH_ready (rs := [8]) (by kernel_rfl) (by simp) ?_
  refine AllReadyH.cons rfl (fun K hKK => ?_) AllReadyH.nil
  go_simp
  refine (places_any _ kind R C g (by omega)).mono ?_
  rintro e w1 ⟨rfl, rfl⟩
  have hSW : FillB b p g0 rc cur 0 (8 * (R * C)) cap (V.drew.alloc (matO R C g)) := hSV.sim (Sim.alloc 0 _ _)
  refine hKK.out _ _ hSW (fun hHeld => ?_)
  clear hKK hHeld
  refine wpAnyH_done (by kernel_rfl) ?_ _
  refine NoPanic.normal ?_
  obtain ⟨W0, hW0⟩ : ∃ W0, V.drew.alloc (matO R C g) = W0 := ⟨_, rfl⟩
  have hs0 : W0.heap.size = b + 5 := by rw [← hW0]; simp [show V.drew.heap.size = V.heap.size from rfl, hsV]
  have f0 : FillB b p g0 rc cur 0 (8 * (R * C)) cap W0 := by rw [← hW0]; exact hSW
  have g00 : Arr W0 g 65 l0 := by rw [← hW0]; exact gV.drew.alloc _
  have k0 : Kept S w W0 := by rw [← hW0]; exact (kV.sim (Sim.drew b _) (by omega)).sim (Sim.alloc b _ _) (by omega)
  unfold matV
  rw [hW0]
  clear hSV hSW fV gV kV hW0 hbV hsV
  gi_wp2_with fail
  refine range_gives 0 (gf := placeF kind) (fst := #[matV R C g]) (lb := #[]) rfl (place_enters kind) (places_gives kind R C g (fun _ _ => 0) hR hC) (by intro x hx; obtain ⟨y, _, rfl⟩ := List.mem_map.1 hx; rfl)
    (fun k W => FillB b p g0 rc cur k (8 * (R * C)) cap W ∧ NumsTo g kind R C pl k W ∧ Kept S w W ∧ b + 5 ≤ W.heap.size ∧ ∀ q, q < k → canon (numP pl q) = numP pl q)
    (fun c W => c = .ret ∧ Arr W (b + 1 + 1) 35 [.int .i64 1] ∧ Arr W p 171 rc ∧ Kept S w W ∧ b + 5 ≤ W.heap.size ∧ ∃ q, q < R * C ∧ canon (numP pl q) ≠ numP pl q)
    (fun x a' W' => ∃ (y : Nat × Nat × Nat) (Bx : Nat), x = plcA y ∧ b + 5 ≤ Bx ∧ Arr W' Bx 117 [.int .i64 (y.1 : Int), .int .i64 (y.2.1 : Int)] ∧ a' = { tmps := #[.pointer (some ⟨p, 0, none⟩), .slice (some ⟨g0, 0, none⟩) (8 * (R * C)) cap, .pointer (some ⟨b, 0, none⟩), .pointer (some ⟨b + 1, 0, none⟩), .pointer (some ⟨b + 1 + 1, 0, none⟩), .pointer (some ⟨b + 1 + 1 + 1, 0, none⟩), .pointer (some ⟨Bx, 0, none⟩), .pointer (some ⟨p, 0, none⟩), .pointer (some ⟨p, 0, none⟩), .pointer (some ⟨p, 3, none⟩), .agg #[.int .i64 (R : Int), .int .i64 (C : Int), .slice (some ⟨g, 0, none⟩) (R * C) (R * C)], .pointer (some ⟨p, 0, none⟩), .pointer (some ⟨p, 0, none⟩), .pointer (some ⟨p, 2, none⟩), .int .i64 (kind : Int), .func (.func (placeF kind)) #[.agg #[.int .i64 (R : Int), .int .i64 (C : Int), .slice (some ⟨g, 0, none⟩) (R * C) (R * C)]] #[], plcV y.1 y.2.1, undef, undef, undef, undef, undef, undef, undef, undef, undef, undef, undef, undef, undef, undef, undef, undef], defers := [] })
    (fun _ _ _ => trivial) ?hI ?hIx ?hAx ?h0 ?assign ?body ?done ?stop
  case hI => exact fun k A B h s => ⟨h.1.sim s, by obtain ⟨l, h2, h3⟩ := h.2.1; exact ⟨l, h2.sim s, h3⟩, h.2.2.1.sim s (by omega), Nat.le_trans h.2.2.2.1 s.size, h.2.2.2.2⟩
  case hIx => exact fun c A B h s => ⟨h.1, h.2.1.sim s, h.2.2.1.sim s, h.2.2.2.1.sim s (by omega), Nat.le_trans h.2.2.2.2.1 s.size, h.2.2.2.2.2⟩
  case hAx => rintro x a' A B ⟨y, Bx, h1, h2, h3, h4⟩ s; exact ⟨y, Bx, h1, h2, h3.sim s, h4⟩
  case h0 => exact ⟨f0, ⟨l0, g00, hl0, fun q i j z h => by omega⟩, k0, by omega, fun q h => by omega⟩
  case assign =>
    intro l1 k x W1 K hx hi hK
    obtain ⟨y, hy, rfl⟩ := map_get hx
    have hlt := hi.2.2.2.1
    have HK : Hid _ := hid (hK { tmps := #[.pointer (some ⟨p, 0, none⟩), .slice (some ⟨g0, 0, none⟩) (8 * (R * C)) cap, .pointer (some ⟨b, 0, none⟩), .pointer (some ⟨b + 1, 0, none⟩), .pointer (some ⟨b + 1 + 1, 0, none⟩), .pointer (some ⟨b + 1 + 1 + 1, 0, none⟩), .pointer (some ⟨W1.heap.size, 0, none⟩), .pointer (some ⟨p, 0, none⟩), .pointer (some ⟨p, 0, none⟩), .pointer (some ⟨p, 3, none⟩), .agg #[.int .i64 (R : Int), .int .i64 (C : Int), .slice (some ⟨g, 0, none⟩) (R * C) (R * C)], .pointer (some ⟨p, 0, none⟩), .pointer (some ⟨p, 0, none⟩), .pointer (some ⟨p, 2, none⟩), .int .i64 (kind : Int), .func (.func (placeF kind)) #[.agg #[.int .i64 (R : Int), .int .i64 (C : Int), .slice (some ⟨g, 0, none⟩) (R * C) (R * C)]] #[], plcV y.1 y.2.1, undef, undef, undef, undef, undef, undef, undef, undef, undef, undef, undef, undef, undef, undef, undef, undef], defers := [] } (W1.alloc (plcO y.1 y.2.1))
      (KeptFrom.below (Below.refl' _ _)) ⟨hi.1.sim (Sim.alloc 0 _ _), by obtain ⟨l, h2, h3⟩ := hi.2.1; exact ⟨l, h2.alloc _, h3⟩, hi.2.2.1.sim (Sim.alloc b _ _) (by omega), by simp; omega, hi.2.2.2.2⟩ ⟨y, W1.heap.size, rfl, hlt, Arr.newL _ _ _, rfl⟩)
    clear hK hi hx hy
    unfold plcA plcV
    unfold plcV plcO at HK
    gi_wp2
    exact HK.out
  case body =>
    rintro l1 k x a' W1 hx hi ⟨y, Bx, rfl, hBx, hb2, rfl⟩
    obtain ⟨y', hy, hye⟩ := map_get hx
    have hpe := plcA_inj hye
    obtain ⟨i, j, z⟩ := y'
    obtain ⟨y1, y2, y3⟩ := y
    simp only at hpe hb2 ⊢
    obtain ⟨rfl, rfl⟩ := hpe
    obtain ⟨hiR, hjC, hkq⟩ := plc_idx hk hy
    have HKQ := hid hkq
    clear hkq
    have hfc : Fence.wide.fn 236 := trivial
    have hfd : Fence.wide.fn 102 := trivial
    have hfe : Fence.wide.fn 101 := trivial
    have hkl : k < R * C := by have := (List.getElem?_eq_some_iff.1 hy).1; rw [plcL_len hk] at this; exact this
    clear hx hye
    obtain ⟨fB1, nums, kep, hsz, hcan⟩ := hi
    have hdl : (pl.drop (8 * k)).length = 8 * (R * C) - 8 * k := by rw [List.length_drop, hpl]
    have hbk : BytesAt W1 g0 (8 * k) (pl.drop (8 * k)) := by
      have := (hby.of_arr h0 fB1.bytes).drop (8 * k); rw [Nat.zero_add] at this; exact this
    have hcut := cut64_any W1 g0 (8 * k) (cap - 8 * k) (pl.drop (8 * k)) hbk (by omega) (by omega) (by omega)
    rw [hdl, show valL ((pl.drop (8 * k)).take 8) = numP pl k from rfl, if_neg (by omega)] at hcut
    have HCUT := hid (CallsIn.inRound l1 (callsIn_wide (n := 0).2 hcut))
    have c1 := fB1.pay.cell (i := 0) rfl
    have HN1 := hid nums
    have HKP := hid kep
    have HF1 := hid fB1
    have HB2 := hid hb2
    have HCN := hid hcan
    have HY := hid hy
    have hX64 : numP pl k < 18446744073709551616 := by
      have h := valL_lt ((pl.drop (8 * k)).take 8)
      have h2 : ((pl.drop (8 * k)).take 8).length ≤ 8 := by rw [List.length_take]; omega
      have h3 : 256 ^ ((pl.drop (8 * k)).take 8).length ≤ 256 ^ 8 := Nat.pow_le_pow_right (by omega) h2
      have h4 : (256 : Nat) ^ 8 = 18446744073709551616 := by decide
      unfold numP; omega
    obtain ⟨X, hX⟩ : ∃ X, numP pl k = X := ⟨_, rfl⟩
    rw [hX] at HCUT hX64
    have HXD := hid hX
    clear hX hcut hbk nums kep fB1 hb2 hcan hdl hy
    unfold plcV
    gi_wp2_with fail
    refine HCUT.out.mono ?_
    rintro e W2 ⟨rfl, m2, hW2⟩
    have f2 : FillB b p g0 rc cur k (8 * (R * C)) cap W2 := by rw [hW2]; exact ⟨HF1.out.r, HF1.out.pay, HF1.out.res, HF1.out.bits, HF1.out.rcd, HF1.out.bytes⟩
    obtain ⟨xb, hxb⟩ := f2.bits
    have d1 := f2.pay.cell (i := 0) rfl
    have e1 := f2.pay.frozen 0
    have d3 := hxb.cell (i := 0) rfl
    have e3 := hxb.frozen 0
    obtain ⟨W3, hW3⟩ : ∃ W3, (W2.setCell ⟨b + 1 + 1 + 1, 0, none⟩ (.int .u64 (X : Int))).setCell ⟨b + 1, 0, none⟩ (.slice (some ⟨g0, 8 * k + 8, none⟩) (8 * (R * C) - 8 * k - 8) (cap - 8 * k - 8)) = W3 := ⟨_, rfl⟩
    have f3 : FillB b p g0 rc cur (k + 1) (8 * (R * C)) cap W3 := by
      rw [← hW3]
      refine ⟨(f2.r.other _ (by omega)).other _ (by omega), ?_, (f2.res.other _ (by omega)).other _ (by omega), ⟨X, (hxb.set 0 _).other _ (by omega)⟩, (f2.rcd.other _ (by omega)).other _ (by omega), (f2.bytes.other _ (by omega)).other _ (by omega)⟩
      have h := (f2.pay.other (g' := b + 1 + 1 + 1) (i := 0) (.int .u64 (X : Int)) (by omega)).set 0 (.slice (some ⟨g0, 8 * k + 8, none⟩) (8 * (R * C) - 8 * k - 8) (cap - 8 * k - 8))
      rw [show 8 * (k + 1) = 8 * k + 8 by omega, show 8 * (R * C) - (8 * k + 8) = 8 * (R * C) - 8 * k - 8 by omega, show cap - (8 * k + 8) = cap - 8 * k - 8 by omega]
      exact h
    have b3 : Arr W3 (b + 1 + 1 + 1) 65 [.int .u64 (X : Int)] := by rw [← hW3]; exact (hxb.set 0 _).other _ (by omega)
    have p3 : Arr W3 Bx 117 [.int .i64 (i : Int), .int .i64 (j : Int)] := by
      rw [← hW3, hW2]; exact (Arr.other (Arr.other HB2.out _ (by omega)) _ (by omega))
    have n3 : NumsTo g kind R C pl k W3 := by
      obtain ⟨l, h1, h2⟩ := HN1.out
      refine ⟨l, ?_, h2⟩
      rw [← hW3, hW2]; exact (Arr.other (Arr.other h1 _ (by omega)) _ (by omega))
    have kf3 : KeptFrom W0.heap.size W1 W3 := by
      rw [← hW3, hW2]
      exact ((KeptFrom.below (show Below W1.heap.size W1 (W1.drewN m2) from ⟨rfl, rfl, rfl, Nat.le_refl _, fun _ _ => rfl⟩)).trans (KeptFrom.set (by omega) _)).trans (KeptFrom.set (by omega) _)
    have k3 : Kept S w W3 := by
      have h1 : Kept S w (W1.drewN m2) := HKP.out.trans (Kept.drewN (S := S) m2) (fun q h => .inl h)
      rw [← hW3, hW2]
      exact (h1.trans (Kept.set (S := fun q => b ≤ q) (b := b + 1 + 1 + 1) (by show b ≤ _; omega) _) (fun q h => .inr (by rw [hb]; exact h))).trans (Kept.set (S := fun q => b ≤ q) (b := b + 1) (by show b ≤ _; omega) _) (fun q h => .inr (by rw [hb]; exact h))
    have z3 : b + 5 ≤ W3.heap.size := by have := kf3.size; omega
    have HW3 := hid hW3
    have HF3 := hid f3
    have HBT := hid b3
    have HP3 := hid p3
    have HN3 := hid n3
    have HKF := hid kf3
    have HK3 := hid k3
    clear f3 b3 p3 n3 kf3 k3 hW3 f2 hxb hW2 HCUT HF1 HB2 HN1 HKP c1
    gi_wp2_with fail
    rw [HW3.out]
    clear HW3 d1 e1 d3 e3
    have hS5 : Arr W3.drew (b + 1 + 1 + 1) 65 [.int .u64 (X : Int)] := HBT.out.drew
    obtain ⟨dv, hdv⟩ : ∃ dv, ((X : Int) != (canon X : Int)) = dv := ⟨_, rfl⟩
    have HDV := hid hdv
    clear hdv
    refine region_round l1 (fun W' => Arr W' (b + 1 + 1 + 1) 65 [.int .u64 (X : Int)]) hmix (by kernel_rfl) (by rintro ⟨a, w, h⟩; exact h) ?_
    refine wpAnyH_take (i := 0) (v := .int .u64 (X : Int)) rfl (by kernel_rfl) (by kernel_rfl) (by kernel_rfl) (fun _ _ _ h => h) (Or.inl ⟨by rfl, fun W' hS => ?_⟩) hS5 ?_
    · have q0 := hS.cell (i := 0) rfl
      clear hS
      go_simp
    simp only [Act.put]
    refine wpAnyH_take (i := 1) (v := .int .u64 (X : Int)) rfl (by kernel_rfl) (by kernel_rfl) (by kernel_rfl) (fun _ _ _ h => h) (Or.inl ⟨by rfl, fun W' hS => ?_⟩) hS5 ?_
    · have q0 := hS.cell (i := 0) rfl
      clear hS
      go_simp
    simp only [Act.put]
    refine wpAnyH_ready (rs := [2]) (by kernel_rfl) (by simp) ?_
    refine AllReadyH.cons rfl (fun K hKK => ?_) AllReadyH.nil
    go_simp
    refine (canon_any _ X hX64).mono ?_
    rintro e w5 ⟨rfl, hw5⟩
    rw [hw5]
    clear hw5
    refine hKK.out _ _ hS5 (fun hHeld => ?_)
    clear hKK hHeld
    refine wpAnyH_take (i := 3) (v := .bool dv) rfl (by kernel_rfl) (by kernel_rfl) (by kernel_rfl) (fun _ _ _ h => h) (Or.inl ⟨by rfl, fun W' hS => ?_⟩) hS5 ?_
    · have hdv' := HDV.out
      clear hS
      go_simp
    simp only [Act.put, List.getElem_toArray, List.getElem_cons_succ, List.getElem_cons_zero, List.setIfInBounds_toArray, List.set_cons_succ, List.set_cons_zero]
    refine wpAnyH_done (by kernel_rfl) ?_ _
    have HF5 : Hid (FillB b p g0 rc cur (k + 1) (8 * (R * C)) cap W3.drew) := HF3.out.sim (Sim.drew 0 _)
    have HB5 : Hid (Arr W3.drew (b + 1 + 1 + 1) 65 [.int .u64 (X : Int)]) := hS5
    have HP5 : Hid (Arr W3.drew Bx 117 [.int .i64 (i : Int), .int .i64 (j : Int)]) := HP3.out.drew
    have HN5 : Hid (NumsTo g kind R C pl k W3.drew) := by obtain ⟨l, h1, h2⟩ := HN3.out; exact ⟨l, h1.drew, h2⟩
    have HKF5 : Hid (KeptFrom W0.heap.size W1 W3.drew) := HKF.out.trans (KeptFrom.below (show Below W3.heap.size W3 W3.drew from (Below.refl _ _).drew))
    have HK5 : Hid (Kept S w W3.drew) := HK3.out.trans (Kept.drewN (S := S) 1) (fun q h => .inl h)
    have z5 : b + 5 ≤ W3.drew.heap.size := z3
    generalize W3.drew = W5 at *
    clear HF3 HBT HP3 HN3 HKF HK3 z3 hS5
    cases dv with
    | true =>
      have hne : canon X ≠ X := by have := HDV.out; simp at this; omega
      have d2 := HF5.out.res.cell (i := 0) rfl
      have e2 := HF5.out.res.frozen 0
      gi_wp2
      refine ⟨HKF5.out.trans (KeptFrom.set (by omega) _), rfl, HF5.out.res.set 0 _, HF5.out.rcd.other _ (by omega), HK5.out.trans (Kept.set (S := fun q => b ≤ q) (b := b + 1 + 1) (by show b ≤ _; omega) _) (fun q h => .inr (by rw [hb]; exact h)), by simp [World.setCell]; omega, k, hkl, by rw [HXD.out]; exact hne⟩
    | false =>
      have heq : canon X = X := by have := HDV.out; simp at this; omega
      gi_wp2_with fail
      have hS7 : FillB b p g0 rc cur (k + 1) (8 * (R * C)) cap W5.drew ∧ Arr W5.drew (b + 1 + 1 + 1) 65 [.int .u64 (X : Int)] ∧ Arr W5.drew Bx 117 [.int .i64 (i : Int), .int .i64 (j : Int)] := ⟨HF5.out.sim (Sim.drew 0 _), HB5.out.drew, HP5.out.drew⟩
      refine region_round l1 (fun W' => FillB b p g0 rc cur (k + 1) (8 * (R * C)) cap W' ∧ Arr W' (b + 1 + 1 + 1) 65 [.int .u64 (X : Int)] ∧ Arr W' Bx 117 [.int .i64 (i : Int), .int .i64 (j : Int)]) hmix (by kernel_rfl) (by rintro ⟨a, w, h⟩; exact h) ?_
      refine wpAnyH_take (i := 0) (v := .pointer (some ⟨p, 0, none⟩)) rfl (by kernel_rfl) (by kernel_rfl) (by kernel_rfl) (fun _ _ _ h => h) (Or.inl ⟨by rfl, fun W' hS => ?_⟩) hS7 ?_
      · have q0 := hS.1.r.cell (i := 0) rfl
        clear hS
        go_simp
      simp only [Act.put]
      refine wpAnyH_take (i := 1) (v := .pointer (some ⟨p, 0, none⟩)) rfl (by kernel_rfl) (by kernel_rfl) (by kernel_rfl) (fun _ _ _ h => h) (Or.inl ⟨by rfl, fun W' hS => ?_⟩) hS7 ?_
      · clear hS
        go_simp
      simp only [Act.put]
      refine wpAnyH_take (i := 2) (v := .pointer (some ⟨p, 3, none⟩)) rfl (by kernel_rfl) (by kernel_rfl) (by kernel_rfl) (fun _ _ _ h => h) (Or.inl ⟨by rfl, fun W' hS => ?_⟩) hS7 ?_
      · clear hS
        go_simp
      simp only [Act.put]
      refine wpAnyH_take (i := 3) (v := .agg #[.int .i64 (R : Int), .int .i64 (C : Int), .slice (some ⟨g, 0, none⟩) (R * C) (R * C)]) rfl (by kernel_rfl) (by kernel_rfl) (by kernel_rfl) (fun _ _ _ h => h) (Or.inl ⟨by rfl, fun W' hS => ?_⟩) hS7 ?_
      · have q0 := hS.1.rcd.cell hr3
        have q1 := hS.1.rcd.cell hr4
        have q2 := hS.1.rcd.cell hr5
        clear hS
        go_simp
      simp only [Act.put]
      refine wpAnyH_take (i := 4) (v := .agg #[.int .i64 (i : Int), .int .i64 (j : Int)]) rfl (by kernel_rfl) (by kernel_rfl) (by kernel_rfl) (fun _ _ _ h => h) (Or.inl ⟨by rfl, fun W' hS => ?_⟩) hS7 ?_
      · have q0 := hS.2.2.cell (i := 0) rfl
        have q1 := hS.2.2.cell (i := 1) rfl
        clear hS
        go_simp
      simp only [Act.put]
      refine wpAnyH_take (i := 5) (v := .int .u64 (X : Int)) rfl (by kernel_rfl) (by kernel_rfl) (by kernel_rfl) (fun _ _ _ h => h) (Or.inl ⟨by rfl, fun W' hS => ?_⟩) hS7 ?_
      · have q0 := hS.2.1.cell (i := 0) rfl
        clear hS
        go_simp
      simp only [Act.put]
      obtain ⟨l, hl1, hl2, hl3⟩ := HN5.out
      refine wpAnyH_ready (rs := [6]) (by kernel_rfl) (by simp) ?_
      refine AllReadyH.cons rfl (fun K hKK => ?_) AllReadyH.nil
      go_simp
      refine (mat_set _ R C g i j X l hR hC hiR hjC hl1.drew hl2).mono ?_
      rintro e w6 ⟨⟨v, rfl⟩, rfl⟩
      have hin := idx_lt hiR hjC
      have hS8 : FillB b p g0 rc cur (k + 1) (8 * (R * C)) cap (((W5.drew.setCell ⟨g, i * C + j, none⟩ (.int .u64 (X : Int))).alloc (matO R C g)).alloc (plcO i j)) := by
        have h := hS7.1
        obtain ⟨xb, hxb⟩ := h.bits
        refine FillB.sim (W := W5.drew.setCell ⟨g, i * C + j, none⟩ (.int .u64 (X : Int))) (B := 0) ?_ ((Sim.alloc 0 _ _).trans (Sim.alloc 0 _ _))
        exact ⟨h.r.other _ (by omega), h.pay.other _ (by omega), h.res.other _ (by omega), ⟨xb, hxb.other _ (by omega)⟩, h.rcd.other _ hpg, h.bytes.other _ (Ne.symm hgg0)⟩
      have hS9 : Arr (((W5.drew.setCell ⟨g, i * C + j, none⟩ (.int .u64 (X : Int))).alloc (matO R C g)).alloc (plcO i j)) (b + 1 + 1 + 1) 65 [.int .u64 (X : Int)] := ((hS7.2.1.other _ (by omega)).alloc _).alloc _
      have hS10 : Arr (((W5.drew.setCell ⟨g, i * C + j, none⟩ (.int .u64 (X : Int))).alloc (matO R C g)).alloc (plcO i j)) Bx 117 [.int .i64 (i : Int), .int .i64 (j : Int)] := ((hS7.2.2.other _ (by omega)).alloc _).alloc _
      refine hKK.out _ _ ⟨hS8, hS9, hS10⟩ (fun _ => wpAnyH_done (by kernel_rfl) ?_ _)
      refine ⟨?_, hS8, ⟨l.set (i * C + j) (.int .u64 (X : Int)), ((hl1.drew.set _ _).alloc _).alloc _, by simp [hl2], ?_⟩, ?_, ?_, ?_⟩
      · exact ((HKF5.out.trans (KeptFrom.below (show Below W5.heap.size W5 W5.drew from (Below.refl _ _).drew))).trans (KeptFrom.set (by omega) _)).trans ((KeptFrom.below (Below.refl' _ _)).trans (KeptFrom.below (Below.refl' _ _)))
      · intro q i2 j2 z2 hq h2
        have hidx := plc_idx hk h2
        rw [List.getElem?_set]
        by_cases e : i * C + j = i2 * C + j2
        · have hee := idx_inj hjC hidx.2.1 e
          have hqk : q = k := by rw [hidx.2.2, HKQ.out, hee.1, hee.2]
          rw [if_pos e, if_pos (by rw [hl2]; exact hin), hqk, HXD.out]
        · rw [if_neg e]
          have hqk : q ≠ k := fun e2 => by
            subst e2
            have := HY.out.symm.trans h2
            simp only [Option.some.injEq, Prod.mk.injEq] at this
            exact e (by rw [this.1, this.2.1])
          exact hl3 q i2 j2 z2 (by omega) h2
      · have h1 : Kept S w W5.drew := HK5.out.trans (Kept.drewN (S := S) 1) (fun q h => .inl h)
        exact ((h1.trans (Kept.set (S := S) hSg _) (fun q h => .inl h)).trans (Kept.ofBelow (S := S) (Below.refl' _ _)) (fun q h => .inl h)).trans (Kept.ofBelow (S := S) (Below.refl' _ _)) (fun q h => .inl h)
      · have e5 : W5.drew.heap.size = W5.heap.size := rfl
        simp [World.setCell]; omega
      · intro q hq
        by_cases e : q = k
        · rw [e, HXD.out]; exact heq
        · exact HCN.out q (by omega)
  case done =>
    intro D W1 hD hi hK
    obtain ⟨fB1, nums, kep, hsz, hcan⟩ := hi
    rw [List.length_map, plcL_len hk] at nums hcan
    have d2 := fB1.res.cell (i := 0) rfl
    have e2 := fB1.res.frozen 0
    gi_wp2
    obtain ⟨W2, hW2⟩ : ∃ W2, W1.setCell ⟨b + 1 + 1, 0, none⟩ (.int .i64 0) = W2 := ⟨_, rfl⟩
    have r2 : Arr W2 (b + 1 + 1) 35 [.int .i64 0] := by rw [← hW2]; exact fB1.res.set 0 _
    have hK2 : W2.heap[D]? = some (.deferred (some [])) := by rw [← hW2, Below.heap_setCell _ _ _ _ (by simp; omega)]; exact hK
    have rc2 : Arr W2 p 171 rc := by rw [← hW2]; exact fB1.rcd.other _ (by omega)
    have k2 : Kept S w W2 := by rw [← hW2]; exact kep.trans (Kept.set (S := fun q => b ≤ q) (b := b + 1 + 1) (by show b ≤ _; omega) _) (fun q h => .inr (by rw [hb]; exact h))
    obtain ⟨l, hl1, hl2, hl3⟩ := nums
    have l2 : Arr W2 g 65 l := by rw [← hW2]; exact hl1.other _ (by omega)
    rw [hW2]
    have s3 : Sim b W2 (W2.putObj D (.deferred none)) := Sim.putObj _ (by omega) hK2 rfl
    have r3 := r2.sim s3
    have x0 := r3.cell (i := 0) rfl
    refine ⟨by simp, .inl ⟨_, _, rfl, run_takeDeferred hK2, ?_⟩⟩
    refine ⟨.int .i64 0, by simp [results, Tryz.results216, go_sem, x0], k2.sim s3 (by omega), rc2.sim s3, .inr ⟨hcan, rfl, l, l2.sim s3, (l2.sim s3).lt, fun i j hi hj => ?_⟩⟩
    have hq : (plcL kind R C (fun _ _ => 0))[if kind = 4 then i * C + j else j * R + i]? = some (i, j, 0) := by
      rcases hk with rfl | rfl
      · simp only [plcL, if_pos]; exact rowsL_at (fun _ _ => 0) hi hj
      · simp only [plcL]; rw [if_neg (by omega), if_neg (by omega), if_neg (by omega)]; exact colsL_at (fun _ _ => 0) hi hj
    have hlt : (if kind = 4 then i * C + j else j * R + i) < R * C := by
      have := (List.getElem?_eq_some_iff.1 hq).1; rw [plcL_len hk] at this; exact this
    have h := hl3 _ i j 0 hlt hq
    have e : fP kind R C pl i j = numP pl (if kind = 4 then i * C + j else j * R + i) := by unfold fP; split <;> rfl
    rw [e]
    exact (l2.sim s3).cell h
  case stop =>
    rintro D c W1 hD ⟨rfl, r1, rc1, k1, hsz, hq⟩ hK
    gi_wp2
    have s3 : Sim b W1 (W1.putObj D (.deferred none)) := Sim.putObj _ (by omega) hK rfl
    have r3 := r1.sim s3
    have x0 := r3.cell (i := 0) rfl
    refine ⟨by simp, .inl ⟨_, _, rfl, run_takeDeferred hK, ?_⟩⟩
    exact ⟨.int .i64 1, by simp [results, Tryz.results216, go_sem, x0], k1.sim s3 (by omega), rc1.sim s3, .inl ⟨hq, rfl⟩⟩
end Go.Proofs.YthdcceackfdbbaaGreatDoor
