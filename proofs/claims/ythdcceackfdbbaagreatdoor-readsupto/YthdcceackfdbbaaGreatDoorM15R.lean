import Derived.Test.YthdcceackfdbbaaGreatDoorM12R
import Derived.Test.YthdcceackfdbbaaGreatDoorM14R
import Derived.Deep.RegionHeld
namespace Go.Proofs.YthdcceackfdbbaaGreatDoor
open Go Go.RowKit
theorem RowIn.plcs {w : World} {S : Nat → Prop} {fv : Value} {n : Nat} {ps : List (Nat × Nat)} {i : Nat} {q : Nat × Nat} (h : RowIn w S 117 2 fv n (plcC ps)) (hn : ps.length = n) (hq : ps[i]? = some q) :
    ∃ gF cap, fv = .slice (some ⟨gF, 0, none⟩) n cap ∧ n ≤ cap ∧ gF < w.heap.size ∧ w.cell? ⟨gF, i * 2, none⟩ = some (.int .i64 (q.1 : Int)) ∧ w.cell? ⟨gF, i * 2 + 1, none⟩ = some (.int .i64 (q.2 : Int)) := by
  have hi : i < ps.length := (List.getElem?_eq_some_iff.1 hq).1
  subst hn
  obtain ⟨ao, cap, rfl, hp, hc, h0⟩ := FreeAt.shape (B := 0) h.row
  obtain ⟨g, rfl, hg, c0, c1⟩ := hp i q hq
  exact ⟨g, cap, rfl, hc, hg, c0, c1⟩
def PutR (w : World) (p : Nat) (S : Nat → Prop) (st bytes : Value) (g k R C left : Nat) (free : List (Nat × Nat)) (f : Nat → Nat → Nat) (cur : List UInt8) (i : Nat) (q : Nat × Nat) (x er : Nat) (e : Ending) (w' : World) : Prop :=
  e = .returned (.int .i64 (er : Int)) ∧ Kept S w w' ∧ ((er ≠ 0 ∧ Below w.heap.size w w') ∨ (er = 0 ∧ ∃ fv', EntC w' p S st bytes g fv' k R C (left - 1) (free.eraseIdx i) (putF k f q x) cur))
theorem Kept.two {S : Nat → Prop} {w : World} {b j : Nat} (hb : S b) (v : Value) (o o' : Obj) : Kept S w (((w.setCell ⟨b, j, none⟩ v).alloc o).alloc o') :=
  (Kept.set hb v).trans (Kept.ofBelow (S := S) (((Below.refl _ _).alloc (Nat.le_refl _) o).alloc (by simp) o')) (fun q h => .inl h)
theorem EntC.tookOut {w w4 : World} {p : Nat} {S : Nat → Prop} {st bytes : Value} {g gF n cap : Nat} {k R C left : Nat} {free : List (Nat × Nat)} {f : Nat → Nat → Nat} {cur : List UInt8} {i : Nat}
    (h : EntC w p S st bytes g (.slice (some ⟨gF, 0, none⟩) n cap) k R C left free f cur) (hn : free.length = n) (hi : i < n) (hl : 1 ≤ left)
    (hrow : RowIn w4 S 117 2 (.slice (some ⟨gF, 0, none⟩) (n - 1) cap) (n - 1) (plcC (free.eraseIdx i))) (hk : Kept (fun q => q = gF) w w4) (hp : p ≠ gF) (hg : g ≠ gF) :
    EntC ((w4.setCell ⟨p, 7, none⟩ (.slice (some ⟨gF, 0, none⟩) (n - 1) cap)).setCell ⟨p, 8, none⟩ (.int .i64 ((left - 1 : Nat) : Int))) p S st bytes g (.slice (some ⟨gF, 0, none⟩) (n - 1) cap) k R C (left - 1) (free.eraseIdx i) f cur := by
  have a4 : Arr w4 p 167 _ := hk.arr h.arr hp
  have a5 := a4.set 7 (.slice (some ⟨gF, 0, none⟩) (n - 1) cap)
  have a6 := a5.set 8 (.int .i64 ((left - 1 : Nat) : Int))
  obtain ⟨v, hv1, hv2⟩ := h.arrG
  have v4 : Arr w4 g 65 v := hk.arr hv1 hg
  have hel : (free.eraseIdx i).length = n - 1 := by rw [List.length_eraseIdx, if_pos (by omega), hn]
  have hpg := h.lt.2.2
  have hb : ∀ q, bytes.ownBlock = some q → q ≠ gF := fun q hq e => by
    obtain ⟨_, c, hc⟩ := h.rowB.lt q hq
    obtain ⟨_, c', hc'⟩ := h.rowF.lt gF rfl
    rw [e, hc'] at hc
    simp at hc
  have rb : RowIn w4 S 5 1 bytes cur.length (u8s cur) := h.rowB.keep (fun q hq => hk.block q (h.rowB.lt q hq).1 (hb q hq))
  refine ⟨h.own, a6, (rb.set a4 (by decide) _).set a5 (by decide) _, h.ownG, ⟨v, (v4.other _ (Ne.symm hpg)).other _ (Ne.symm hpg), hv2⟩, ?_, ?_, h.hk, h.hR, h.hC, h.sq, fun q hq => h.free_in q (List.mem_of_mem_eraseIdx hq), ?_, ?_⟩
  · have e1 : ∀ (o : Nat), w4.cell? ⟨g, o, none⟩ = w.cell? ⟨g, o, none⟩ := fun o => World.cell?_of_block (w := w) (hk.block g hv1.lt hg)
    refine ⟨by have := v4.lt; simpa [World.setCell] using this, fun a b ha hb => ?_⟩
    have h3 := h.mem.2 a b ha hb
    rw [← e1] at h3
    have h4 : ((w4.setCell ⟨p, 7, none⟩ (.slice (some ⟨gF, 0, none⟩) (n - 1) cap)).setCell ⟨p, 8, none⟩ (.int .i64 ((left - 1 : Nat) : Int))).heap[g]? = w4.heap[g]? :=
      (Below.heap_setCell _ _ _ _ (Ne.symm hpg)).trans (Below.heap_setCell _ _ _ _ (Ne.symm hpg))
    exact (World.cell?_of_block (w := w4) h4).trans h3
  · rw [hel]; exact (hrow.set a4 (by decide) _).set a5 (by decide) _
  · have := h.len; omega
  · have := h.left_le; omega
set_option maxRecDepth 20000 in
set_option maxHeartbeats 4000000 in
theorem put_any (w : World) (p : Nat) (S : Nat → Prop) (st bytes : Value) (g : Nat) (fv : Value) (k R C left : Nat) (free : List (Nat × Nat)) (f : Nat → Nat → Nat) (cur : List UInt8) (i n : Nat) (q1 q2 : Nat) (s : ByteArray) (hs : s.size ≤ 1000000)
    (h : EntC w p S st bytes g fv k R C left free f cur) (hn : free.length = n) (hq : free[i]? = some (q1, q2)) (hleft : 1 ≤ left) :
    Calls Tryz.prog 235 #[.pointer (some ⟨p, 0, none⟩), .int .i64 (i : Int), .string s] w fun e w' => PutR w p S st bytes g k R C left free f cur i (q1, q2) (scanL s.data.toList).1 (scanL s.data.toList).2 e w' := by
  have hmix : Tryz.prog.follows .mixedOrders = true := by kernel_rfl
  have hin : i < n := by have := (List.getElem?_eq_some_iff.1 hq).1; omega
  have hq12 := h.free_in (q1, q2) (List.mem_of_getElem? hq)
  simp only at hq12
  have hlen : n ≤ 1600 := by have := h.len; omega
  have hl16 : left ≤ 1600 := by have := h.len; have := h.left_le; omega
  have hR := h.hR
  have hC := h.hC
  have hk3 := h.hk
  obtain ⟨hp, hg, hpg⟩ := h.lt
  have HN := nscan_any w s (by unfold maxLen; omega)
  obtain ⟨x, hx⟩ : ∃ x, (scanL s.data.toList).1 = x := ⟨_, rfl⟩
  obtain ⟨er, her⟩ : ∃ er, (scanL s.data.toList).2 = er := ⟨_, rfl⟩
  rw [hx, her] at HN
  rw [hx, her]
  clear hx her
  have HNS := hid HN
  have H := hid h
  have HQ := hid hq
  have HNN := hid hn
  clear HN h hq hn
  go_enter Tryz.func235, Tryz.ntmps235
  go_wp2_with fail
  refine HNS.out.mono ?_
  rintro e w1 ⟨rfl, hb1⟩
  clear HNS
  by_cases her : er = 0
  · subst her
    have H1 := hid (H.out.below hb1)
    have hrow := H1.out.rowF
    rw [HNN.out] at hrow
    obtain ⟨gF, cap, rfl, hcap, hgF, e0, e1⟩ := hrow.plcs HNN.out HQ.out
    have c7 := H1.out.arr.cell (i := 7) rfl
    have hpg' : p ≠ gF := fun e => by
      obtain ⟨_, c, hc⟩ := hrow.lt gF rfl
      have := H1.out.arr
      rw [e] at this
      have h3 := (show w1.heap[gF]? = _ from this).symm.trans hc
      simp at h3
    have hggF : g ≠ gF := fun e => by
      obtain ⟨_, c, hc⟩ := hrow.lt gF rfl
      obtain ⟨v, hv, _⟩ := H1.out.arrG
      rw [e] at hv
      have h3 := (show w1.heap[gF]? = _ from hv).symm.trans hc
      simp at h3
    have HROW := hid hrow
    clear hrow
    go_wp2_with fail
    clear c7 e0 e1
    obtain ⟨d, hd⟩ : ∃ d, w1.heap.size = d := ⟨_, rfl⟩
    have hE0 := H1.out.below (Below.refl' w1 (.cells #[.int .i64 (q1 : Int), .int .i64 (q2 : Int)] 117))
    have hP0 : Arr (w1.alloc (.cells #[.int .i64 (q1 : Int), .int .i64 (q2 : Int)] 117)) w1.heap.size 117 [.int .i64 (q1 : Int), .int .i64 (q2 : Int)] := Arr.newL w1 _ _
    have hK0 : Kept S w (w1.alloc (.cells #[.int .i64 (q1 : Int), .int .i64 (q2 : Int)] 117)) := (Kept.ofBelow hb1).trans (Kept.ofBelow (S := S) (Below.refl' _ _)) (fun q h => .inl h)
    rw [hd] at hP0 ⊢
    have hgd : g ≠ d := by have := H1.out.lt; omega
    have hpd : p ≠ d := by have := H1.out.lt; omega
    have hgFd : gF ≠ d := by omega
    have hwd : w.heap.size ≤ d := by have := hb1.size; omega
    have HD := hid hd
    clear hd
    generalize w1.alloc (.cells #[.int .i64 (q1 : Int), .int .i64 (q2 : Int)] 117) = V at *
    -- the number is set
    refine wp_region_held (S := fun W' => Arr W' p 167 (rdC st bytes k R C (.slice (some ⟨g, 0, none⟩) (R * C) (R * C)) true (.slice (some ⟨gF, 0, none⟩) n cap) left) ∧ Arr W' d 117 [.int .i64 (q1 : Int), .int .i64 (q2 : Int)]) hmix ?_
    change wpAnyH _ _ _ _ _ _ _ _ V.drew
    have hE1 : EntC V.drew p S st bytes g (.slice (some ⟨gF, 0, none⟩) n cap) k R C left free f cur := hE0.frame (fun _ _ => rfl) (Nat.le_refl _)
    have hP1 : Arr V.drew d 117 [.int .i64 (q1 : Int), .int .i64 (q2 : Int)] := hP0.drew
    have hK1 : Kept S w V.drew := hK0.trans (Kept.drewN (S := S) 1) (fun q h => .inl h)
    clear hE0 hP0 hK0
    generalize V.drew = Vd at *
    have hSS := And.intro hE1.arr hP1
    refine wpAnyH_take (i := 0) (v := .pointer (some ⟨p, 0, none⟩)) rfl (by kernel_rfl) (by kernel_rfl) (by kernel_rfl) (fun _ _ _ h => h) (Or.inl ⟨by rfl, fun W' hS => ?_⟩) hSS ?_
    · clear hS
      go_simp
    simp only [Act.put]
    refine wpAnyH_take (i := 1) (v := .pointer (some ⟨p, 0, none⟩)) rfl (by kernel_rfl) (by kernel_rfl) (by kernel_rfl) (fun _ _ _ h => h) (Or.inl ⟨by rfl, fun W' hS => ?_⟩) hSS ?_
    · clear hS
      go_simp
    simp only [Act.put]
    refine wpAnyH_take (i := 2) (v := .pointer (some ⟨p, 3, none⟩)) rfl (by kernel_rfl) (by kernel_rfl) (by kernel_rfl) (fun _ _ _ h => h) (Or.inl ⟨by rfl, fun W' hS => ?_⟩) hSS ?_
    · clear hS
      go_simp
    simp only [Act.put]
    refine wpAnyH_take (i := 3) (v := .agg #[.int .i64 (R : Int), .int .i64 (C : Int), .slice (some ⟨g, 0, none⟩) (R * C) (R * C)]) rfl (by kernel_rfl) (by kernel_rfl) (by kernel_rfl) (fun _ _ _ h => h) (Or.inl ⟨by rfl, fun W' hS => ?_⟩) hSS ?_
    · have q0 := hS.1.cell (i := 3) rfl
      have q1 := hS.1.cell (i := 4) rfl
      have q2 := hS.1.cell (i := 5) rfl
      clear hS
      go_simp
    simp only [Act.put]
    refine wpAnyH_take (i := 4) (v := .agg #[.int .i64 (q1 : Int), .int .i64 (q2 : Int)]) rfl (by kernel_rfl) (by kernel_rfl) (by kernel_rfl) (fun _ _ _ h => h) (Or.inl ⟨by rfl, fun W' hS => ?_⟩) hSS ?_
    · have q0 := hS.2.cell (i := 0) rfl
      have q1 := hS.2.cell (i := 1) rfl
      clear hS
      go_simp
    simp only [Act.put]
    refine wpAnyH_take (i := 5) (v := .int .u64 (x : Int)) rfl (by kernel_rfl) (by kernel_rfl) (by kernel_rfl) (fun _ _ _ h => h) (Or.inl ⟨by rfl, fun W' hS => ?_⟩) hSS ?_
    · clear hS
      go_simp
    simp only [Act.put]
    have hset : Calls Tryz.prog 101 #[.agg #[.int .i64 (R : Int), .int .i64 (C : Int), .slice (some ⟨g, 0, none⟩) (R * C) (R * C)], .agg #[.int .i64 (q1 : Int), .int .i64 (q2 : Int)], .int .u64 (x : Int)] Vd fun e w' => (∃ v, e = .returned v) ∧ EntC w' p S st bytes g (.slice (some ⟨gF, 0, none⟩) n cap) k R C left free (setF f q1 q2 x) cur ∧ Arr w' d 117 [.int .i64 (q1 : Int), .int .i64 (q2 : Int)] ∧ Kept S w w' := by
      obtain ⟨v, hv1, hv2⟩ := hE1.arrG
      refine (mat_set Vd R C g q1 q2 x v hR hC hq12.1 hq12.2 hv1 hv2).mono ?_
      rintro e w' ⟨he, rfl⟩
      refine ⟨he, ((hE1.setNum x hq12.1 hq12.2).below (Below.refl' _ _)).below (Below.refl' _ _), ((hP1.other _ (Ne.symm hgd)).alloc _).alloc _, hK1.trans (Kept.two hE1.ownG _ _ _) (fun q h => .inl h)⟩
    refine wpAnyH_ready (rs := [6]) (by kernel_rfl) (by simp) ?_
    refine AllReadyH.cons rfl (fun K hKK => ?_) AllReadyH.nil
    go_simp
    refine hset.mono ?_
    rintro e W2 ⟨⟨rv, rfl⟩, hE2, hP2, hK2⟩
    refine hKK.out _ _ ⟨hE2.arr, hP2⟩ (fun hHeld => ?_)
    clear hKK hHeld hset hE1 hP1 hK1 hSS
    refine wpAnyH_done (by kernel_rfl) ?_ _
    have c2 := hE2.arr.cell (i := 2) rfl
    have HE2 := hid hE2
    have HP2 := hid hP2
    have HK2 := hid hK2
    clear hE2 hP2 hK2
    by_cases hsy : k = 1 ∨ k = 3
    · have hsb : decide ((k : Int) = 1 ∨ (k : Int) = 3) = true := by simp; omega
      have HRC := hid (HE2.out.sq hsy)
      go_wp2_with fail
      refine (ksym_b _ _ true hsb).mono ?_
      rintro e w2 ⟨rfl, hw2⟩
      rw [hw2]
      clear hw2 c2
      go_wp2_with fail
      -- the mirror
      refine wp_region_held (S := fun W' => Arr W' p 167 (rdC st bytes k R C (.slice (some ⟨g, 0, none⟩) (R * C) (R * C)) true (.slice (some ⟨gF, 0, none⟩) n cap) left) ∧ Arr W' d 117 [.int .i64 (q1 : Int), .int .i64 (q2 : Int)]) hmix ?_
      change wpAnyH _ _ _ _ _ _ _ _ W2.drew
      have hE3 : EntC W2.drew p S st bytes g (.slice (some ⟨gF, 0, none⟩) n cap) k R C left free (setF f q1 q2 x) cur := HE2.out.frame (fun _ _ => rfl) (Nat.le_refl _)
      have hP3 : Arr W2.drew d 117 [.int .i64 (q1 : Int), .int .i64 (q2 : Int)] := HP2.out.drew
      have hK3 : Kept S w W2.drew := HK2.out.trans (Kept.drewN (S := S) 1) (fun q h => .inl h)
      clear HE2 HP2 HK2
      generalize W2.drew = Vd2 at *
      have hSS := And.intro hE3.arr hP3
      refine wpAnyH_take (i := 0) (v := .pointer (some ⟨p, 0, none⟩)) rfl (by kernel_rfl) (by kernel_rfl) (by kernel_rfl) (fun _ _ _ h => h) (Or.inl ⟨by rfl, fun W' hS => ?_⟩) hSS ?_
      · clear hS
        go_simp
      simp only [Act.put]
      refine wpAnyH_take (i := 1) (v := .pointer (some ⟨p, 0, none⟩)) rfl (by kernel_rfl) (by kernel_rfl) (by kernel_rfl) (fun _ _ _ h => h) (Or.inl ⟨by rfl, fun W' hS => ?_⟩) hSS ?_
      · clear hS
        go_simp
      simp only [Act.put]
      refine wpAnyH_take (i := 2) (v := .pointer (some ⟨p, 3, none⟩)) rfl (by kernel_rfl) (by kernel_rfl) (by kernel_rfl) (fun _ _ _ h => h) (Or.inl ⟨by rfl, fun W' hS => ?_⟩) hSS ?_
      · clear hS
        go_simp
      simp only [Act.put]
      refine wpAnyH_take (i := 3) (v := .agg #[.int .i64 (R : Int), .int .i64 (C : Int), .slice (some ⟨g, 0, none⟩) (R * C) (R * C)]) rfl (by kernel_rfl) (by kernel_rfl) (by kernel_rfl) (fun _ _ _ h => h) (Or.inl ⟨by rfl, fun W' hS => ?_⟩) hSS ?_
      · have q0 := hS.1.cell (i := 3) rfl
        have q1 := hS.1.cell (i := 4) rfl
        have q2 := hS.1.cell (i := 5) rfl
        clear hS
        go_simp
      simp only [Act.put]
      refine wpAnyH_take (i := 4) (v := .agg #[.int .i64 (q1 : Int), .int .i64 (q2 : Int)]) rfl (by kernel_rfl) (by kernel_rfl) (by kernel_rfl) (fun _ _ _ h => h) (Or.inl ⟨by rfl, fun W' hS => ?_⟩) hSS ?_
      · have q0 := hS.2.cell (i := 0) rfl
        have q1 := hS.2.cell (i := 1) rfl
        clear hS
        go_simp
      simp only [Act.put]
      refine wpAnyH_take (i := 6) (v := .int .u64 (x : Int)) rfl (by kernel_rfl) (by kernel_rfl) (by kernel_rfl) (fun _ _ _ h => h) (Or.inl ⟨by rfl, fun W' hS => ?_⟩) hSS ?_
      · clear hS
        go_simp
      simp only [Act.put]
      have hmir := mirrored_any Vd2 q1 q2
      unfold plcV at hmir
      refine wpAnyH_ready (rs := [5]) (by kernel_rfl) (by simp) ?_
      refine AllReadyH.cons rfl (fun K hKK => ?_) AllReadyH.nil
      go_simp
      refine hmir.mono ?_
      rintro e W5 ⟨rfl, hW5⟩
      have bW5 : Below Vd2.heap.size Vd2 W5 := by rw [hW5]; exact ((Below.refl _ _).alloc (Nat.le_refl _) _).alloc (by simp) _
      have hE5 := hE3.below bW5
      have hP5 := hP3.belowAll bW5
      have hK5 : Kept S w W5 := hK3.trans (Kept.ofBelow (S := S) bW5) (fun q h => .inl h)
      refine hKK.out _ _ ⟨hE5.arr, hP5⟩ (fun hHeld => ?_)
      clear hKK hHeld hE3 hP3 hK3 hW5 bW5 hmir hSS
      have hset : Calls Tryz.prog 101 #[.agg #[.int .i64 (R : Int), .int .i64 (C : Int), .slice (some ⟨g, 0, none⟩) (R * C) (R * C)], .agg #[.int .i64 (q2 : Int), .int .i64 (q1 : Int)], .int .u64 (x : Int)] W5 fun e w' => (∃ v, e = .returned v) ∧ EntC w' p S st bytes g (.slice (some ⟨gF, 0, none⟩) n cap) k R C left free (setF (setF f q1 q2 x) q2 q1 x) cur ∧ Arr w' d 117 [.int .i64 (q1 : Int), .int .i64 (q2 : Int)] ∧ Kept S w w' := by
        obtain ⟨v, hv1, hv2⟩ := hE5.arrG
        refine (mat_set W5 R C g q2 q1 x v hR hC (by have := HRC.out; omega) (by have := HRC.out; omega) hv1 hv2).mono ?_
        rintro e w' ⟨he, rfl⟩
        refine ⟨he, ((hE5.setNum x (by have := HRC.out; omega) (by have := HRC.out; omega)).below (Below.refl' _ _)).below (Below.refl' _ _), ((hP5.other _ (Ne.symm hgd)).alloc _).alloc _, hK5.trans (Kept.two hE5.ownG _ _ _) (fun q h => .inl h)⟩
      refine wpAnyH_ready (rs := [7]) (by kernel_rfl) (by simp) ?_
      refine AllReadyH.cons rfl (fun K hKK => ?_) AllReadyH.nil
      go_simp
      refine hset.mono ?_
      rintro e W3 ⟨⟨rv2, rfl⟩, hEE, hP2, hKW⟩
      refine hKK.out _ _ ⟨hEE.arr, hP2⟩ (fun hHeld => ?_)
      clear hKK hHeld hset hE5 hP5 hK5
      refine wpAnyH_done (by kernel_rfl) ?_ _
      have c7 := hEE.arr.cell (i := 7) rfl
      have HEE := hid hEE
      have HROW2 := hid hEE.rowF
      clear hEE
      go_wp2_with fail
      have hdl := delete_any W3 S gF cap i n free hin HNN.out hlen (by have := HROW2.out; rw [HNN.out] at this; exact this)
      refine hdl.mono ?_
      rintro e W4 ⟨rfl, hrow4, hk4⟩
      have hfin := EntC.tookOut HEE.out HNN.out hin hleft hrow4 hk4 hpg' hggF
      have a4 := hk4.arr HEE.out.arr hpg'
      have a5 := a4.set 7 (.slice (some ⟨gF, 0, none⟩) (n - 1) cap)
      have x7 := a4.cell (i := 7) rfl
      have y7 := a4.frozen 7
      have x8 := a5.cell (i := 8) rfl
      have y8 := a5.frozen 8
      have hcast : ((left : Int) - 1) = ((left - 1 : Nat) : Int) := by omega
      have hkf : Kept S w ((W4.setCell ⟨p, 7, none⟩ (.slice (some ⟨gF, 0, none⟩) (n - 1) cap)).setCell ⟨p, 8, none⟩ (.int .i64 ((left - 1 : Nat) : Int))) :=
        ((hKW.trans (hk4.mono (T := S) (fun q hq => by rw [hq]; exact HROW2.out.own gF rfl)) (fun q h => .inl h)).trans (Kept.set (S := S) HEE.out.own _) (fun q h => .inl h)).trans (Kept.set (S := S) HEE.out.own _) (fun q h => .inl h)
      have HF := hid hfin
      have HKF := hid hkf
      clear hfin hkf a4 a5 hrow4 hk4 hdl hKW
      go_wp2
      go_ret
      exact ⟨rfl, HKF.out, .inr ⟨rfl, _, by unfold putF; rw [if_pos hsy]; exact HF.out⟩⟩
    · have hsb : decide ((k : Int) = 1 ∨ (k : Int) = 3) = false := by simp; omega
      go_wp2_with fail
      refine (ksym_b _ _ false hsb).mono ?_
      rintro e W3 ⟨rfl, hw2⟩
      have hEE := HE2.out
      have hKW := HK2.out
      rw [← hw2] at hEE hKW
      clear hw2 c2 HE2 HP2 HK2
      have c7 := hEE.arr.cell (i := 7) rfl
      have HEE := hid hEE
      have HROW2 := hid hEE.rowF
      clear hEE
      go_wp2_with fail
      have hdl := delete_any W3 S gF cap i n free hin HNN.out hlen (by have := HROW2.out; rw [HNN.out] at this; exact this)
      refine hdl.mono ?_
      rintro e W4 ⟨rfl, hrow4, hk4⟩
      have hfin := EntC.tookOut HEE.out HNN.out hin hleft hrow4 hk4 hpg' hggF
      have a4 := hk4.arr HEE.out.arr hpg'
      have a5 := a4.set 7 (.slice (some ⟨gF, 0, none⟩) (n - 1) cap)
      have x7 := a4.cell (i := 7) rfl
      have y7 := a4.frozen 7
      have x8 := a5.cell (i := 8) rfl
      have y8 := a5.frozen 8
      have hcast : ((left : Int) - 1) = ((left - 1 : Nat) : Int) := by omega
      have hkf : Kept S w ((W4.setCell ⟨p, 7, none⟩ (.slice (some ⟨gF, 0, none⟩) (n - 1) cap)).setCell ⟨p, 8, none⟩ (.int .i64 ((left - 1 : Nat) : Int))) :=
        ((hKW.trans (hk4.mono (T := S) (fun q hq => by rw [hq]; exact HROW2.out.own gF rfl)) (fun q h => .inl h)).trans (Kept.set (S := S) HEE.out.own _) (fun q h => .inl h)).trans (Kept.set (S := S) HEE.out.own _) (fun q h => .inl h)
      have HF := hid hfin
      have HKF := hid hkf
      clear hfin hkf a4 a5 hrow4 hk4 hdl hKW
      go_wp2
      go_ret
      exact ⟨rfl, HKF.out, .inr ⟨rfl, _, by unfold putF; rw [if_neg hsy]; exact HF.out⟩⟩
  · have her' : ¬ (er : Int) = 0 := by omega
    go_wp2
    go_ret
    exact ⟨rfl, Kept.ofBelow hb1, .inl ⟨her, hb1⟩⟩
end Go.Proofs.YthdcceackfdbbaaGreatDoor
namespace Go.Proofs.YthdcceackfdbbaaGreatDoor
open Go Go.RowKit
theorem EntC.setSt {w : World} {p : Nat} {S : Nat → Prop} {st bytes : Value} {g : Nat} {fv : Value} {k R C left : Nat} {free : List (Nat × Nat)} {f : Nat → Nat → Nat} {cur : List UInt8} (h : EntC w p S st bytes g fv k R C left free f cur) (st' : Value) :
    EntC (w.setCell ⟨p, 0, none⟩ st') p S st' bytes g fv k R C left free f cur := by
  obtain ⟨v, hv1, hv2⟩ := h.arrG
  have hpg := h.lt.2.2
  have g2 : Arr (w.setCell ⟨p, 0, none⟩ st') g _ _ := hv1.other st' (Ne.symm hpg)
  refine ⟨h.own, h.arr.set 0 st', h.rowB.set h.arr (by decide) _, h.ownG, ⟨v, g2, hv2⟩, ⟨g2.lt, fun i j hi hj => ?_⟩, h.rowF.set h.arr (by decide) _, h.hk, h.hR, h.hC, h.sq, h.free_in, h.len, h.left_le⟩
  exact (World.cell?_of_block (w := w) (Below.heap_setCell _ _ _ _ (Ne.symm hpg))).trans (h.mem.2 i j hi hj)
theorem TextIs.mono {w : World} {p : Nat} {S T : Nat → Prop} {cur : List UInt8} {t : TSt} (h : TextIs w p S cur t) (hT : ∀ q, S q → T q) : TextIs w p T cur t := by
  cases t with
  | first => obtain ⟨h1, b, h2, h3⟩ := h; exact ⟨hT p h1, b, h2, h3.mono hT⟩
  | sizes k => obtain ⟨h0, h1, b, h2, h3⟩ := h; exact ⟨h0, hT p h1, b, h2, h3.mono hT⟩
  | ent k R C left free f => obtain ⟨b, g, fv, h⟩ := h; exact ⟨b, g, fv, h.mono hT⟩
theorem TextIs.below {w w' : World} {p : Nat} {S : Nat → Prop} {cur : List UInt8} {t : TSt} (h : TextIs w p S cur t) (b : Below w.heap.size w w') : TextIs w' p S cur t := by
  cases t with
  | first => obtain ⟨h1, x, h2, h3⟩ := h; exact ⟨h1, x, h2.belowAll b, h3.below b⟩
  | sizes k => obtain ⟨h0, h1, x, h2, h3⟩ := h; exact ⟨h0, h1, x, h2.belowAll b, h3.below b⟩
  | ent k R C left free f => obtain ⟨x, g, fv, h⟩ := h; exact ⟨x, g, fv, h.below b⟩
theorem TextIs.frame {w w' : World} {p : Nat} {S : Nat → Prop} {cur : List UInt8} {t : TSt} (h : TextIs w p S cur t) (hk : ∀ q, S q → w'.heap[q]? = w.heap[q]?) (hsz : w.heap.size ≤ w'.heap.size) : TextIs w' p S cur t := by
  cases t with
  | first => obtain ⟨h1, x, h2, h3⟩ := h; exact ⟨h1, x, (hk p h1).trans h2, h3.keep (fun q hq => hk q (h3.own q hq))⟩
  | sizes k => obtain ⟨h0, h1, x, h2, h3⟩ := h; exact ⟨h0, h1, x, (hk p h1).trans h2, h3.keep (fun q hq => hk q (h3.own q hq))⟩
  | ent k R C left free f => obtain ⟨x, g, fv, h⟩ := h; exact ⟨x, g, fv, h.frame hk hsz⟩
theorem StepT.lift {w V : World} {p : Nat} {S : Nat → Prop} {r : Nat × TSt} {e : Ending} {w' : World} (h : StepT V p S r e w') (b : Below w.heap.size w V) : StepT w p S r e w' := by
  obtain ⟨st, h1, h2, h3, h4, h5⟩ := h
  refine ⟨st, h1, h2, (Kept.ofBelow b).trans h3 (fun q h => .inl h), h4, fun h0 => (h5 h0).mono (fun q hq => hq.imp id (fun h => ⟨Nat.le_trans b.size h.1, h.2⟩))⟩
set_option maxRecDepth 20000 in
set_option maxHeartbeats 2000000 in
theorem sizes_step (w : World) (p : Nat) (S : Nat → Prop) (k A n : Nat) (ws : List ByteArray) (c : Bool) (hn : ws.length = n) (hn1 : n ≤ 1000000) (hsz : ∀ x ∈ ws, x.size ≤ 1000000) (hs : StrsAt w (some ⟨A, 0, none⟩) ws) (h : TextIs w p S [] (.sizes k)) :
    Calls Tryz.prog 149 #[.pointer (some ⟨p, 0, none⟩), lineV A n c] w fun e w' => StepT w p S (sizesT k c (ws.map (·.data.toList))) e w' := by
  have hmf : ∀ (fn : Fn) (first cap : Array Value) (w : World), (Instr.makeFunc fn first cap).run Tryz.prog w = .ok (.func fn first cap) w := fun _ _ _ _ => rfl
  have hk : k ≤ 3 := h.1
  obtain ⟨b, hb⟩ : ∃ b, w.heap.size = b := ⟨_, rfl⟩
  have aV : Arr (w.alloc (.cells #[.slice (some ⟨A, 0, none⟩) n n, .bool c] 213)) b 213 [.slice (some ⟨A, 0, none⟩) n n, .bool c] := by rw [← hb]; exact Arr.newL w _ _
  have bV : Below b w (w.alloc (.cells #[.slice (some ⟨A, 0, none⟩) n n, .bool c] 213)) := by rw [← hb]; exact Below.refl' _ _
  have c0 := aV.cell (i := 0) rfl
  have c1 := aV.cell (i := 1) rfl
  have h2 := h.below (hb ▸ bV)
  have hs2 := hs.below (hb ▸ bV)
  obtain ⟨_, _, bytes, a2, r2⟩ := h2
  have p2 := a2.cell (i := 2) rfl
  have h2 := h.below (hb ▸ bV)
  have HB := hid hb
  have H2 := hid h2
  have HBV := hid bV
  have HS2 := hid hs2
  have HA2 := hid a2
  have HR2 := hid r2
  have HN := hid hn
  clear h h2 bV hs2 a2 r2 hs hn aV
  obtain ⟨V, hV⟩ : ∃ V, w.alloc (.cells #[.slice (some ⟨A, 0, none⟩) n n, .bool c] 213) = V := ⟨_, rfl⟩
  rw [hV] at c0 c1 p2 H2 HBV HS2 HA2 HR2
  unfold lineV
  cases c with
  | true =>
    have hfin : Hid (StepT w p S (sizesT k true (ws.map (·.data.toList))) (.returned (.tuple #[stV 149 p, .int .i64 0])) V) := by
      refine ⟨_, rfl, ⟨_, _, _, .inl rfl⟩, Kept.ofBelow (HB.out ▸ HBV.out), ⟨_, HA2.out, rfl⟩, fun _ => ?_⟩
      exact ⟨hk, .inl H2.out.2.1, bytes, HA2.out.set 0 _, (HR2.out.set HA2.out (by decide) _).mono (fun q h => .inl h)⟩
    unfold stV at hfin
    go_enter Tryz.func149, Tryz.ntmps149
    go_wp2
    go_ret2
    exact hfin.out
  | false =>
    by_cases hkk : k = 2 ∨ k = 3
    · have hst := coordinateSizes_step V p S k A n ws false hk hkk HN.out hn1 hsz HS2.out H2.out
      have HST : Hid _ := hid (hst.mono (fun e w' h => h.lift (HB.out ▸ HBV.out)))
      have hE : sizesT k false (ws.map (·.data.toList)) = cooT k (wholesL (ws.map (·.data.toList))) := by unfold sizesT; rw [if_neg (by simp), if_pos hkk]
      rw [hE]
      unfold lineV at HST
      clear hst hE
      generalize cooT k (wholesL (ws.map (·.data.toList))) = res at *
      go_enter Tryz.func149, Tryz.ntmps149
      go_wp2_with fail
      refine (kcoord_b _ _ true (by simp; omega)).mono ?_
      rintro e w2 ⟨rfl, hw2⟩
      rw [hw2]
      clear hw2
      go_wp2_with fail
      refine HST.out.mono ?_
      rintro e W2 hres
      have HRES := hid hres
      obtain ⟨st, rfl, ⟨F, a, bb, hst⟩, _⟩ := hres
      clear HST
      rcases hst with rfl | rfl
      · go_wp2
        go_ret2
        exact HRES.out
      · go_wp2
        go_ret2
        exact HRES.out
    · have hst := arraySizes_step V p S k A n ws false hk hkk HN.out hn1 hsz HS2.out H2.out
      have HST : Hid _ := hid (hst.mono (fun e w' h => h.lift (HB.out ▸ HBV.out)))
      have hE : sizesT k false (ws.map (·.data.toList)) = arrT k (wholesL (ws.map (·.data.toList))) := by unfold sizesT; rw [if_neg (by simp), if_neg hkk]
      rw [hE]
      unfold lineV at HST
      clear hst hE
      generalize arrT k (wholesL (ws.map (·.data.toList))) = res at *
      go_enter Tryz.func149, Tryz.ntmps149
      go_wp2_with fail
      refine (kcoord_b _ _ false (by simp; omega)).mono ?_
      rintro e w2 ⟨rfl, hw2⟩
      rw [hw2]
      clear hw2
      go_wp2_with fail
      refine HST.out.mono ?_
      rintro e W2 hres
      have HRES := hid hres
      obtain ⟨st, rfl, ⟨F, a, bb, hst⟩, _⟩ := hres
      clear HST
      rcases hst with rfl | rfl
      · go_wp2
        go_ret2
        exact HRES.out
      · go_wp2
        go_ret2
        exact HRES.out
def putT (k R C left : Nat) (free : List (Nat × Nat)) (f : Nat → Nat → Nat) (i : Nat) (t : List UInt8) : Nat × TSt :=
  if (scanL t).2 ≠ 0 then ((scanL t).2, .first) else (0, .ent k R C (left - 1) (free.eraseIdx i) (putF k f (free.getD i (0, 0)) (scanL t).1))
def arrE (k R C left : Nat) (free : List (Nat × Nat)) (f : Nat → Nat → Nat) (c : Bool) (ws : List (List UInt8)) : Nat × TSt :=
  if c = true ∨ ws.length ≠ 1 then (6, .first) else if left = 0 then (10, .first) else putT k R C left free f 0 (ws.getD 0 [])
theorem put_step {w w' : World} {p : Nat} {S : Nat → Prop} {bytes : Value} {g k R C left : Nat} {free : List (Nat × Nat)} {f : Nat → Nat → Nat} {i : Nat} {q : Nat × Nat} {t : List UInt8} {e : Ending} (hq : free[i]? = some q) (h0 : ∃ c, Arr w p 167 c ∧ c.length = 9)
    (h : PutR w p S (stV (entF k) p) bytes g k R C left free f [] i q (scanL t).1 (scanL t).2 e w') : StepT w p S (putT k R C left free f i t) (.returned (.tuple #[stV (entF k) p, .int .i64 ((scanL t).2 : Int)])) w' ∧ e = .returned (.int .i64 ((scanL t).2 : Int)) := by
  obtain ⟨rfl, hk, h⟩ := h
  refine ⟨?_, rfl⟩
  have hgd : free.getD i (0, 0) = q := by rw [List.getD_eq_getElem?_getD, hq]; rfl
  rcases h with ⟨hne, hb⟩ | ⟨hz, fv', hE⟩
  · have hr : putT k R C left free f i t = ((scanL t).2, .first) := by unfold putT; rw [if_pos hne]
    rw [hr]
    obtain ⟨c, h1, h2⟩ := h0
    exact ⟨_, rfl, ⟨_, _, _, .inl rfl⟩, hk, ⟨c, h1.belowAll hb, h2⟩, fun h => (hne h).elim⟩
  · have hr : putT k R C left free f i t = (0, .ent k R C (left - 1) (free.eraseIdx i) (putF k f q (scanL t).1)) := by unfold putT; rw [if_neg (by rw [hz]; simp), hgd]
    rw [hr, hz]
    exact ⟨_, rfl, ⟨_, _, _, .inl rfl⟩, hk, ⟨_, hE.arr, rfl⟩, fun _ => ⟨bytes, g, fv', (hE.setSt _).mono (fun q h => .inl h)⟩⟩
set_option maxRecDepth 20000 in
set_option maxHeartbeats 2000000 in
theorem arrayEntry_step (w : World) (p : Nat) (S : Nat → Prop) (k R C left : Nat) (free : List (Nat × Nat)) (f : Nat → Nat → Nat) (A n : Nat) (ws : List ByteArray) (c : Bool) (hkk : ¬ (k = 2 ∨ k = 3)) (hn : ws.length = n) (hn1 : n ≤ 1000000) (hsz : ∀ x ∈ ws, x.size ≤ 1000000) (hs : StrsAt w (some ⟨A, 0, none⟩) ws) (h : TextIs w p S [] (.ent k R C left free f)) :
    Calls Tryz.prog 214 #[.pointer (some ⟨p, 0, none⟩), lineV A n c] w fun e w' => StepT w p S (arrE k R C left free f c (ws.map (·.data.toList))) e w' := by
  have hmf : ∀ (fn : Fn) (first cap : Array Value) (w : World), (Instr.makeFunc fn first cap).run Tryz.prog w = .ok (.func fn first cap) w := fun _ _ _ _ => rfl
  obtain ⟨bytes, g, fv, hE⟩ := h
  have hef : entF k = 214 := by unfold entF; rw [if_neg hkk]
  have hl16 : left ≤ 1600 := by have := hE.len; have := hE.left_le; omega
  obtain ⟨b, hb⟩ : ∃ b, w.heap.size = b := ⟨_, rfl⟩
  have aV : Arr (w.alloc (.cells #[.slice (some ⟨A, 0, none⟩) n n, .bool c] 213)) b 213 [.slice (some ⟨A, 0, none⟩) n n, .bool c] := by rw [← hb]; exact Arr.newL w _ _
  have bV : Below b w (w.alloc (.cells #[.slice (some ⟨A, 0, none⟩) n n, .bool c] 213)) := by rw [← hb]; exact Below.refl' _ _
  have c0 := aV.cell (i := 0) rfl
  have c1 := aV.cell (i := 1) rfl
  have e2 := hE.below (hb ▸ bV)
  have p8 := e2.arr.cell (i := 8) rfl
  have hs2 := hs.below (hb ▸ bV)
  have HB := hid hb
  have HBV := hid bV
  have HS2 := hid hs2
  have HE2 := hid e2
  have HN := hid hn
  have HEF := hid hef
  clear hE bV hs2 e2 hs hn aV hef
  obtain ⟨V, hV⟩ : ∃ V, w.alloc (.cells #[.slice (some ⟨A, 0, none⟩) n n, .bool c] 213) = V := ⟨_, rfl⟩
  rw [hV] at c0 c1 p8 HBV HS2 HE2
  have bad : ∀ er : Nat, er ≠ 0 → arrE k R C left free f c (ws.map (·.data.toList)) = (er, .first) → Hid (StepT w p S (arrE k R C left free f c (ws.map (·.data.toList))) (.returned (.tuple #[.nilFunc, .int .i64 (er : Int)])) V) := fun er h0 hr => by
    rw [hr]
    exact ⟨_, rfl, ⟨default, default, default, .inr rfl⟩, Kept.ofBelow (HB.out ▸ HBV.out), ⟨_, HE2.out.arr, rfl⟩, fun h => (h0 h).elim⟩
  unfold lineV
  cases c with
  | true =>
    have hfin := bad 6 (by decide) (by unfold arrE; rw [if_pos (.inl rfl)])
    clear bad
    go_enter Tryz.func214, Tryz.ntmps214
    go_wp2
    go_ret2
    exact hfin.out
  | false =>
    by_cases h1 : n = 1
    · by_cases h0 : left = 0
      · have hfin := bad 10 (by decide) (by unfold arrE; rw [if_neg (by rw [List.length_map, HN.out, h1]; simp), if_pos h0])
        clear bad
        subst h1
        subst h0
        go_enter Tryz.func214, Tryz.ntmps214
        go_wp2
        go_ret2
        exact hfin.out
      · clear bad
        subst h1
        obtain ⟨x, hx⟩ : ∃ x, ws = [x] := by
          match ws, HN.out with
          | [x], _ => exact ⟨x, rfl⟩
        have h0' : ¬ (left : Int) = 0 := by omega
        obtain ⟨q, hq⟩ : ∃ q, free[0]? = some q := ⟨free[0]'(by have := HE2.out.left_le; omega), by simp⟩
        obtain ⟨q1, q2⟩ := q
        obtain ⟨gA, off, hA, _, d0⟩ := HS2.out 0 x (by rw [hx]; rfl)
        cases hA
        have hr : arrE k R C left free f false (ws.map (·.data.toList)) = putT k R C left free f 0 x.data.toList := by unfold arrE; rw [if_neg (by rw [List.length_map, HN.out]; simp), if_neg h0, hx]; rfl
        rw [hr]
        have hput := put_any V p S (stV (entF k) p) bytes g fv k R C left free f [] 0 free.length q1 q2 x (hsz x (by rw [hx]; simp)) HE2.out rfl hq (by omega)
        have HPUT : Hid _ := hid (hput.mono (fun e w' h => put_step hq ⟨_, HE2.out.arr, rfl⟩ h))
        clear hput hq hr hx
        have hst : stV (entF k) p = .func (.func 214) #[.pointer (some ⟨p, 0, none⟩)] #[] := by rw [HEF.out]; rfl
        rw [hst] at HPUT
        clear hst
        go_enter Tryz.func214, Tryz.ntmps214
        go_wp2_with fail
        refine HPUT.out.mono ?_
        rintro e W2 ⟨hfin, rfl⟩
        have HFIN := hid (hfin.lift (HB.out ▸ HBV.out))
        clear HPUT hfin
        go_wp2
        go_ret2
        exact HFIN.out
    · have h1' : ¬ (n : Int) = 1 := by omega
      have hfin := bad 6 (by decide) (by unfold arrE; rw [if_pos (.inr (by rw [List.length_map, HN.out]; exact h1))])
      clear bad
      go_enter Tryz.func214, Tryz.ntmps214
      go_wp2
      go_ret2
      exact hfin.out
end Go.Proofs.YthdcceackfdbbaaGreatDoor
