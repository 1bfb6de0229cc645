import Derived.Test.YthdcceackfdbbaaGreatDoorM30R
import Derived.Deep.QuietTactic
import Derived.BigQuiet
namespace Go.Proofs.YthdcceackfdbbaaGreatDoor
open Go Go.RowKit
theorem set_off {W : World} {q i g : Nat} {v : Value} (hg : g ≠ q) : (W.setCell ⟨q, i, none⟩ v).heap[g]? = W.heap[g]? := Below.heap_setCell _ _ _ _ hg
theorem lec_steps {W : World} {q p : Nat} {x : ByteArray} {R C : Int} {bits : Value} {kind er2 : Int} (h : Arr W q 41 (lecC p x false 0 R C bits kind er2)) (R9 C9 : Int) (b9 : Value) (k9 r1 : Int) :
    ∃ Z1 Z2 Z3 Z4 Z5 Z6 Z7 : World, W.setCell ⟨q, 4, none⟩ (.int .i64 R9) = Z1 ∧ Z1.setCell ⟨q, 5, none⟩ (.int .i64 C9) = Z2 ∧ Z2.setCell ⟨q, 6, none⟩ b9 = Z3 ∧ Z3.setCell ⟨q, 7, none⟩ (.int .i64 k9) = Z4 ∧ Z4.setCell ⟨q, 8, none⟩ (.int .i64 r1) = Z5 ∧ Z5.setCell ⟨q, 3, none⟩ (.int .i64 r1) = Z6 ∧ Z6.setCell ⟨q, 2, none⟩ (.bool true) = Z7 ∧
    W.cell? ⟨q, 4, none⟩ = some (.int .i64 R) ∧ W.frozen? ⟨q, 4, none⟩ = false ∧ Z1.cell? ⟨q, 5, none⟩ = some (.int .i64 C) ∧ Z1.frozen? ⟨q, 5, none⟩ = false ∧ Z2.cell? ⟨q, 6, none⟩ = some bits ∧ Z2.frozen? ⟨q, 6, none⟩ = false ∧
    Z3.cell? ⟨q, 7, none⟩ = some (.int .i64 kind) ∧ Z3.frozen? ⟨q, 7, none⟩ = false ∧ Z4.cell? ⟨q, 8, none⟩ = some (.int .i64 er2) ∧ Z4.frozen? ⟨q, 8, none⟩ = false ∧ Z5.cell? ⟨q, 8, none⟩ = some (.int .i64 r1) ∧
    Z5.cell? ⟨q, 3, none⟩ = some (.int .i64 0) ∧ Z5.frozen? ⟨q, 3, none⟩ = false ∧ Z6.cell? ⟨q, 2, none⟩ = some (.bool false) ∧ Z6.frozen? ⟨q, 2, none⟩ = false ∧
    Hid (Arr Z7 q 41 (lecC p x true r1 R9 C9 b9 k9 r1)) ∧ Hid (∀ g, g ≠ q → Z7.heap[g]? = W.heap[g]?) ∧ Hid (Z7.heap.size = W.heap.size) ∧ Hid (Kept (fun z => z = q) W Z7) := by
  have h1 := h.set 4 (.int .i64 R9)
  have h2 := h1.set 5 (.int .i64 C9)
  have h3 := h2.set 6 b9
  have h4 := h3.set 7 (.int .i64 k9)
  have h5 := h4.set 8 (.int .i64 r1)
  have h6 := h5.set 3 (.int .i64 r1)
  have h7 := h6.set 2 (.bool true)
  have ks : ∀ (A : World) (i : Nat) (v : Value), Kept (fun z => z = q) A (A.setCell ⟨q, i, none⟩ v) := fun A i v => Kept.set (S := fun z => z = q) rfl v
  have t : ∀ {A B D : World}, Kept (fun z => z = q) A B → Kept (fun z => z = q) B D → Kept (fun z => z = q) A D := fun a b => a.trans b (fun z h => .inl h)
  exact ⟨_, _, _, _, _, _, _, rfl, rfl, rfl, rfl, rfl, rfl, rfl, h.cell (i := 4) rfl, h.frozen 4, h1.cell (i := 5) rfl, h1.frozen 5, h2.cell (i := 6) rfl, h2.frozen 6, h3.cell (i := 7) rfl, h3.frozen 7, h4.cell (i := 8) rfl, h4.frozen 8, h5.cell (i := 8) rfl,
    h5.cell (i := 3) rfl, h5.frozen 3, h6.cell (i := 2) rfl, h6.frozen 2, h7, fun g hg => (set_off hg).trans ((set_off hg).trans ((set_off hg).trans ((set_off hg).trans ((set_off hg).trans ((set_off hg).trans (set_off hg)))))), by show _ = _; simp [World.setCell],
    t (t (t (t (t (t (ks _ _ _) (ks _ _ _)) (ks _ _ _)) (ks _ _ _)) (ks _ _ _)) (ks _ _ _)) (ks _ _ _)⟩
set_option maxRecDepth 20000 in
set_option maxHeartbeats 4000000 in
theorem lend_any (w : World) (q m : Nat) (S : Nat → Prop) (h : LecIs w q S m) (hm : m ≤ 20000000000000) :
    Calls Tryz.prog 14 #[.pointer (some ⟨q, 0, none⟩)] w fun e w' => e = .returned (.bool true) ∧ CallL w q S m w' := by
  obtain ⟨p, Sf, s, x, ended, er, R, C, ao, n, cap, kind, er2, h, hxm⟩ := h
  have HED := hid (rend_any w p Sf s h.rd)
  obtain ⟨r, hr⟩ : ∃ r, endS s = r := ⟨_, rfl⟩
  rw [hr] at HED
  have HR := hid hr
  have H := hid h
  have c0 := h.arr.cell (i := 0) rfl
  clear h hr
  obtain ⟨⟨R1, C1, k1⟩, er', s'⟩ := r
  simp only at HED
  go_enter Tryz.func14, Tryz.ntmps14
  go_wp2_with fail
  refine HED.out.mono ?_
  rintro e W1 ⟨rfl, hc⟩
  clear HED c0
  obtain ⟨hk1, ha1, Sf', hS', hr1, hnq, hbt⟩ := H.out.called hc
  clear hc
  have HK1 := hid hk1
  have HA1 := hid ha1
  have HS1 := hid hS'
  have HR1 := hid hr1
  have HNQ := hid hnq
  have HBT := hid hbt
  clear hk1 ha1 hS' hr1 hnq hbt
  obtain ⟨W2, eW2⟩ : ∃ W2, W1.alloc (.cells #[.int .i64 (R1 : Int), .int .i64 (C1 : Int), .int .i64 (k1 : Int)] 62) = W2 := ⟨_, rfl⟩
  obtain ⟨s1, hs1⟩ : ∃ s1, W1.heap.size = s1 := ⟨_, rfl⟩
  have b2 : Below W1.heap.size W1 W2 := by rw [← eW2]; exact Below.refl' _ _
  have hh2 : Arr W2 s1 62 [.int .i64 (R1 : Int), .int .i64 (C1 : Int), .int .i64 (k1 : Int)] := by rw [← eW2, ← hs1]; exact Arr.newL W1 _ _
  have a2 := HA1.out.belowAll b2
  have r2 := HR1.out.below b2
  have k2 : Kept S w W2 := HK1.out.trans (Kept.ofBelow (S := S) b2) (fun z h => .inl h)
  have hqs : q < s1 := by have := HA1.out.lt; omega
  have hb2 : ∀ (R' C' : Nat) f, BitsIs 0 W1 (.slice ao n cap) R' C' f → BitsIs 0 W2 (.slice ao n cap) R' C' f := fun R' C' f h => h.below b2
  have HB2 := hid hb2
  have HH2 := hid hh2
  have HA2 := hid a2
  have HR2 := hid r2
  have HK2 := hid k2
  have c1 := a2.cell (i := 1) rfl
  have c2 := a2.cell (i := 2) rfl
  have c3 := a2.cell (i := 3) rfl
  have f2 := a2.frozen 2
  clear hb2 hh2 a2 r2 k2 b2 HA1 HR1 HK1
  rcases H.out.st with ⟨rfl, rfl, hs⟩ | ⟨h1, h2⟩ | ⟨rfl, rfl, k, R', C', f, hs, hrest⟩
  · have hrd := rread_any W2 x (by omega) true
    have hs0 : (feedS .begin x.data.toList).1 = 0 := by rw [hs]
    have hcases := readF_end hs0
    have hs2 : (feedS .begin x.data.toList).2 = s := by rw [hs]
    rw [hs2, HR.out] at hcases
    have HRD := hid hrd
    have HCS := hid hcases
    clear hrd hcases hs0 hs2 hs HR
    go_wp2_with fail
    refine HRD.out.mono ?_
    rintro e W3 ⟨R9, C9, k9, ao9, n9, cap9, rfl, hW3, hf9⟩
    obtain ⟨⟨r1, r2⟩, hr⟩ : ∃ r, readF x.data.toList true = r := ⟨_, rfl⟩
    rw [hr] at HCS hf9
    rw [hr]
    simp only at hf9
    simp only
    clear hr HRD eW2 c1 c2 c3 f2
    unfold foundV
    have a3 := HA2.out.belowAll hW3
    have r3 := HR2.out.below hW3
    have k3 : Kept S w W3 := HK2.out.trans (Kept.ofBelow (S := S) hW3) (fun z h => .inl h)
    have h3 := HH2.out.belowAll hW3
    have hz23 := hW3.size
    have hS2 : ∀ z, Sf' z → z < W2.heap.size := HR2.out.lt
    have hpq : p < W2.heap.size := HR2.out.ptr_lt
    have hqq : q < W2.heap.size := HA2.out.lt
    have hw2 := HK2.out.size
    obtain ⟨Z1, Z2, Z3, Z4, Z5, Z6, Z7, q1, q2, q3, q4, q5, q6, q7, x4, y4, x5, y5, x6, y6, x7, y7, x8, y8, x9, x3, y3, x2, y2, HA7, HF7, HZ7, HK7⟩ := lec_steps a3 R9 C9 (.slice ao9 n9 cap9) k9 r1
    have r7 : ReadIs Z7 p Sf' s' := r3.frame (fun z hz => HF7.out z (fun e => by
      rcases hz with hz | hz
      · exact H.out.ne (hz.symm.trans e)
      · exact HNQ.out (e ▸ hz))) (Nat.le_of_eq HZ7.out.symm)
    have k7 : Kept S w Z7 := k3.trans HK7.out (fun z h => .inl (by rw [h]; exact H.out.hq))
    have hd7 : Arr Z7 s1 62 [.int .i64 (R1 : Int), .int .i64 (C1 : Int), .int .i64 (k1 : Int)] := (HF7.out s1 (by omega)).trans h3
    have e0 := hd7.cell (i := 0) rfl
    have e1 := hd7.cell (i := 1) rfl
    have e2 := hd7.cell (i := 2) rfl
    have w3 := HA7.out.cell (i := 3) rfl
    have w4 := HA7.out.cell (i := 4) rfl
    have w5 := HA7.out.cell (i := 5) rfl
    have w7 := HA7.out.cell (i := 7) rfl
    have HR7 := hid r7
    have HK77 := hid k7
    clear a3 r3 k3 h3 r7 k7 hd7 HH2 HA2 HK2 HB2
    rcases HCS.out with ⟨er, hr, hne, hen⟩ | ⟨k, R', C', f, hr, hen⟩
    · cases hr
      simp only [Prod.mk.injEq] at hen
      obtain ⟨⟨rfl, rfl, rfl⟩, rfl, rfl⟩ := hen
      have HFIN : Hid (CallL w q S m Z7) := LecAt.make HK77.out H.out.hq H.out.hp H.out.ne H.out.lt HS1.out HR7.out HNQ.out HA7.out (T := fun _ => False) (fun z h => h.elim) (.inr (.inl ⟨hne, rfl⟩)) hxm
      have h1' : (er' == 0) = false := by simpa using hne
      have h1b : (er' != 0) = true := by simpa using hne
      clear HCS HA7 HF7 HZ7 HK7 HR7 HK77 hf9 hW3
      go_wp2
      go_ret
      exact ⟨by simp, HFIN.out⟩
    · cases hr
      simp only [Prod.mk.injEq] at hen
      obtain ⟨⟨rfl, rfl, rfl⟩, rfl, rfl⟩ := hen
      obtain ⟨rfl, rfl, rfl, g4, g5, g6, g7⟩ := hf9 _ _ _ _ rfl
      have hin : ∀ g l cp, Value.slice ao9 n9 cap9 = .slice (some ⟨g, 0, none⟩) l cp → R1 * C1 ≠ 0 → W2.heap.size ≤ g ∧ g < W3.heap.size := fun g l cp e h0 => by
        obtain ⟨ao, cap, e2, hh⟩ := g7
        rcases hh with hh | ⟨g', e3, h1, h2, _⟩
        · exact (h0 hh).elim
        · rw [e2] at e
          injection e with e _ _
          rw [e3] at e
          cases e
          exact ⟨h1, h2⟩
      have hbz : BitsIs 0 Z7 (.slice ao9 n9 cap9) R1 C1 f := (g7.mono (Nat.zero_le _)).frame (fun g l cp e h0 => HF7.out g (by have := hin g l cp e h0; omega)) (Nat.le_of_eq HZ7.out.symm)
      have HFIN : Hid (CallL w q S m Z7) := LecAt.make HK77.out H.out.hq H.out.hp H.out.ne H.out.lt HS1.out HR7.out HNQ.out HA7.out (T := fun z => W2.heap.size ≤ z ∧ z < Z7.heap.size) (fun z h => ⟨by omega, h.2⟩)
        (.inr (.inr ⟨rfl, rfl, k1, R1, C1, f, rfl, rfl, rfl, rfl, g5, g6, hbz, fun g l cp e h0 => by
          have := hin g l cp e h0
          exact ⟨.inr (.inr ⟨this.1, by rw [HZ7.out]; exact this.2⟩), by omega, by omega, fun h => by have := hS2 g h; omega⟩⟩)) hxm
      clear HCS HA7 HF7 HZ7 HK7 HR7 HK77 hW3 hbz hin g7
      go_wp2_with fail
      go_quiet (fail)
      go_wp2
      go_ret
      refine ⟨by simp, ?_⟩
      obtain ⟨hk, S', h1, h2⟩ := HFIN.out
      exact ⟨hk.trans (Kept.drewN (S := S) _) (fun z h => .inl h), S', h1, h2.frame (fun _ _ => rfl) (Nat.le_refl _)⟩
  · subst h2
    have he : er' = er ∧ s' = .failed er ∧ R1 = 0 ∧ C1 = 0 ∧ k1 = 0 := by have := HR.out; simp only [endS] at this; cases this; exact ⟨rfl, rfl, rfl, rfl, rfl⟩
    obtain ⟨rfl, rfl, hR1, hC1, hk1⟩ := he
    have t1 : ((R1 : Int) == 0) = true := by rw [hR1]; rfl
    have t2 : ((C1 : Int) == 0) = true := by rw [hC1]; rfl
    have t3 : ((k1 : Int) == 0) = true := by rw [hk1]; rfl
    clear hR1 hC1 hk1
    have h1' : (er' == 0) = false := by simpa using h1
    have h1b : (er' != 0) = true := by simpa using h1
    obtain ⟨W3, eW3⟩ : ∃ W3, W2.setCell ⟨q, 2, none⟩ (.bool true) = W3 := ⟨_, rfl⟩
    have a3 : Arr W3 q 41 (lecC p x true er' R C (.slice ao n cap) kind er2) := by rw [← eW3]; exact HA2.out.set 2 _
    have r3 : ReadIs W3 p Sf' (.failed er') := by rw [← eW3]; exact HR2.out.off H.out.ne HNQ.out 2 _
    have k3 : Kept S w W3 := by rw [← eW3]; exact HK2.out.trans (Kept.set (S := S) H.out.hq _) (fun z h => .inl h)
    have h3 : Arr W3 s1 62 [.int .i64 (R1 : Int), .int .i64 (C1 : Int), .int .i64 (k1 : Int)] := by rw [← eW3]; exact HH2.out.other _ (by omega)
    have HFIN : Hid (CallL w q S m W3) := LecAt.make k3 H.out.hq H.out.hp H.out.ne H.out.lt HS1.out r3 HNQ.out a3 (T := fun _ => False) (fun z h => h.elim) (.inr (.inl ⟨h1, rfl⟩)) hxm
    have d3 := a3.cell (i := 3) rfl
    have e0 := h3.cell (i := 0) rfl
    have e1 := h3.cell (i := 1) rfl
    have e2 := h3.cell (i := 2) rfl
    clear a3 r3 k3 h3 HH2 HA2 HR2 HK2 HB2 HR
    cases ended
    · go_wp2
      go_ret
      exact ⟨by simp, HFIN.out⟩
    · go_wp2
      go_ret
      exact ⟨by simp, HFIN.out⟩
  · subst hs
    have he : er' = 0 ∧ s' = .ended k R' C' f ∧ R1 = R' ∧ C1 = C' ∧ k1 = k := by have := HR.out; simp only [endS] at this; cases this; exact ⟨rfl, rfl, rfl, rfl, rfl⟩
    obtain ⟨rfl, rfl, rfl, rfl, rfl⟩ := he
    obtain ⟨rfl, rfl, rfl, g4, g5, g6, g7⟩ := hrest
    obtain ⟨hb1, hb2⟩ := HBT.out R1 C1 f g6 g7
    have hb3 := HB2.out R1 C1 f hb1
    obtain ⟨W3, eW3⟩ : ∃ W3, W2.setCell ⟨q, 2, none⟩ (.bool true) = W3 := ⟨_, rfl⟩
    have a3 : Arr W3 q 41 (lecC p x true 0 R1 C1 (.slice ao n cap) k1 er2) := by rw [← eW3]; exact HA2.out.set 2 _
    have r3 : ReadIs W3 p Sf' (.ended k1 R1 C1 f) := by rw [← eW3]; exact HR2.out.off H.out.ne HNQ.out 2 _
    have k3 : Kept S w W3 := by rw [← eW3]; exact HK2.out.trans (Kept.set (S := S) H.out.hq _) (fun z h => .inl h)
    have h3 : Arr W3 s1 62 [.int .i64 (R1 : Int), .int .i64 (C1 : Int), .int .i64 (k1 : Int)] := by rw [← eW3]; exact HH2.out.other _ (by omega)
    have hb4 : BitsIs 0 W3 (.slice ao n cap) R1 C1 f := by
      rw [← eW3]
      exact hb3.frame (fun g l cp e h0 => Below.heap_setCell _ _ _ _ (fun e2 => (hb2 g l cp e h0).2.2.1 e2)) (by simp [World.setCell])
    have HFIN : Hid (CallL w q S m W3) := LecAt.make k3 H.out.hq H.out.hp H.out.ne H.out.lt HS1.out r3 HNQ.out a3 (T := fun _ => False) (fun z h => h.elim)
      (.inr (.inr ⟨rfl, rfl, k1, R1, C1, f, rfl, rfl, rfl, rfl, g4, g5, hb4, fun g l cap e h0 => (hb2 g l cap e h0).imp (fun h => .inl h) id⟩)) hxm
    have d3 := a3.cell (i := 3) rfl
    have d4 := a3.cell (i := 4) rfl
    have d5 := a3.cell (i := 5) rfl
    have d7 := a3.cell (i := 7) rfl
    have e0 := h3.cell (i := 0) rfl
    have e1 := h3.cell (i := 1) rfl
    have e2 := h3.cell (i := 2) rfl
    clear a3 r3 k3 h3 HH2 HA2 HR2 HK2 HB2 HR hb1 hb2 hb3 hb4 g6 g7 HBT
    go_wp2_with fail
    go_quiet (fail)
    go_wp2
    go_ret
    refine ⟨by simp, ?_⟩
    obtain ⟨hk, S', h1, h2⟩ := HFIN.out
    exact ⟨hk.trans (Kept.drewN (S := S) _) (fun z h => .inl h), S', h1, h2.frame (fun _ _ => rfl) (Nat.le_refl _)⟩
end Go.Proofs.YthdcceackfdbbaaGreatDoor
