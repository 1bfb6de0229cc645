import Derived.Test.YthdcceackfdbbaaGreatDoorM24R
import Derived.Laws.EntriesVeiled
import Derived.Deep.RegionHeld
namespace Go.Proofs.YthdcceackfdbbaaGreatDoor
open Go Go.RowKit
set_option maxRecDepth 20000 in
set_option maxHeartbeats 1000000 in
theorem endT_no (w : World) (p : Nat) (c : List Value) (n left : Nat) (sz : Bool) (ao : Option Addr) (cap : Nat) (hn2 : n ≤ 200) (hl2 : left ≤ 1600) (ha : Arr w p 167 c) (h1 : c[1]? = some (.slice ao n cap)) (h6 : c[6]? = some (.bool sz)) (h8 : c[8]? = some (.int .i64 (left : Int))) (hno : 0 < n ∨ sz = false ∨ 0 < left) :
    Calls Tryz.prog 272 #[.pointer (some ⟨p, 0, none⟩)] w fun e w' => Below w.heap.size w w' ∧ e = .returned (.tuple #[.agg #[.int .i64 0, .int .i64 0, .slice none 0 0], .int .i64 0, .int .i64 11]) := by
  have k6 : ∀ o, (w.alloc o).cell? ⟨p, 6, none⟩ = some (.bool sz) := fun o => (ha.alloc o).cell h6
  have k1 : ∀ o, (w.alloc o).cell? ⟨p, 1, none⟩ = some (.slice ao n cap) := fun o => (ha.alloc o).cell h1
  have k8 : ∀ o, (w.alloc o).cell? ⟨p, 8, none⟩ = some (.int .i64 (left : Int)) := fun o => (ha.alloc o).cell h8
  clear ha h6 h1 h8
  by_cases hn0 : 0 < n
  · have q1 : (0 : Int) < n := by omega
    go_enter Tryz.func272, Tryz.ntmps272
    go_wp2
    have r0 : Arr (w.alloc (.cells #[.int .i64 0, .int .i64 0, .slice none 0 0] 88)) w.heap.size 88 [.int .i64 0, .int .i64 0, .slice none 0 0] := Arr.newL _ _ _
    have x0 := r0.cell (i := 0) rfl
    have x1 := r0.cell (i := 1) rfl
    have x2 := r0.cell (i := 2) rfl
    exact bodyPost_ret (v := .tuple #[.agg #[.int .i64 0, .int .i64 0, .slice none 0 0], .int .i64 0, .int .i64 11]) (by simp [results, Tryz.results272, go_sem, x0, x1, x2]) rfl ⟨Below.refl' _ _, rfl⟩
  · have q1 : ¬ (0 : Int) < n := by omega
    cases sz with
    | false =>
      go_enter Tryz.func272, Tryz.ntmps272
      go_wp2
      have r0 : Arr (w.alloc (.cells #[.int .i64 0, .int .i64 0, .slice none 0 0] 88)) w.heap.size 88 [.int .i64 0, .int .i64 0, .slice none 0 0] := Arr.newL _ _ _
      have x0 := r0.cell (i := 0) rfl
      have x1 := r0.cell (i := 1) rfl
      have x2 := r0.cell (i := 2) rfl
      exact bodyPost_ret (v := .tuple #[.agg #[.int .i64 0, .int .i64 0, .slice none 0 0], .int .i64 0, .int .i64 11]) (by simp [results, Tryz.results272, go_sem, x0, x1, x2]) rfl ⟨Below.refl' _ _, rfl⟩
    | true =>
      have q2 : (0 : Int) < left := by rcases hno with h | h | h; · omega
                                       · cases h
                                       · omega
      go_enter Tryz.func272, Tryz.ntmps272
      go_wp2
      have r0 : Arr (w.alloc (.cells #[.int .i64 0, .int .i64 0, .slice none 0 0] 88)) w.heap.size 88 [.int .i64 0, .int .i64 0, .slice none 0 0] := Arr.newL _ _ _
      have x0 := r0.cell (i := 0) rfl
      have x1 := r0.cell (i := 1) rfl
      have x2 := r0.cell (i := 2) rfl
      exact bodyPost_ret (v := .tuple #[.agg #[.int .i64 0, .int .i64 0, .slice none 0 0], .int .i64 0, .int .i64 11]) (by simp [results, Tryz.results272, go_sem, x0, x1, x2]) rfl ⟨Below.refl' _ _, rfl⟩
set_option maxRecDepth 20000 in
set_option maxHeartbeats 1000000 in
theorem endT_yes (w : World) (p : Nat) (c : List Value) (kind R C N : Nat) (ao : Option Addr) (ha : Arr w p 167 c) (h2 : c[2]? = some (.int .i64 (kind : Int))) (h3 : c[3]? = some (.int .i64 (R : Int))) (h4 : c[4]? = some (.int .i64 (C : Int))) (h5 : c[5]? = some (.slice ao N N)) (h6 : c[6]? = some (.bool true)) (ao1 : Option Addr) (cap1 : Nat) (h1 : c[1]? = some (.slice ao1 0 cap1)) (h8 : c[8]? = some (.int .i64 0)) :
    Calls Tryz.prog 272 #[.pointer (some ⟨p, 0, none⟩)] w fun e w' => Below w.heap.size w w' ∧ e = .returned (.tuple #[.agg #[.int .i64 (R : Int), .int .i64 (C : Int), .slice ao N N], .int .i64 (kind : Int), .int .i64 0]) := by
  have hmix : Tryz.prog.follows .mixedOrders = true := by kernel_rfl
  have k6 : ∀ o, (w.alloc o).cell? ⟨p, 6, none⟩ = some (.bool true) := fun o => (ha.alloc o).cell h6
  have k1 : ∀ o, (w.alloc o).cell? ⟨p, 1, none⟩ = some (.slice ao1 0 cap1) := fun o => (ha.alloc o).cell h1
  have k8 : ∀ o, (w.alloc o).cell? ⟨p, 8, none⟩ = some (.int .i64 0) := fun o => (ha.alloc o).cell h8
  obtain ⟨b, hb⟩ : ∃ b, w.heap.size = b := ⟨_, rfl⟩
  have hpb : p < b := by have := ha.lt; omega
  go_enter Tryz.func272, Tryz.ntmps272
  go_wp2_with fail
  obtain ⟨V, hV⟩ : ∃ V, w.alloc (.cells #[.int .i64 0, .int .i64 0, .slice none 0 0] 88) = V := ⟨_, rfl⟩
  have aV : Arr V.drew p 167 c := by rw [← hV]; exact (ha.alloc _).drew
  have rV : Arr V.drew b 88 [.int .i64 0, .int .i64 0, .slice none 0 0] := by rw [← hV, ← hb]; exact (Arr.newL w _ _).drew
  have bV : Below b w V.drew := by rw [← hV, ← hb]; exact (Below.refl' _ _).drew
  rw [hV]
  clear hV k6 k1 k8 ha
  refine wp_region_held (S := fun W' => Arr W' p 167 c) hmix ?_
  change wpAnyH _ _ _ _ _ _ _ _ V.drew
  obtain ⟨Vd, hVd⟩ : ∃ Vd, V.drew = Vd := ⟨_, rfl⟩
  rw [hVd] at aV rV bV ⊢
  clear hVd
  refine wpAnyH_take (i := 0) (v := .pointer (some ⟨p, 0, none⟩)) rfl (by kernel_rfl) (by kernel_rfl) (by kernel_rfl) (fun _ _ _ h => h) (Or.inl ⟨by rfl, fun W' hS => ?_⟩) aV ?_
  · clear hS
    go_simp
  simp only [Act.put]
  refine wpAnyH_take (i := 1) (v := .pointer (some ⟨p, 0, none⟩)) rfl (by kernel_rfl) (by kernel_rfl) (by kernel_rfl) (fun _ _ _ h => h) (Or.inl ⟨by rfl, fun W' hS => ?_⟩) aV ?_
  · clear hS
    go_simp
  simp only [Act.put]
  refine wpAnyH_take (i := 2) (v := .pointer (some ⟨p, 3, none⟩)) rfl (by kernel_rfl) (by kernel_rfl) (by kernel_rfl) (fun _ _ _ h => h) (Or.inl ⟨by rfl, fun W' hS => ?_⟩) aV ?_
  · clear hS
    go_simp
  simp only [Act.put]
  refine wpAnyH_take (i := 3) (v := .agg #[.int .i64 (R : Int), .int .i64 (C : Int), .slice ao N N]) rfl (by kernel_rfl) (by kernel_rfl) (by kernel_rfl) (fun _ _ _ h => h) (Or.inl ⟨by rfl, fun W' hS => ?_⟩) aV ?_
  · have q0 := hS.cell h3
    have q1 := hS.cell h4
    have q2 := hS.cell h5
    clear hS
    go_simp
  simp only [Act.put]
  refine wpAnyH_take (i := 4) (v := .pointer (some ⟨p, 0, none⟩)) rfl (by kernel_rfl) (by kernel_rfl) (by kernel_rfl) (fun _ _ _ h => h) (Or.inl ⟨by rfl, fun W' hS => ?_⟩) aV ?_
  · clear hS
    go_simp
  simp only [Act.put]
  refine wpAnyH_take (i := 5) (v := .pointer (some ⟨p, 0, none⟩)) rfl (by kernel_rfl) (by kernel_rfl) (by kernel_rfl) (fun _ _ _ h => h) (Or.inl ⟨by rfl, fun W' hS => ?_⟩) aV ?_
  · clear hS
    go_simp
  simp only [Act.put]
  refine wpAnyH_take (i := 6) (v := .pointer (some ⟨p, 2, none⟩)) rfl (by kernel_rfl) (by kernel_rfl) (by kernel_rfl) (fun _ _ _ h => h) (Or.inl ⟨by rfl, fun W' hS => ?_⟩) aV ?_
  · clear hS
    go_simp
  simp only [Act.put]
  refine wpAnyH_take (i := 7) (v := .int .i64 (kind : Int)) rfl (by kernel_rfl) (by kernel_rfl) (by kernel_rfl) (fun _ _ _ h => h) (Or.inl ⟨by rfl, fun W' hS => ?_⟩) aV ?_
  · have q0 := hS.cell h2
    clear hS
    go_simp
  simp only [Act.put]
  have x0 := rV.cell (i := 0) rfl
  have y0 := rV.frozen 0
  have x1 := (rV.set 0 (.int .i64 (R : Int))).cell (i := 1) rfl
  have y1 := (rV.set 0 (.int .i64 (R : Int))).frozen 1
  have x2 := ((rV.set 0 (.int .i64 (R : Int))).set 1 (.int .i64 (C : Int))).cell (i := 2) rfl
  have y2 := ((rV.set 0 (.int .i64 (R : Int))).set 1 (.int .i64 (C : Int))).frozen 2
  refine wpAnyH_ready (rs := [8]) (by kernel_rfl) (by simp) ?_
  refine AllReadyH.cons rfl (fun K hKK => ?_) AllReadyH.nil
  go_simp
  have aW : Arr (((Vd.setCell ⟨b, 0, none⟩ (.int .i64 (R : Int))).setCell ⟨b, 1, none⟩ (.int .i64 (C : Int))).setCell ⟨b, 2, none⟩ (.slice ao N N)) p 167 c := ((aV.other _ (by omega)).other _ (by omega)).other _ (by omega)
  refine hKK.out _ _ aW (fun hHeld => ?_)
  clear hKK hHeld
  refine wpAnyH_take (i := 9) (v := .int .i64 (kind : Int)) rfl (by kernel_rfl) (by kernel_rfl) (by kernel_rfl) (fun _ _ _ h => h) (Or.inl ⟨by rfl, fun W' hS => ?_⟩) aW ?_
  · clear hS
    go_simp
  simp only [Act.put, List.getElem_toArray, List.getElem_cons_succ, List.getElem_cons_zero, List.setIfInBounds_toArray, List.set_cons_succ, List.set_cons_zero]
  refine wpAnyH_take (i := 10) (v := .int .i64 0) rfl (by kernel_rfl) (by kernel_rfl) (by kernel_rfl) (fun _ _ _ h => h) (Or.inl ⟨by rfl, fun W' hS => ?_⟩) aW ?_
  · clear hS
    go_simp
  simp only [Act.put, List.getElem_toArray, List.getElem_cons_succ, List.getElem_cons_zero, List.setIfInBounds_toArray, List.set_cons_succ, List.set_cons_zero]
  refine wpAnyH_done (by kernel_rfl) ?_ _
  have r3 := ((rV.set 0 (.int .i64 (R : Int))).set 1 (.int .i64 (C : Int))).set 2 (.slice ao N N)
  have b3 : Below b w (((Vd.setCell ⟨b, 0, none⟩ (.int .i64 (R : Int))).setCell ⟨b, 1, none⟩ (.int .i64 (C : Int))).setCell ⟨b, 2, none⟩ (.slice ao N N)) :=
    ((bV.setCell (p := ⟨b, 0, none⟩) (Nat.le_refl _) _).setCell (p := ⟨b, 1, none⟩) (Nat.le_refl _) _).setCell (p := ⟨b, 2, none⟩) (Nat.le_refl _) _
  generalize ((Vd.setCell ⟨b, 0, none⟩ (.int .i64 (R : Int))).setCell ⟨b, 1, none⟩ (.int .i64 (C : Int))).setCell ⟨b, 2, none⟩ (.slice ao N N) = W3 at *
  have z0 := r3.cell (i := 0) rfl
  have z1 := r3.cell (i := 1) rfl
  have z2 := r3.cell (i := 2) rfl
  clear x0 x1 x2 y0 y1 y2
  go_wp2
  refine bodyPost_ret (v := .tuple #[.agg #[.int .i64 (R : Int), .int .i64 (C : Int), .slice ao N N], .int .i64 (kind : Int), .int .i64 0]) ?_ rfl ⟨hb ▸ b3, rfl⟩
  simp [results, Tryz.results272, go_sem, z0, z1, z2]
def EndT (w : World) (S : Nat → Prop) (t : TSt) (cur : List UInt8) (e : Ending) (w' : World) : Prop :=
  Below w.heap.size w w' ∧
  (((∀ k R C free f, ¬ (t = .ent k R C 0 free f ∧ cur = [])) ∧ e = .returned (.tuple #[.agg #[.int .i64 0, .int .i64 0, .slice none 0 0], .int .i64 0, .int .i64 11])) ∨
   (∃ k R C free f, t = .ent k R C 0 free f ∧ cur = [] ∧ ∃ g v, e = .returned (.tuple #[matV R C g, .int .i64 (k : Int), .int .i64 0]) ∧ S g ∧ k ≤ 3 ∧ R ≤ 40 ∧ C ≤ 40 ∧ Arr w' g 65 v ∧ MemM C g R f w'))
theorem endT_any (w : World) (p : Nat) (S : Nat → Prop) (t : TSt) (cur : List UInt8) (hcur : cur.length ≤ 200) (h : TextIs w p S cur t) :
    Calls Tryz.prog 272 #[.pointer (some ⟨p, 0, none⟩)] w fun e w' => EndT w S t cur e w' := by
  cases t with
  | first =>
    obtain ⟨h1, b, h2, h3⟩ := h
    obtain ⟨ao, cap, rfl, _⟩ := h3.shape
    exact (endT_no w p _ cur.length 0 false ao cap hcur (by omega) h2 rfl rfl rfl (.inr (.inl rfl))).mono (fun e w' hh => ⟨hh.1, .inl ⟨fun k R C free f hx => (by cases hx.1), hh.2⟩⟩)
  | sizes k =>
    obtain ⟨_, h1, b, h2, h3⟩ := h
    obtain ⟨ao, cap, rfl, _⟩ := h3.shape
    exact (endT_no w p _ cur.length 0 false ao cap hcur (by omega) h2 rfl rfl rfl (.inr (.inl rfl))).mono (fun e w' hh => ⟨hh.1, .inl ⟨fun k R C free f hx => (by cases hx.1), hh.2⟩⟩)
  | ent k R C left free f =>
    obtain ⟨b, g, fv, h⟩ := h
    obtain ⟨ao, cap, rfl, _⟩ := h.rowB.shape
    by_cases hd : cur = [] ∧ left = 0
    · obtain ⟨rfl, rfl⟩ := hd
      obtain ⟨v, hv1, hv2⟩ := h.arrG
      refine (endT_yes w p _ k R C (R * C) (some ⟨g, 0, none⟩) h.arr rfl rfl rfl rfl rfl ao cap rfl rfl).mono (fun e w' hh => ⟨hh.1, .inr ⟨k, R, C, free, f, rfl, rfl, g, v, hh.2, h.ownG, h.hk, h.hR, h.hC, hv1.belowAll hh.1, h.mem.below hh.1 h.mem.1⟩⟩)
    · refine (endT_no w p _ cur.length left true ao cap hcur (by have := h.len; have := h.left_le; omega) h.arr rfl rfl rfl ?_).mono (fun e w' hh => ⟨hh.1, .inl ⟨fun k R C free f hx => hd ?_, hh.2⟩⟩)
      · by_cases hc : cur = []
        · right; right
          have : ¬ left = 0 := fun e => hd ⟨hc, e⟩
          omega
        · left; exact List.length_pos_iff.2 hc
      · obtain ⟨h1, h2⟩ := hx
        cases h1
        exact ⟨h2, rfl⟩
end Go.Proofs.YthdcceackfdbbaaGreatDoor
namespace Go.Proofs.YthdcceackfdbbaaGreatDoor
open Go Go.RowKit
inductive FSt where
  | text (t : TSt) (cur : List UInt8)
  | box (l : List UInt8)
noncomputable def takeF : FSt → UInt8 → Int × FSt
  | .text t cur, b => (((takeT t cur b).1 : Int), .text (takeT t cur b).2.1 (takeT t cur b).2.2)
  | .box l, b => (boxE (l ++ [b]), .box (l ++ [b]))
def FileIs (w : World) (q : Nat) (S : Nat → Prop) : FSt → Prop
  | .text t cur => cur.length ≤ 200 ∧ TextIs w q S cur t
  | .box l => BoxIs w q S l
def tyF : FSt → TypeId
  | .text _ _ => 126
  | .box _ => 128
def takeN : FSt → Nat
  | .text _ _ => 273
  | .box _ => 280
def endN : FSt → Nat
  | .text _ _ => 272
  | .box _ => 279
theorem takeT_len {t : TSt} {cur : List UInt8} {b : UInt8} (h : cur.length ≤ 200) : (takeT t cur b).2.2.length ≤ 200 := by
  unfold takeT
  split
  · simp
  · split
    · exact h
    · simp; omega
theorem FileIs.frame {w w' : World} {q : Nat} {S : Nat → Prop} {s : FSt} (h : FileIs w q S s) (hk : ∀ x, S x → w'.heap[x]? = w.heap[x]?) (hsz : w.heap.size ≤ w'.heap.size) : FileIs w' q S s := by
  cases s with
  | text t cur => exact ⟨h.1, h.2.frame hk hsz⟩
  | box l => exact BoxIs.kept h hk hsz
theorem file_take (w : World) (q : Nat) (S : Nat → Prop) (s : FSt) (b : UInt8) (hSb : ∀ x, S x → x < w.heap.size) (h : FileIs w q S s) :
    Calls Tryz.prog (takeN s) #[.pointer (some ⟨q, 0, none⟩), .int .u8 (b.toNat : Int)] w fun e w' => e = .returned (.int .i64 (takeF s b).1) ∧ Kept S w w' ∧ ((takeF s b).1 = 0 → FileIs w' q (plus S w w') (takeF s b).2) := by
  cases s with
  | text t cur => exact (takeT_any w q S cur t b h.1 hSb h.2).mono (fun e w' hh => ⟨hh.1, hh.2.1, fun h0 => ⟨takeT_len h.1, hh.2.2 (by simpa [takeF] using h0)⟩⟩)
  | box l => exact (takeB w q S l b h).mono (fun e w' hh => ⟨hh.1, hh.2.1, fun h0 => hh.2.2 h0⟩)
open Classical in
noncomputable def endF : FSt → Option (Nat × Nat × Nat × (Nat → Nat → Nat))
  | .text (.ent k R C 0 _ f) [] => some (k, R, C, f)
  | .text _ _ => none
  | .box l => if wholeB l then some (kindB l, rowsB l, colsB l, fB l) else none
def EndR (w : World) (S : Nat → Prop) (r : Option (Nat × Nat × Nat × (Nat → Nat → Nat))) (e : Ending) (w' : World) : Prop :=
  Below w.heap.size w w' ∧ ((r = none ∧ e = .returned (.tuple #[.agg #[.int .i64 0, .int .i64 0, .slice none 0 0], .int .i64 0, .int .i64 11])) ∨
    (∃ k R C f g v, r = some (k, R, C, f) ∧ e = .returned (.tuple #[matV R C g, .int .i64 (k : Int), .int .i64 0]) ∧ S g ∧ k ≤ 5 ∧ R ≤ 40 ∧ C ≤ 40 ∧ Arr w' g 65 v ∧ MemM C g R f w'))
theorem file_end (w : World) (q : Nat) (S : Nat → Prop) (s : FSt) (h : FileIs w q S s) :
    Calls Tryz.prog (endN s) #[.pointer (some ⟨q, 0, none⟩)] w fun e w' => EndR w S (endF s) e w' := by
  cases s with
  | text t cur =>
    refine (endT_any w q S t cur h.1 h.2).mono (fun e w' hh => ⟨hh.1, ?_⟩)
    rcases hh.2 with ⟨hno, he⟩ | ⟨k, R, C, free, f, rfl, rfl, g, v, he, h1, h2, h3, h4, h5, h6⟩
    · refine .inl ⟨?_, he⟩
      unfold endF
      split
      · rename_i heq; cases heq; exact (hno _ _ _ _ _ ⟨rfl, rfl⟩).elim
      · rfl
      · rename_i heq; cases heq
    · exact .inr ⟨k, R, C, f, g, v, rfl, he, h1, by omega, h3, h4, h5, h6⟩
  | box l =>
    refine (endB w q S l h).mono (fun e w' hh => ⟨hh.1, ?_⟩)
    rcases hh.2 with ⟨hno, he⟩ | ⟨hw, g, v, he, h1, h2, h3⟩
    · refine .inl ⟨?_, he⟩
      simp only [endF]
      rw [if_neg hno]
    · refine .inr ⟨kindB l, rowsB l, colsB l, fB l, g, v, ?_, he, h1, ?_, hw.1.hR, hw.1.hC, h2, h3⟩
      · simp only [endF]
        rw [if_pos hw]
      · unfold kindB; split <;> omega
inductive RSt where
  | begin
  | file (s : FSt)
  | failed (e : Int)
  | ended (k R C : Nat) (f : Nat → Nat → Nat)
def rdrC (st file : Value) (err : Int) (whole : Bool) (R C : Nat) (num : Value) (kind : Nat) : List Value :=
  [st, file, .int .i64 err, .bool whole, .int .i64 (R : Int), .int .i64 (C : Int), num, .int .i64 (kind : Int)]
def ReadAt (w : World) (p : Nat) (Sf : Nat → Prop) : RSt → Prop
  | .begin => Arr w p 90 (rdrC (stV 29 p) .nilIface 0 false 0 0 (.slice none 0 0) 0)
  | .file s => ∃ q, Arr w p 90 (rdrC (stV 51 p) (.iface (tyF s) (.pointer (some ⟨q, 0, none⟩))) 0 false 0 0 (.slice none 0 0) 0) ∧ FileIs w q Sf s
  | .failed e => e ≠ 0 ∧ Arr w p 90 (rdrC (stV 82 p) .nilIface e false 0 0 (.slice none 0 0) 0)
  | .ended k R C f => k ≤ 5 ∧ R ≤ 40 ∧ C ≤ 40 ∧ ∃ g v, Arr w p 90 (rdrC (stV 66 p) .nilIface 0 true R C (.slice (some ⟨g, 0, none⟩) (R * C) (R * C)) k) ∧ Sf g ∧ Arr w g 65 v ∧ MemM C g R f w
structure ReadIs (w : World) (p : Nat) (Sf : Nat → Prop) (s : RSt) : Prop where
  out : ¬ Sf p
  lt : ∀ q, Sf q → q < w.heap.size
  at_ : ReadAt w p Sf s
def StepR (w : World) (p : Nat) (Sf : Nat → Prop) (r : Int × RSt) (e : Ending) (w' : World) : Prop :=
  ∃ F : Nat, e = .returned (.tuple #[stV F p, .int .i64 r.1]) ∧ Kept (fun q => q = p ∨ Sf q) w w' ∧ (∃ c, Arr w' p 90 c ∧ c.length = 8) ∧ ∃ Sf' : Nat → Prop, (∀ q, Sf' q → Sf q ∨ w.heap.size ≤ q) ∧ ReadIs (w'.setCell ⟨p, 0, none⟩ (stV F p)) p Sf' r.2
set_option maxRecDepth 20000 in
theorem fail_any (w : World) (p : Nat) (st file num : Value) (er er0 : Int) (wh : Bool) (R C kind : Nat) (ha : Arr w p 90 (rdrC st file er0 wh R C num kind)) :
    Calls Tryz.prog 50 #[.pointer (some ⟨p, 0, none⟩), .int .i64 er] w fun e w' => e = .returned (.tuple #[stV 82 p, .int .i64 er]) ∧ Kept (fun q => q = p) w w' ∧ Arr w' p 90 (rdrC st .nilIface er wh R C num kind) := by
  have hmf : ∀ (fn : Fn) (first cap : Array Value) (w : World), (Instr.makeFunc fn first cap).run Tryz.prog w = .ok (.func fn first cap) w := fun _ _ _ _ => rfl
  have x1 := ha.cell (i := 1) rfl
  have y1 := ha.frozen 1
  have a1 := ha.set 1 .nilIface
  have x2 := a1.cell (i := 2) rfl
  have y2 := a1.frozen 2
  have a2 : Arr ((w.setCell ⟨p, 1, none⟩ .nilIface).setCell ⟨p, 2, none⟩ (.int .i64 er)) p 90 (rdrC st .nilIface er wh R C num kind) := a1.set 2 (.int .i64 er)
  have HK : Hid (Kept (fun q => q = p) w ((w.setCell ⟨p, 1, none⟩ .nilIface).setCell ⟨p, 2, none⟩ (.int .i64 er))) := (Kept.set (S := fun q => q = p) rfl _).trans (Kept.set (S := fun q => q = p) rfl _) (fun q h => .inl h)
  have HA := hid a2
  clear ha a1 a2
  go_enter Tryz.func50, Tryz.ntmps50
  go_wp2
  go_ret2
  exact ⟨rfl, HK.out, HA.out⟩
end Go.Proofs.YthdcceackfdbbaaGreatDoor
namespace Go.Proofs.YthdcceackfdbbaaGreatDoor
open Go Go.RowKit
noncomputable def bytesF : FSt → List UInt8 → Int × FSt
  | s, [] => (0, s)
  | s, b :: r => if (takeF s b).1 = 0 then bytesF (takeF s b).2 r else takeF s b
theorem bytesF_snoc {b : UInt8} : ∀ {l : List UInt8} {s s' : FSt}, bytesF s l = (0, s') → bytesF s (l ++ [b]) = takeF s' b
  | [], s, s', h => by
    simp only [bytesF] at h
    cases h
    simp only [List.nil_append, bytesF]
    split
    · rename_i h; rw [← h]
    · rfl
  | x :: r, s, s', h => by
    simp only [bytesF, List.cons_append] at h ⊢
    by_cases h0 : (takeF s x).1 = 0
    · rw [if_pos h0] at h ⊢; exact bytesF_snoc h
    · rw [if_neg h0] at h; exact (h0 (by rw [h])).elim
theorem bytesF_app : ∀ {l m : List UInt8} {s : FSt}, (bytesF s l).1 ≠ 0 → bytesF s (l ++ m) = bytesF s l
  | [], m, s, h => by simp [bytesF] at h
  | x :: r, m, s, h => by
    simp only [bytesF, List.cons_append] at h ⊢
    by_cases h0 : (takeF s x).1 = 0
    · rw [if_pos h0] at h ⊢; rw [if_pos h0]; exact bytesF_app h
    · rw [if_neg h0, if_neg h0]
noncomputable def filR (r : Int × FSt) : Int × RSt := if r.1 = 0 then (0, .file r.2) else (r.1, .failed r.1)
theorem tyF_take (s : FSt) (b : UInt8) : tyF (takeF s b).2 = tyF s := by cases s <;> rfl
theorem meth_take (s : FSt) (v : Value) (w : World) : (method 426 (tyF s) v "Take").run Tryz.prog w = .ok (takeN s, v) w := by
  cases s with
  | text t cur => kernel_rfl
  | box l => kernel_rfl
theorem meth_end (s : FSt) (v : Value) (w : World) : (method 426 (tyF s) v "End").run Tryz.prog w = .ok (endN s, v) w := by
  cases s with
  | text t cur => kernel_rfl
  | box l => kernel_rfl
theorem enters_take (s : FSt) : ∀ args w, (callFunc (takeN s) args).run Tryz.prog w = .ok (.enter (takeN s) args) w := by
  cases s with
  | text t cur => exact enters_of Tryz.func273 (by kernel_rfl) rfl
  | box l => exact enters_of Tryz.func280 (by kernel_rfl) rfl
theorem enters_end (s : FSt) : ∀ args w, (callFunc (endN s) args).run Tryz.prog w = .ok (.enter (endN s) args) w := by
  cases s with
  | text t cur => exact enters_of Tryz.func272 (by kernel_rfl) rfl
  | box l => exact enters_of Tryz.func279 (by kernel_rfl) rfl
structure Within (w : World) (p : Nat) (st : Value) (q : Nat) (Sf : Nat → Prop) (s : FSt) : Prop where
  out : ¬ Sf p
  lt : ∀ x, Sf x → x < w.heap.size
  arr : Arr w p 90 (rdrC st (.iface (tyF s) (.pointer (some ⟨q, 0, none⟩))) 0 false 0 0 (.slice none 0 0) 0)
  file : FileIs w q Sf s
set_option maxRecDepth 20000 in
set_option maxHeartbeats 2000000 in
theorem within_step (w : World) (p : Nat) (st : Value) (q : Nat) (Sf : Nat → Prop) (s : FSt) (x : ByteArray) (n : Nat) (hn : x.size = n) (hn1 : n ≤ maxLen) (h : Within w p st q Sf s) :
    Calls Tryz.prog 51 #[.pointer (some ⟨p, 0, none⟩), .string x] w fun e w' => StepR w p Sf (filR (bytesF s x.data.toList)) e w' := by
  have hmix : Tryz.prog.follows .mixedOrders = true := by kernel_rfl
  have hmf : ∀ (fn : Fn) (first cap : Array Value) (w : World), (Instr.makeFunc fn first cap).run Tryz.prog w = .ok (.func fn first cap) w := fun _ _ _ _ => rfl
  obtain ⟨res, hres⟩ : ∃ res, bytesF s x.data.toList = res := ⟨_, rfl⟩
  rw [hres]
  have HRES := hid hres
  have H := hid h
  have hxl : x.data.toList.length = n := by rw [← hn]; exact (bytes_size rfl).symm
  have HXL := hid hxl
  unfold maxLen at hn1
  clear hres h hxl
  go_enter Tryz.func51, Tryz.ntmps51
  go_wp2_with fail
  go_loopw [10] (fun i wr => ∃ (k : Nat) (sk : FSt) (Sk : Nat → Prop), k ≤ n ∧ i = .int .i64 (k : Int) ∧ Hid (bytesF s (x.data.toList.take k) = (0, sk)) ∧ Hid (Within wr p st q Sk sk) ∧ Hid ((∀ x, Sk x → Sf x ∨ w.heap.size ≤ x) ∧ Kept (fun x => x = p ∨ Sf x) w wr)) (fun i _ => n - (intOf i).toNat)
  case atStart => exact ⟨0, s, Sf, by omega, rfl, by show _ = _; simp [bytesF], H.out, ⟨fun x h => .inl h, Kept.refl _ _⟩⟩
  case round =>
    obtain ⟨k, sk, Sk, hk, rfl, HB, HW, HSK⟩ := hrel
    by_cases hlt : k < n
    · have hlt' : (k : Int) < n := by omega
      go_wp2_with fail
      refine wp_region_held (S := fun W' => Arr W' p 90 (rdrC st (.iface (tyF sk) (.pointer (some ⟨q, 0, none⟩))) 0 false 0 0 (.slice none 0 0) 0)) hmix ?_
      change wpAnyH _ _ _ _ _ _ _ _ wr.drew
      have hSS := HW.out.arr.drew
      have hfi := HW.out.file.frame (w' := wr.drew) (fun _ _ => rfl) (Nat.le_refl _)
      have hlt2 : ∀ x, Sk x → x < wr.drew.heap.size := HW.out.lt
      have hkw : Kept (fun x => x = p ∨ Sf x) w wr.drew := HSK.out.2.trans (Kept.drewN (S := fun x => x = p ∨ Sf x) 1) (fun q h => .inl h)
      have hout := HW.out.out
      have hsk := HSK.out.1
      clear HW HSK
      generalize wr.drew = Wd at *
      have hxs : k < x.size := by omega
      refine wpAnyH_take (i := 0) (v := .pointer (some ⟨p, 0, none⟩)) rfl (by kernel_rfl) (by kernel_rfl) (by kernel_rfl) (fun _ _ _ h => h) (Or.inl ⟨by rfl, fun W' hS => ?_⟩) hSS ?_
      · clear hS
        go_simp
      simp only [Act.put]
      refine wpAnyH_take (i := 1) (v := .pointer (some ⟨p, 0, none⟩)) rfl (by kernel_rfl) (by kernel_rfl) (by kernel_rfl) (fun _ _ _ h => h) (Or.inl ⟨by rfl, fun W' hS => ?_⟩) hSS ?_
      · clear hS
        go_simp
      simp only [Act.put]
      refine wpAnyH_take (i := 2) (v := .pointer (some ⟨p, 1, none⟩)) rfl (by kernel_rfl) (by kernel_rfl) (by kernel_rfl) (fun _ _ _ h => h) (Or.inl ⟨by rfl, fun W' hS => ?_⟩) hSS ?_
      · clear hS
        go_simp
      simp only [Act.put]
      refine wpAnyH_take (i := 3) (v := .iface (tyF sk) (.pointer (some ⟨q, 0, none⟩))) rfl (by kernel_rfl) (by kernel_rfl) (by kernel_rfl) (fun _ _ _ h => h) (Or.inl ⟨by rfl, fun W' hS => ?_⟩) hSS ?_
      · have q0 := hS.cell (i := 1) rfl
        clear hS
        go_simp
      simp only [Act.put]
      refine wpAnyH_take (i := 4) (v := .string x) rfl (by kernel_rfl) (by kernel_rfl) (by kernel_rfl) (fun _ _ _ h => h) (Or.inl ⟨by rfl, fun W' hS => ?_⟩) hSS ?_
      · clear hS
        go_simp
      simp only [Act.put]
      refine wpAnyH_take (i := 5) (v := .int .i64 (k : Int)) rfl (by kernel_rfl) (by kernel_rfl) (by kernel_rfl) (fun _ _ _ h => h) (Or.inl ⟨by rfl, fun W' hS => ?_⟩) hSS ?_
      · clear hS
        go_simp
      simp only [Act.put]
      refine wpAnyH_take (i := 6) (v := .int .u8 (x[k].toNat : Int)) rfl (by kernel_rfl) (by kernel_rfl) (by kernel_rfl) (fun _ _ _ h => h) (Or.inl ⟨by rfl, fun W' hS => ?_⟩) hSS ?_
      · clear hS
        go_simp
      simp only [Act.put]
      refine wpAnyH_take (i := 7) (v := .iface (tyF sk) (.pointer (some ⟨q, 0, none⟩))) rfl (by kernel_rfl) (by kernel_rfl) (by kernel_rfl) (fun _ _ _ h => h) (Or.inl ⟨by rfl, fun W' hS => ?_⟩) hSS ?_
      · clear hS
        go_simp
      simp only [Act.put]
      refine wpAnyH_take (i := 8) (v := .iface (tyF sk) (.pointer (some ⟨q, 0, none⟩))) rfl (by kernel_rfl) (by kernel_rfl) (by kernel_rfl) (fun _ _ _ h => h) (Or.inl ⟨by rfl, fun W' hS => ?_⟩) hSS ?_
      · clear hS
        go_simp
      simp only [Act.put]
      have hft := file_take Wd q Sk sk x[k] hlt2 hfi
      have hmt := meth_take sk
      have hen := enters_take sk
      have hty := tyF_take sk x[k]
      obtain ⟨r, hr⟩ : ∃ r, takeF sk x[k] = r := ⟨_, rfl⟩
      rw [hr] at hft hty
      have hbs : bytesF s (x.data.toList.take (k + 1)) = r := by
        rw [take_snoc_get (take_get hxs), bytesF_snoc HB.out, hr]
      have HBS := hid hbs
      have HFT := hid hft
      have HTY := hid hty
      clear hr hft hty hbs HB
      generalize takeN sk = tn at *
      generalize tyF sk = ty at *
      refine wpAnyH_ready (rs := [9]) (by kernel_rfl) (by simp) ?_
      refine AllReadyH.cons rfl (fun K hKK => ?_) AllReadyH.nil
      go_simp
      refine HFT.out.mono ?_
      rintro e W3 ⟨rfl, hk3, hf3⟩
      have hS3 : Arr W3 p 90 _ := hk3.arr hSS hout
      refine hKK.out _ _ hS3 (fun hHeld => ?_)
      clear hKK hHeld hSS HFT hmt hen
      obtain ⟨er, s'⟩ := r
      simp only at hf3 HTY
      refine wpAnyH_take (i := 10) (v := .int .i64 er) rfl (by kernel_rfl) (by kernel_rfl) (by kernel_rfl) (fun _ _ _ h => h) (Or.inl ⟨by rfl, fun W' hS => ?_⟩) hS3 ?_
      · clear hS
        go_simp
      simp only [Act.put, List.getElem_toArray, List.getElem_cons_succ, List.getElem_cons_zero, List.setIfInBounds_toArray, List.set_cons_succ, List.set_cons_zero]
      refine wpAnyH_done (by kernel_rfl) ?_ _
      have hkw3 : Kept (fun x => x = p ∨ Sf x) w W3 := hkw.trans hk3 (fun q h => (hsk q h).imp (fun h => .inr h) id)
      by_cases h0 : er = 0
      · subst h0
        have hw3 : Within W3 p st q (plus Sk Wd W3) s' := by
          refine ⟨fun h => ?_, fun x hx => ?_, ?_, hf3 rfl⟩
          · rcases h with h | h
            · exact hout h
            · have := hkw.size; have := H.out.arr.lt; omega
          · rcases hx with h | h
            · have := hlt2 x h; have := hk3.size; omega
            · exact h.2
          · rw [HTY.out]; exact hS3
        have HW3 := hid hw3
        have HK3 : Hid ((∀ x, plus Sk Wd W3 x → Sf x ∨ w.heap.size ≤ x) ∧ Kept (fun x => x = p ∨ Sf x) w W3) := ⟨fun x hx => by
          rcases hx with h | h
          · exact hsk x h
          · have := hkw.size; right; omega, hkw3⟩
        clear hw3 hf3 hS3 hkw3 hk3 hkw hfi
        go_wp2
        go_round
        case rel => exact ⟨k + 1, s', _, by omega, by simp, HBS, HW3, HK3⟩
        case measure => simp [intOf]; omega
      · have hrs : res = (er, s') := by
          rw [← HRES.out, ← HBS.out]
          conv => lhs; rw [← List.take_append_drop (k + 1) x.data.toList]
          exact bytesF_app (by rw [HBS.out]; exact h0)
        have hfl := fail_any W3 p _ _ _ er _ _ _ _ _ hS3
        have HFL := hid hfl
        clear hfl
        go_wp2_with fail
        refine HFL.out.mono ?_
        rintro e W4 ⟨rfl, hk4, ha4⟩
        have hfin : Hid (StepR w p Sf (filR res) (.returned (.tuple #[stV 82 p, .int .i64 er])) W4) := by
          have hfr : filR res = (er, .failed er) := by rw [hrs]; unfold filR; rw [if_neg h0]
          rw [hfr]
          refine ⟨_, rfl, hkw3.trans (hk4.mono (T := fun x => x = p ∨ Sf x) (fun q h => .inl h)) (fun q h => .inl h), ⟨_, ha4, rfl⟩, fun _ => False, fun q h => h.elim, fun h => h, fun q h => h.elim, h0, ha4.set 0 _⟩
        clear HFL hS3 hf3 hk3 hk4 ha4 hkw3 hkw hfi
        unfold stV at hfin ⊢
        go_wp2
        go_ret2
        exact hfin.out
    · have hlt' : ¬ (k : Int) < n := by omega
      have hkn : k = n := by omega
      have hrs : res = (0, sk) := by
        rw [← HRES.out, ← HB.out, List.take_of_length_le (by rw [HXL.out]; omega)]
      have hfin : Hid (StepR w p Sf (filR res) (.returned (.tuple #[stV 51 p, .int .i64 0])) wr) := by
        have hfr : filR res = (0, .file sk) := by rw [hrs]; unfold filR; rw [if_pos rfl]
        rw [hfr]
        have ha := HW.out.arr
        refine ⟨_, rfl, HSK.out.2, ⟨_, ha, rfl⟩, Sk, HSK.out.1, HW.out.out, fun x hx => by have := HW.out.lt x hx; simpa [World.setCell] using this, q, ha.set 0 _, ?_⟩
        exact HW.out.file.frame (fun x hx => Below.heap_setCell _ _ _ _ (fun e => HW.out.out (by have e' : x = p := e; rw [← e']; exact hx))) (by simp [World.setCell])
      unfold stV at hfin
      clear hkn hrs
      go_wp2
      go_ret2
      exact hfin.out
end Go.Proofs.YthdcceackfdbbaaGreatDoor
