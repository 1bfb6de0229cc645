import Derived.Test.YthdcceackfdbbaaGreatDoorM29K
import Derived.Test.YthdcceackfdbbaaGreatDoorM17K
import Derived.Test.YthdcceackfdbbaaGreatDoorShelf2
import Derived.Test.YthdcceackfdbbaaGreatDoorM18K
import Derived.Deep.RegionHeld
import Derived.Laws.CopyOwn
/- Own text: what was written is read: files. -/
namespace Go.Proofs.YthdcceackfdbbaaGreatDoor
open Go Go.RowKit

def plc (y : Nat × Nat × Nat) : Nat × Nat := (y.1, y.2.1)

theorem plc_map (k R C : Nat) (f g : Nat → Nat → Nat) : (plcL k R C f).map plc = (plcL k R C g).map plc := by
  unfold plcL
  split
  · simp [rowsL, plc, Function.comp_def]
  · split
    · simp [colsL, plc, Function.comp_def, List.filter_map]
    · simp [colsL, plc, Function.comp_def]

theorem pls_eq (k R C : Nat) (f : Nat → Nat → Nat) : plsL k R C = (plcL k R C f).map plc := plc_map k R C _ f

theorem plc_pair (k R C : Nat) (f : Nat → Nat → Nat) : (plcL k R C f).Pairwise (fun a b => plc a ≠ plc b) := by
  have hr : (rowsL R C f).Pairwise (fun a b => plc a ≠ plc b) := by
    unfold rowsL
    rw [List.pairwise_map]
    refine (List.pairwise_lt_range (n := R * C)).imp (fun {a b} hab e => ?_)
    simp only [plc, Prod.mk.injEq] at e
    have h1 := Nat.div_add_mod a C
    have h2 := Nat.div_add_mod b C
    rw [e.1, e.2] at h1
    omega
  have hc : (colsL R C f).Pairwise (fun a b => plc a ≠ plc b) := by
    unfold colsL
    rw [List.pairwise_map]
    refine (List.pairwise_lt_range (n := R * C)).imp (fun {a b} hab e => ?_)
    simp only [plc, Prod.mk.injEq] at e
    have h1 := Nat.div_add_mod a R
    have h2 := Nat.div_add_mod b R
    rw [e.1, e.2] at h1
    omega
  unfold plcL
  split
  · exact hr
  · split
    · exact hc.filter _
    · exact hc

theorem free_of (k R C : Nat) (f : Nat → Nat → Nat) : FreeOf k (entL k R C f) (plsL k R C) := by
  rw [pls_eq k R C f]
  unfold FreeOf
  split
  · rename_i hk
    rw [entL_plc]
    refine ⟨List.pairwise_map.2 ((plc_pair k R C f).filter _), fun y hy => ?_⟩
    exact List.mem_map.2 ⟨y, (List.mem_filter.1 hy).1, rfl⟩
  · rename_i hk
    rw [entL_plc, List.filter_eq_self.2 (fun x _ => by simp [hk])]
    rfl

theorem ent_len_pls (k R C : Nat) (f : Nat → Nat → Nat) : (entL k R C f).length ≤ (plsL k R C).length := by
  rw [pls_eq k R C f, List.length_map, entL_plc]
  exact List.length_filter_le _ _
theorem ent_len_arr {k : Nat} (hk : ¬ (k = 2 ∨ k = 3)) (R C : Nat) (f : Nat → Nat → Nat) : (entL k R C f).length = (plsL k R C).length := by
  rw [pls_eq k R C f, List.length_map, entL_plc, List.filter_eq_self.2 (fun x _ => by simp [hk])]

theorem first_read {k : Nat} (hk : k ≤ 3) : Leads (.text .first []) (lineL (firstW k)) (.text (.sizes k) []) := by
  have hg : ∀ x ∈ (firstW k).map (·.data.toList), GoodW x := by
    rcases (by omega : k = 0 ∨ k = 1 ∨ k = 2 ∨ k = 3) with rfl | rfl | rfl | rfl
    all_goals
      intro x hx
      simp only [firstW, List.map_cons, List.map_nil, List.mem_cons, List.not_mem_nil, or_false] at hx
      rcases hx with rfl | rfl | rfl | rfl | rfl <;> exact ⟨by simp, by decide⟩
  refine line_leads hg (first_len k) (by simp [endF]) ⟨?_, ?_⟩
  · intro e
    have h := congrArg List.length e
    rw [List.length_map, firstW_len] at h
    simp at h
  · show firstT ((firstW k).map (·.data.toList)) = _
    rcases (by omega : k = 0 ∨ k = 1 ∨ k = 2 ∨ k = 3) with rfl | rfl | rfl | rfl
    · unfold firstT; rw [show firstK ((firstW 0).map (·.data.toList)) = some 0 from by decide]
    · unfold firstT; rw [show firstK ((firstW 1).map (·.data.toList)) = some 1 from by decide]
    · unfold firstT; rw [show firstK ((firstW 2).map (·.data.toList)) = some 2 from by decide]
    · unfold firstT; rw [show firstK ((firstW 3).map (·.data.toList)) = some 3 from by decide]

theorem sizes_read {k R C n : Nat} (hR : R ≤ 40) (hC : C ≤ 40) (hq : k = 1 ∨ k = 3 → R = C) (hn : if k = 2 ∨ k = 3 then n ≤ (plsL k R C).length else n = (plsL k R C).length) :
    Leads (.text (.sizes k) []) (lineL (sizW k R C n)) (.text (.ent k R C n (plsL k R C) (fun _ _ => 0)) []) := by
  have hn2 : n ≤ 1600 := by
    have := plsL_len (k := k) hR hC
    split at hn <;> omega
  have ho : openE k R C = 0 := by
    unfold openE
    rw [if_neg (by omega), if_neg (fun h => h.2 (hq h.1))]
  by_cases hc : k = 2 ∨ k = 3
  · rw [if_pos hc] at hn
    have hW : (sizW k R C n).map (·.data.toList) = [Lib.decDigits R, Lib.decDigits C, Lib.decDigits n] := by
      unfold sizW; rw [if_pos hc]; simp
    refine line_leads ?_ (siz_len hR hC hn2) (by simp [endF]) ⟨by rw [hW]; simp, ?_⟩
    · rw [hW]
      intro x hx
      simp at hx
      rcases hx with rfl | rfl | rfl <;> exact good_dd _
    · rw [hW, join_head (good_dd _).1, show decide ((Lib.decDigits R).head? = some 37) = false from decide_eq_false (head_dd _)]
      simp only [stepT, sizesT]
      rw [if_neg (by simp), if_pos hc]
      simp only [wholesL, whole_dd (show R < 1000000000 by omega), whole_dd (show C < 1000000000 by omega), whole_dd (show n < 1000000000 by omega), cooT]
      rw [if_neg (fun h => h ho), if_neg (by omega)]
  · rw [if_neg hc] at hn
    have hW : (sizW k R C n).map (·.data.toList) = [Lib.decDigits R, Lib.decDigits C] := by
      unfold sizW; rw [if_neg hc]; simp
    refine line_leads ?_ (siz_len hR hC hn2) (by simp [endF]) ⟨by rw [hW]; simp, ?_⟩
    · rw [hW]
      intro x hx
      simp at hx
      rcases hx with rfl | rfl <;> exact good_dd _
    · rw [hW, join_head (good_dd _).1, show decide ((Lib.decDigits R).head? = some 37) = false from decide_eq_false (head_dd _)]
      simp only [stepT, sizesT]
      rw [if_neg (by simp), if_neg hc]
      simp only [wholesL, whole_dd (show R < 1000000000 by omega), whole_dd (show C < 1000000000 by omega), arrT]
      rw [if_neg (fun h => h ho), hn]

/-- which places an entry tells of -/
def covers (k : Nat) (y : Nat × Nat × Nat) (i j : Nat) : Prop := (y.1 = i ∧ y.2.1 = j) ∨ ((k = 1 ∨ k = 3) ∧ y.1 = j ∧ y.2.1 = i)

theorem putE_at {k : Nat} {f g : Nat → Nat → Nat} {y : Nat × Nat × Nat} {i j : Nat} (hy : y.2.2 = f y.1 y.2.1) (hs : k = 1 ∨ k = 3 → f y.2.1 y.1 = f y.1 y.2.1) (h : g i j = f i j ∨ covers k y i j) : putE k g y i j = f i j := by
  unfold putE putF
  by_cases hk : k = 1 ∨ k = 3
  · rw [if_pos hk]
    simp only [setF]
    by_cases h1 : i = y.2.1 ∧ j = y.1
    · rw [if_pos h1, hy, h1.1, h1.2, hs hk]
    · rw [if_neg h1]
      by_cases h2 : i = y.1 ∧ j = y.2.1
      · rw [if_pos h2, hy, h2.1, h2.2]
      · rw [if_neg h2]
        rcases h with h | ⟨e1, e2⟩ | ⟨_, e1, e2⟩
        · exact h
        · exact (h2 ⟨e1.symm, e2.symm⟩).elim
        · exact (h1 ⟨e2.symm, e1.symm⟩).elim
  · rw [if_neg hk]
    simp only [setF]
    by_cases h2 : i = y.1 ∧ j = y.2.1
    · rw [if_pos h2, hy, h2.1, h2.2]
    · rw [if_neg h2]
      rcases h with h | ⟨e1, e2⟩ | ⟨h0, _⟩
      · exact h
      · exact (h2 ⟨e1.symm, e2.symm⟩).elim
      · exact (hk h0).elim

theorem fold_at {k : Nat} {f : Nat → Nat → Nat} {i j : Nat} : ∀ (es : List (Nat × Nat × Nat)) (g : Nat → Nat → Nat), (∀ y ∈ es, y.2.2 = f y.1 y.2.1 ∧ (k = 1 ∨ k = 3 → f y.2.1 y.1 = f y.1 y.2.1)) → (g i j = f i j ∨ ∃ y ∈ es, covers k y i j) → es.foldl (putE k) g i j = f i j
  | [], g, _, h => by
    rcases h with h | ⟨y, hy, _⟩
    · exact h
    · simp at hy
  | y :: r, g, hh, h => by
    rw [List.foldl_cons]
    obtain ⟨h1, h2⟩ := hh y (by simp)
    refine fold_at r _ (fun z hz => hh z (by simp [hz])) ?_
    rcases h with h | ⟨z, hz, hc⟩
    · exact .inl (putE_at h1 h2 (.inl h))
    · rcases List.mem_cons.1 hz with rfl | hz
      · exact .inl (putE_at h1 h2 (.inr hc))
      · exact .inr ⟨z, hz, hc⟩

theorem ent_f {k R C : Nat} {f : Nat → Nat → Nat} (hk : k ≤ 3) (hq : k = 1 ∨ k = 3 → R = C ∧ SymM R f) {i j : Nat} (hi : i < R) (hj : j < C) : (entL k R C f).foldl (putE k) (fun _ _ => 0) i j = f i j := by
  have hsym : k = 1 ∨ k = 3 → ∀ a b, a < R → b < C → f b a = f a b := by
    intro h a b ha hb
    obtain ⟨rfl, hs⟩ := hq h
    by_cases hab : b ≤ a
    · exact hs a b ha hb hab
    · exact (hs b a hb ha (by omega)).symm
  refine fold_at _ _ (fun y hy => ?_) ?_
  · obtain ⟨h1, h2, h3⟩ := entL_mem hy
    exact ⟨h3, fun h => hsym h _ _ h1 h2⟩
  · -- the place among those of the kind
    obtain ⟨y, hy, hc⟩ : ∃ y ∈ plcL k R C f, covers k y i j := by
      unfold plcL
      rw [if_neg (by omega)]
      by_cases h13 : k = 1 ∨ k = 3
      · rw [if_pos h13]
        obtain ⟨rfl, _⟩ := hq h13
        by_cases hij : j ≤ i
        · exact ⟨(i, j, f i j), List.mem_filter.2 ⟨colsL_in f hi hj, by simpa using hij⟩, .inl ⟨rfl, rfl⟩⟩
        · exact ⟨(j, i, f j i), List.mem_filter.2 ⟨colsL_in f hj hi, by simp; omega⟩, .inr ⟨h13, rfl, rfl⟩⟩
      · rw [if_neg h13]
        exact ⟨(i, j, f i j), colsL_in f hi hj, .inl ⟨rfl, rfl⟩⟩
    by_cases h0 : (k = 2 ∨ k = 3) ∧ y.2.2 = 0
    · left
      obtain ⟨h1, h2, h3⟩ := plcL_mem hy
      have h4 := h0.2
      rw [h3] at h4
      rcases hc with ⟨e1, e2⟩ | ⟨h13, e1, e2⟩
      · rw [e1, e2] at h4; exact h4.symm
      · rw [e1, e2] at h4
        have := hsym h13 i j hi hj
        omega
    · right
      exact ⟨y, by rw [entL_plc]; exact List.mem_filter.2 ⟨hy, decide_eq_true h0⟩, hc⟩

/-- a file that was written: how it is read -/
structure ReadsTo (l : List UInt8) (k R C : Nat) (f : Nat → Nat → Nat) : Prop where
  leads : ∃ (b : UInt8) (r : List UInt8) (s0 s1 : FSt) (g : Nat → Nat → Nat), l = b :: r ∧ fileS b = some s0 ∧ Leads s0 l s1 ∧ endF s1 = some (k, R, C, g) ∧ ∀ i j, i < R → j < C → g i j = f i j

theorem text_reads {k R C : Nat} {f : Nat → Nat → Nat} (hk : k ≤ 3) (hR : R ≤ 40) (hC : C ≤ 40) (hq : k = 1 ∨ k = 3 → R = C ∧ SymM R f) (hf : ∀ i j, f i j < 18446744073709551616) (hcn : ∀ i j, canon (f i j) = f i j) (hpr : ∀ x, x < 18446744073709551616 → PrintOk x (prL x) ∧ (prL x).length ≤ 100) : ReadsTo (textL k R C f) k R C f := by
  have h1 := first_read hk
  have h2 := sizes_read (n := (entL k R C f).length) hR hC (fun h => (hq h).1) (by
    split
    · exact ent_len_pls k R C f
    · rename_i hc; exact ent_len_arr hc R C f)
  obtain ⟨free', h3⟩ := body_leads (k := k) (R := R) (C := C) (entL k R C f) (plsL k R C) (fun _ _ => 0) (fun y hy => by
    obtain ⟨a1, a2, a3⟩ := entL_mem hy
    exact ⟨by omega, by omega, by rw [a3]; exact hf _ _, by rw [a3]; exact hcn _ _, hpr _ (by rw [a3]; exact hf _ _)⟩) (free_of k R C f)
  have h := (h1.app h2).app h3
  obtain ⟨r, hr⟩ : ∃ r, textL k R C f = 37 :: r := by
    have : ∃ r, lineL (firstW k) = 37 :: r := by
      rcases (by omega : k = 0 ∨ k = 1 ∨ k = 2 ∨ k = 3) with rfl | rfl | rfl | rfl <;> exact ⟨_, rfl⟩
    obtain ⟨r, hr⟩ := this
    unfold textL
    rw [hr]
    exact ⟨_, rfl⟩
  exact ⟨37, r, _, _, _, hr, rfl, h, rfl, fun i j hi hj => ent_f hk hq hi hj⟩

theorem box_reads {k R C : Nat} {f : Nat → Nat → Nat} (hk : k = 4 ∨ k = 5) (hR : R ≤ 40) (hC : C ≤ 40) (hf : ∀ i j, f i j < 18446744073709551616) (hcn : ∀ i j, canon (f i j) = f i j) : ReadsTo (boxL k R C f) k R C f := by
  have h := boxS_of (f := f) hk hR hC
  have hes : ∀ y ∈ entL k R C f, y.2.2 < 18446744073709551616 ∧ canon y.2.2 = y.2.2 := fun y hy => by
    obtain ⟨_, _, a3⟩ := entL_mem hy
    rw [a3]; exact ⟨hf _ _, hcn _ _⟩
  obtain ⟨r, hr⟩ := h.hd6
  refine ⟨65, _, .box [], .box (boxL k R C f), _, hr, rfl, ⟨?_, fun n hn => ?_⟩, ?_, fun i j hi hj => box_f hk hR hC hf hi hj⟩
  · have := h.bytes hes _ (Nat.le_refl _)
    rwa [List.take_length] at this
  · refine ⟨_, h.bytes hes n (by omega), ?_⟩
    simp only [endF]
    rw [if_neg (h.cut hn)]
  · simp only [endF]
    rw [if_pos h.whole, h.kind_eq, h.rows, h.cols]

theorem ReadsTo.feed {l : List UInt8} {k R C : Nat} {f : Nat → Nat → Nat} (h : ReadsTo l k R C f) : (feedS .begin l).1 = 0 ∧ ∃ g, endS (feedS .begin l).2 = ((R, C, k), 0, .ended k R C g) ∧ ∀ i j, i < R → j < C → g i j = f i j := by
  obtain ⟨b, r, s0, s1, g, rfl, hs, hL, he, hg⟩ := h.leads
  have e : feedS .begin (b :: r) = (0, .file s1) := by
    simp only [feedS, hs]
    rw [hL.1]; rfl
  rw [e]
  refine ⟨rfl, g, ?_, hg⟩
  simp only [endS, he]

theorem ReadsTo.cut {l : List UInt8} {k R C : Nat} {f : Nat → Nat → Nat} (h : ReadsTo l k R C f) {n : Nat} (hn : n < l.length) : (feedS .begin (l.take n)).1 = 0 ∧ ∃ e, e ≠ 0 ∧ endS (feedS .begin (l.take n)).2 = ((0, 0, 0), e, .failed e) := by
  obtain ⟨b, r, s0, s1, g, rfl, hs, hL, he, hg⟩ := h.leads
  cases n with
  | zero => exact ⟨rfl, 6, by decide, rfl⟩
  | succ n =>
    obtain ⟨s', h1, h2⟩ := hL.2 (n + 1) hn
    rw [List.take_succ_cons] at h1 ⊢
    have e : feedS .begin (b :: r.take n) = (0, .file s') := by
      simp only [feedS, hs]
      rw [h1]; rfl
    rw [e]
    refine ⟨rfl, 11, by decide, ?_⟩
    simp only [endS, h2]

end Go.Proofs.YthdcceackfdbbaaGreatDoor
/- Own text: NewWriter and Next. -/
namespace Go.Proofs.YthdcceackfdbbaaGreatDoor
open Go Go.RowKit Go.Shelf
attribute [local go_sem] Oper.semAt_some

/-- what NewWriter answers for a file or an error -/
def WriterR (b : Nat) (L : List UInt8 × Int) (e : Ending) (w' : World) : Prop :=
  (L.2 ≠ 0 ∧ e = .returned (.tuple #[.pointer none, .int .i64 L.2])) ∨
  (L.2 = 0 ∧ ∃ (p : Nat) (s : ByteArray), e = .returned (.tuple #[.pointer (some ⟨p, 0, none⟩), .int .i64 0]) ∧ b ≤ p ∧ Arr w' p 101 [.string s] ∧ s.data.toList = L.1)

set_option maxRecDepth 20000 in
set_option maxHeartbeats 4000000 in
theorem newWriter_any (w : World) (R C off rs cs kind : Int) (bb n cap : Nat) (xs : List Nat) (hn : xs.length = n) (hn1 : n < 9223372036854775808) (hx : ∀ x ∈ xs, x < 18446744073709551616)
    (hbuf : ∀ (k x : Nat), xs[k]? = some x → w.cell? ⟨bb, k, none⟩ = some (.int .u64 (x : Int))) (hbb : bb < w.heap.size) (htab : Lib.TabIs Tryz.prog w "internal/strconv.uint64pow10" .u64 Lib.pow10Tab) :
    Calls Tryz.prog 25 #[.slice (some ⟨bb, 0, none⟩) n cap, viewV R C off rs cs, .int .i64 kind] w fun e w' => WriterR w.heap.size (fileL xs R C off rs cs kind) e w' ∧ Below w.heap.size w w' := by
  obtain ⟨b, hb⟩ : ∃ b, w.heap.size = b := ⟨_, rfl⟩
  have HB := hid hbuf
  have HX := hid hx
  have HT := hid htab
  clear hbuf hx htab
  obtain ⟨V, hV⟩ : ∃ V, w.alloc (.cells #[.int .i64 R, .int .i64 C, .int .i64 off, .int .i64 rs, .int .i64 cs] 24) = V := ⟨_, rfl⟩
  have HQ : Hid (Below b w V) := by rw [← hV, ← hb]; exact Below.refl' _ _
  have HZ : Hid (V.heap.size = b + 1) := by unfold Hid; rw [← hV]; simp [hb]
  have HW := hid (write_any V R C off rs cs kind bb n cap xs hn hn1 HX.out (fun k x h => (HQ.out.cell (p := ⟨bb, k, none⟩) (by show bb < b; omega)).trans (HB.out k x h)) (by rw [HZ.out]; omega) (tab_below HT.out (hb ▸ HQ.out)))
  obtain ⟨L, hL⟩ : ∃ L, fileL xs R C off rs cs kind = L := ⟨_, rfl⟩
  rw [hL] at HW ⊢
  clear hL
  unfold viewV at HW ⊢
  have HV := hid hV
  clear hV
  go_enter Tryz.func25, Tryz.ntmps25
  go_wp2_with fail
  rw [HV.out]
  refine HW.out.mono ?_
  rintro e W1 ⟨⟨s, rfl, hs⟩, b1⟩
  have HS := hid hs
  have HB1 := hid b1
  clear hs b1 HW
  by_cases hz : L.2 = 0
  · rw [hz]
    go_wp2
    go_ret2
    have q1 : Below b w W1 := HQ.out.trans (HB1.out.mono (by rw [HZ.out]; omega))
    have hsz : b ≤ W1.heap.size := by have := q1.size; omega
    refine ⟨.inr ⟨hz, W1.heap.size, s, rfl, by omega, Arr.newL _ _ _, HS.out⟩, ?_⟩
    rw [hb]
    exact q1.alloc hsz _
  · have hzb : (L.2 != 0) = true := by simpa using hz
    go_wp2
    go_ret2
    refine ⟨.inl ⟨hz, rfl⟩, ?_⟩
    rw [hb]
    exact HQ.out.trans (HB1.out.mono (by rw [HZ.out]; omega))

theorem strclone_any (w : World) (s : ByteArray) (hs : s.size ≤ 281474976710656) : Calls Tryz.prog 48 #[.string s] w fun e w' => e = .returned (.string s) ∧ Below w.heap.size w w' := by
  go_enter Tryz.func48, Tryz.ntmps48
  go_wp2_with fail
  refine (Tryz.stringslite_Clone s _ hs).mono ?_
  rintro e w1 ⟨rfl, b1⟩
  have HB1 := hid b1
  clear b1
  go_wp2
  go_ret
  exact ⟨rfl, HB1.out⟩

set_option maxRecDepth 20000 in
set_option maxHeartbeats 4000000 in
theorem next_any (w : World) (p : Nat) (rest : ByteArray) (most : Int) (hp : Arr w p 101 [.string rest]) (hr : rest.size ≤ 281474976710656) :
    Calls Tryz.prog 28 #[.pointer (some ⟨p, 0, none⟩), .int .i64 most] w fun e w' =>
      e = .returned (.string (rest.extract 0 (min most.toNat rest.size))) ∧ ∃ W1, Below w.heap.size w W1 ∧ w' = W1.setCell ⟨p, 0, none⟩ (.string (rest.extract (min most.toNat rest.size) rest.size)) := by
  have c0 := hp.cell (i := 0) rfl
  have HP := hid hp
  clear hp
  obtain ⟨m, hm⟩ : ∃ m : Nat, min most.toNat rest.size = m := ⟨_, rfl⟩
  have HMI : Hid (min (max most 0) (rest.size : Int) = (m : Int)) := by unfold Hid; omega
  have hm2 : m ≤ rest.size := by omega
  rw [hm]
  clear hm
  go_enter Tryz.func28, Tryz.ntmps28
  go_wp2_with fail
  rw [HMI.out]
  rw [Int.toNat_natCast]
  refine (strclone_any w (rest.extract 0 m) (by rw [ByteArray.size_extract]; omega)).mono ?_
  rintro e W1 ⟨rfl, b1⟩
  have HB1 := hid b1
  have c1 := (HP.out.below b1 HP.out.lt).cell (i := 0) rfl
  have f1 := (HP.out.below b1 HP.out.lt).frozen 0
  clear b1 c0
  go_wp2
  go_ret
  exact ⟨rfl, W1, HB1.out, rfl⟩

end Go.Proofs.YthdcceackfdbbaaGreatDoor
/- Own text: the laws' own: copied, file. -/
namespace Go.Proofs.YthdcceackfdbbaaGreatDoor
open Go Go.RowKit

set_option maxRecDepth 20000 in
set_option maxHeartbeats 1000000 in
theorem kcopied_any (w : World) (ao : Option Addr) (n cap : Nat) (xs : List Nat) (hn : xs.length = n) (hn1 : n ≤ 20000000000000) (hbuf : BufIs w ao xs) :
    Calls Tryz.prog 38 #[.slice ao n cap] w fun e w' => e = .returned (.slice (some ⟨w.heap.size, 0, none⟩) n n) ∧ Arr w' w.heap.size 65 (u64L xs) ∧ Below w.heap.size w w' := by
  obtain ⟨b, hb⟩ : ∃ b, w.heap.size = b := ⟨_, rfl⟩
  obtain ⟨i0, hi, hz0, hz1, hz2⟩ := info_parts Tryz.infoU64
  have hmk := run_make1 (P := Tryz.prog) 22 65 i0 (.int .u64 0) Tryz.underlying22 hi hz0 hz1 rfl n (by rw [hz2]; omega) (by omega)
  have hsz : (Tryz.prog.info? 65).map (·.size) = some 1 := by rw [hi]; simp [hz1]
  clear hi hz0 hz1 hz2
  rw [hb]
  have HBUF := hid hbuf
  clear hbuf
  obtain ⟨X, hX⟩ : ∃ X, u64L xs = X := ⟨_, rfl⟩
  have hXl : X.length = n := by rw [← hX]; simp [u64L, hn]
  have HX := hid hX
  rw [hX]
  clear hX
  go_enter Tryz.func38, Tryz.ntmps38
  go_wp2_with (refine wpList_copy_splice rfl (.tmp 7) (.tmp 8) 22 22 rfl 65 Tryz.underlying22 hsz (some ⟨b, 0, none⟩) ao n n n cap (by first | rfl | (rw [← hb]; rfl)) rfl b 0 (List.replicate n (.int .u64 0)) 65 ?c0 X ?c1 ?c2 ?c3 ?c4 b w ?c5 (Nat.le_refl _) ?_)
  case c0 => rw [List.toArray_replicate, ← hb]; exact World.alloc_heap_new w _
  case c1 => show X.length = min n n; omega
  case c2 =>
    intro hpos
    have h0 : xs[0]? = some (xs[0]'(by omega)) := by simp
    obtain ⟨_, ad, hao, _, _⟩ := HBUF.out 0 _ h0
    refine ⟨ad, hao, fun j v hj => ?_⟩
    rw [← HX.out] at hj
    obtain ⟨x, hx, rfl⟩ : ∃ x, xs[j]? = some x ∧ Value.int .u64 (x : Int) = v := by
      unfold u64L at hj; rw [List.getElem?_map] at hj
      cases h : xs[j]? with
      | none => rw [h] at hj; cases hj
      | some x => rw [h] at hj; exact ⟨x, rfl, Option.some.inj hj⟩
    obtain ⟨_, ad', hao', hlt, hc⟩ := HBUF.out j x hx
    rw [hao] at hao'; cases hao'
    exact (Sim.alloc 0 _ _).cell hc
  case c3 => simp; omega
  case c4 =>
    intro v hv
    rw [← HX.out] at hv
    obtain ⟨x, _, rfl⟩ := List.mem_map.1 hv
    rfl
  case c5 => rw [← hb]; exact Below.refl' _ _
  · intro W1 hg1 hb1
    have a1 : Arr W1 b 65 X := by
      have e : splice (List.replicate n (Value.int .u64 0)) 0 X = X := by
        unfold splice
        simp only [List.take_zero, List.nil_append, Nat.zero_add, List.drop_replicate]
        rw [show n - X.length = 0 by omega]; simp
      have := hg1.out
      rw [e] at this
      exact this
    have HA1 := hid a1
    have HB1 := hid hb1
    clear a1 hb1 hg1
    go_wp2
    go_ret
    exact ⟨rfl, HA1.out, HB1.out⟩

/-- a string that is a value -/
def strOf : Value → ByteArray
  | .string u => u
  | _ => ⟨#[]⟩

set_option maxRecDepth 20000 in
set_option maxHeartbeats 4000000 in
theorem kfile_any (w : World) (ao : Option Addr) (n cap : Nat) (ys : List Nat) (hn : ys.length = n) (hn1 : n ≤ 1600) (hbuf : BufIs w ao ys) (R C k piece : Nat) (L : List UInt8) (hL : fileL ys R C 0 C 1 k = (L, 0)) (hLl : L.length ≤ 100000) (hp1 : 1 ≤ piece) (hp2 : piece ≤ 1000000) (htab : Lib.TabIs Tryz.prog w "internal/strconv.uint64pow10" .u64 Lib.pow10Tab) :
    Calls Tryz.prog 18 #[.slice ao n cap, viewV R C 0 C 1, .int .i64 (k : Int), .int .i64 (piece : Int)] w fun e w' => (∃ s : ByteArray, e = .returned (.tuple #[.string s, .bool true]) ∧ s.data.toList = L) ∧ Below w.heap.size w w' := by
  have hmix : Tryz.prog.follows .mixedOrders = true := by kernel_rfl
  obtain ⟨b, hb⟩ : ∃ b, w.heap.size = b := ⟨_, rfl⟩
  have HB := hid hbuf
  have HT := hid htab
  have HL := hid hL
  have HLL := hid hLl
  clear hbuf htab hL hLl
  rw [hb]
  unfold viewV
  obtain ⟨V, hV⟩ : ∃ V, w.alloc (.cells #[.int .i64 (R : Int), .int .i64 (C : Int), .int .i64 0, .int .i64 (C : Int), .int .i64 1] 24) = V := ⟨_, rfl⟩
  have mV : Arr V b 24 [.int .i64 (R : Int), .int .i64 (C : Int), .int .i64 0, .int .i64 (C : Int), .int .i64 1] := by rw [← hV, ← hb]; exact Arr.newL w _ _
  have bV : Below b w V := by rw [← hV, ← hb]; exact Below.refl' _ _
  have zV : V.heap.size = b + 1 := by rw [← hV]; simp [hb]
  have HV := hid hV
  have HMV := hid mV
  have HBV := hid bV
  have HZV := hid zV
  clear hV mV bV zV
  go_enter Tryz.func18, Tryz.ntmps18
  go_wp2_with fail
  rw [HV.out]
  refine wp_region_held (S := fun W' => Arr W' b 24 [.int .i64 (R : Int), .int .i64 (C : Int), .int .i64 0, .int .i64 (C : Int), .int .i64 1]) hmix ?_
  change wpAnyH _ _ _ _ _ _ _ _ V.drew
  have hS0 : Arr V.drew b 24 [.int .i64 (R : Int), .int .i64 (C : Int), .int .i64 0, .int .i64 (C : Int), .int .i64 1] := HMV.out.drew
  have hbD : Below b w V.drew := HBV.out.drew
  have hzD : V.drew.heap.size = b + 1 := HZV.out
  clear HMV HBV HZV HV
  generalize V.drew = D at *
  refine wpAnyH_take (i := 0) (v := .slice ao n cap) rfl (by kernel_rfl) (by kernel_rfl) (by kernel_rfl) (fun _ _ _ h => h) (Or.inl ⟨by rfl, fun W' hS => ?_⟩) hS0 ?_
  · clear hS
    go_simp
  simp only [Act.put]
  refine wpAnyH_take (i := 2) (v := .agg #[.int .i64 (R : Int), .int .i64 (C : Int), .int .i64 0, .int .i64 (C : Int), .int .i64 1]) rfl (by kernel_rfl) (by kernel_rfl) (by kernel_rfl) (fun _ _ _ h => h) (Or.inl ⟨by rfl, fun W' hS => ?_⟩) hS0 ?_
  · have q0 := hS.cell (i := 0) rfl
    have q1 := hS.cell (i := 1) rfl
    have q2 := hS.cell (i := 2) rfl
    have q3 := hS.cell (i := 3) rfl
    have q4 := hS.cell (i := 4) rfl
    clear hS
    go_simp
  simp only [Act.put]
  refine wpAnyH_take (i := 3) (v := .int .i64 (k : Int)) rfl (by kernel_rfl) (by kernel_rfl) (by kernel_rfl) (fun _ _ _ h => h) (Or.inl ⟨by rfl, fun W' hS => ?_⟩) hS0 ?_
  · clear hS
    go_simp
  simp only [Act.put]
  refine wpAnyH_ready (rs := [1]) (by kernel_rfl) (by simp) ?_
  refine AllReadyH.cons rfl (fun K hKK => ?_) AllReadyH.nil
  go_simp
  have hcp := kcopied_any D ao n cap ys hn (by omega) (HB.out.below (hb ▸ hbD))
  rw [hzD] at hcp
  refine hcp.mono ?_
  rintro e W1 ⟨rfl, a1, b1⟩
  have hS1 : Arr W1 b 24 _ := hS0.below b1 (by omega)
  refine hKK.out _ _ hS1 (fun hHeld => ?_)
  clear hKK hHeld hcp hS0
  have bw1 : Below b w W1 := hbD.trans (b1.mono (by omega))
  have z1 := a1.lt
  refine wpAnyH_ready (rs := [4]) (by kernel_rfl) (by simp) ?_
  refine AllReadyH.cons rfl (fun K hKK => ?_) AllReadyH.nil
  go_simp
  have hcell : ∀ (k x : Nat), ys[k]? = some x → W1.cell? ⟨b + 1, k, none⟩ = some (.int .u64 (x : Int)) := fun k x hk => a1.cell (by
    unfold u64L; rw [List.getElem?_map, hk]; rfl)
  have hNW := newWriter_any W1 R C 0 C 1 k (b + 1) n n ys hn (by omega) HB.out.lt hcell z1 (tab_below HT.out (hb ▸ bw1))
  unfold viewV at hNW
  refine hNW.mono ?_
  rintro e W2 ⟨hW, b2⟩
  rw [HL.out] at hW
  obtain ⟨p, s, rfl, hp, hs, hsl⟩ : ∃ (p : Nat) (s : ByteArray), e = .returned (.tuple #[.pointer (some ⟨p, 0, none⟩), .int .i64 0]) ∧ W1.heap.size ≤ p ∧ Arr W2 p 101 [.string s] ∧ s.data.toList = L := by
    rcases hW with ⟨h1, _⟩ | ⟨_, p, s, h1, h2, h3, h4⟩
    · exact (h1 rfl).elim
    · exact ⟨p, s, h1, h2, h3, h4⟩
  have hS2 : Arr W2 b 24 _ := hS1.belowAll b2
  refine hKK.out _ _ hS2 (fun hHeld => ?_)
  clear hKK hHeld hNW hcell hW hS1
  refine wpAnyH_take (i := 5) (v := .tuple #[.pointer (some ⟨p, 0, none⟩), .int .i64 0]) rfl (by kernel_rfl) (by kernel_rfl) (by kernel_rfl) (fun _ _ _ h => h) (Or.inl ⟨by rfl, fun W' hS => ?_⟩) hS2 ?_
  · clear hS
    go_simp
  simp only [Act.put]
  refine wpAnyH_take (i := 6) (v := .pointer (some ⟨p, 0, none⟩)) rfl (by kernel_rfl) (by kernel_rfl) (by kernel_rfl) (fun _ _ _ h => h) (Or.inl ⟨by rfl, fun W' hS => ?_⟩) hS2 ?_
  · clear hS
    go_simp
  simp only [Act.put]
  refine wpAnyH_take (i := 7) (v := .int .i64 0) rfl (by kernel_rfl) (by kernel_rfl) (by kernel_rfl) (fun _ _ _ h => h) (Or.inl ⟨by rfl, fun W' hS => ?_⟩) hS2 ?_
  · clear hS
    go_simp
  simp only [Act.put]
  refine wpAnyH_take (i := 8) (v := .pointer (some ⟨p, 0, none⟩)) rfl (by kernel_rfl) (by kernel_rfl) (by kernel_rfl) (fun _ _ _ h => h) (Or.inl ⟨by rfl, fun W' hS => ?_⟩) hS2 ?_
  · clear hS
    go_simp
  simp only [Act.put]
  refine wpAnyH_take (i := 9) (v := .int .i64 0) rfl (by kernel_rfl) (by kernel_rfl) (by kernel_rfl) (fun _ _ _ h => h) (Or.inl ⟨by rfl, fun W' hS => ?_⟩) hS2 ?_
  · clear hS
    go_simp
  simp only [Act.put, List.getElem_toArray, List.getElem_cons_succ, List.getElem_cons_zero, List.setIfInBounds_toArray, List.set_cons_succ, List.set_cons_zero]
  refine wpAnyH_done (by kernel_rfl) ?_ _
  have HB2 : Hid (Below b w W2) := bw1.trans (b2.mono (by omega))
  have HPB : Hid (b ≤ p) := by show _ ≤ _; omega
  have HZ2 : Hid (b ≤ W2.heap.size) := by show _ ≤ _; have := b2.size; omega
  have HS := hid hs
  have hss : s.size = L.length := bytes_size hsl
  have HSL := hid hsl
  have hsz : s.size ≤ 100000 := by rw [hss]; exact HLL.out
  clear hS2 b2 bw1 hs hsl a1 b1 hbD hzD hss
  have HSS : Hid (s.extract s.size s.size = ⟨#[]⟩) := by show _ = _; exact eq_empty (by simp)
  go_wp2_with fail
  go_loopw [12, 13] (fun t _ wr => ∃ (j : Nat) (u r : ByteArray), j ≤ s.size ∧ t = .string u ∧ Hid (u.data.toList = L.take j) ∧ Hid (r.data.toList = L.drop j) ∧ Hid (Arr wr p 101 [.string r]) ∧ Hid (Below b w wr) ∧ Hid (b ≤ wr.heap.size)) (fun t _ _ => s.size - (strOf t).size)
  case atStart => exact ⟨0, ⟨#[]⟩, s, by omega, rfl, by show _ = _; simp, by show _ = _; rw [List.drop_zero]; exact HSL.out, HS, HB2, HZ2⟩
  case round =>
    clear HS HB2 HZ2 HSS
    obtain ⟨j, u, r, hj, rfl, HU, HR, HW, HB2, HZ2⟩ := hrel
    have hLs : L.length = s.size := by rw [← HSL.out]; exact (bytes_size rfl).symm
    have hrs : r.size = s.size - j := by rw [bytes_size HR.out, List.length_drop]; omega
    have hus : u.size = j := by rw [bytes_size HU.out, List.length_take]; omega
    have hnx := next_any wr p r (piece : Int) HW.out (by omega)
    obtain ⟨m, hm⟩ : ∃ m, min (piece : Int).toNat r.size = m := ⟨_, rfl⟩
    rw [hm] at hnx
    have hm2 : m = min piece r.size := by rw [← hm]; simp
    have HNX := hid hnx
    have HLS := hid hLs
    clear hnx hm hLs
    go_wp2_with fail
    refine HNX.out.mono ?_
    rintro e W3 ⟨rfl, W4, b4, rfl⟩
    have h5 : Arr (W4.setCell ⟨p, 0, none⟩ (.string (r.extract m r.size))) p 101 [.string (r.extract m r.size)] := (HW.out.belowAll b4).set 0 _
    have HB5 : Hid (Below b w (W4.setCell ⟨p, 0, none⟩ (.string (r.extract m r.size)))) := (HB2.out.trans (b4.mono HZ2.out)).setCell (p := ⟨p, 0, none⟩) HPB.out _
    have HZ5 : Hid (b ≤ (W4.setCell ⟨p, 0, none⟩ (.string (r.extract m r.size))).heap.size) := by show _ ≤ _; simp [World.setCell]; have := b4.size; have := HZ2.out; omega
    have HW5 := hid h5
    generalize W4.setCell ⟨p, 0, none⟩ (.string (r.extract m r.size)) = W5 at *
    clear h5 b4 HNX HW HB2 HZ2
    have hes : (r.extract 0 m).size = m := by rw [ByteArray.size_extract]; omega
    have HUN : Hid ((u ++ r.extract 0 m).data.toList = L.take (j + m)) := by
      show _ = _
      rw [ByteArray.data_append, Array.toList_append, HU.out, ext_list, HR.out, List.drop_zero, Nat.sub_zero, List.take_add]
    have HRN : Hid ((r.extract m r.size).data.toList = L.drop (j + m)) := by
      show _ = _
      rw [ext_list, HR.out, List.drop_drop, List.take_of_length_le (by rw [List.length_drop]; have := HLS.out; omega)]
    have hUs : (u ++ r.extract 0 m).size = j + m := by rw [ByteArray.size_append, hes, hus]
    obtain ⟨T, hT⟩ : ∃ T, r.extract 0 m = T := ⟨_, rfl⟩
    rw [hT] at hes HUN hUs ⊢
    clear hT
    by_cases hfull : m = piece
    · have hpe : piece = T.size := by omega
      subst hpe
      have hsm : ¬ (100000 : Int) < (j : Int) + (T.size : Int) := by omega
      have HES := hid hes
      have HUS := hid hUs
      have HM2 := hid hm2
      clear hes hUs hfull hm2
      go_wp2
      go_round
      case rel =>
        exact ⟨j + m, u ++ T, r.extract m r.size, by have := HM2.out; omega, rfl, HUN, HRN, HW5, HB5, HZ5⟩
      case measure => have := HES.out; have := HUS.out; have := HM2.out; simp [strOf]; omega
    · have hlen : ((T.size : Int) == (piece : Int)) = false := by rw [hes]; simp; omega
      have hlt : (T.size : Int) < (piece : Int) := by rw [hes]; omega
      have HFIN : Hid ((u ++ T).data.toList = L) := by
        have h := HUN.out
        rw [List.take_of_length_le (by have := HLS.out; omega)] at h
        exact h
      clear hes hUs HUN HRN
      go_wp2
      go_ret2
      exact ⟨⟨_, rfl, HFIN.out⟩, HB5.out⟩

end Go.Proofs.YthdcceackfdbbaaGreatDoor
/- Own text: the laws' own matrix: square. -/
namespace Go.Proofs.YthdcceackfdbbaaGreatDoor
open Go Go.RowKit

/-- numbers in a block -/
def NumsIn (w : World) (g : Nat) (ys : List Nat) : Prop := ∃ L, Arr w g 65 L ∧ ∀ (k y : Nat), ys[k]? = some y → L[k]? = some (.int .u64 (y : Int))

/-- what square answers -/
structure SquareR (b R C : Nat) (half : Bool) (v : Value) (ys : List Nat) (w w' : World) : Prop where
  len : ys.length = R * C
  lt : ∀ y ∈ ys, y < 18446744073709551616
  mem : (v = .slice none 0 0 ∧ R * C = 0) ∨ ∃ g cap, v = .slice (some ⟨g, 0, none⟩) (R * C) cap ∧ b ≤ g ∧ NumsIn w' g ys
  sym : half = true → ∀ i j, i < R → j < C → ys[i * C + j]? = ys[j * C + i]?
  bel : Below b w w'

def viewC (R C : Nat) : List Value := [.int .i64 (R : Int), .int .i64 (C : Int), .int .i64 0, .int .i64 (C : Int), .int .i64 1]

theorem ownsRow_nums {w : World} {B N : Nat} {v : Value} {ys : List Nat} (h : w.ownsRow B 65 1 v N (u64s ys)) (hl : ys.length = N) : (v = .slice none 0 0 ∧ N = 0) ∨ ∃ g cap, v = .slice (some ⟨g, 0, none⟩) N cap ∧ B ≤ g ∧ NumsIn w g ys := by
  obtain ⟨h1, h2⟩ := h
  rcases h2 with h3 | ⟨g, cap, cur, e, hb, hg, hr⟩
  · exact .inl h3
  · refine .inr ⟨g, cap, e, hb, cur.toList, by simpa [Arr] using hg, fun k y hk => ?_⟩
    have hkl : k < ys.length := (List.getElem?_eq_some_iff.1 hk).1
    have e2 : (u64s ys)[k]? = some (.int .u64 (y : Int)) := by unfold u64s; rw [List.getElem?_map, hk]; rfl
    rw [← hr.2.2.2, List.getElem?_take] at e2
    rw [if_pos (by omega)] at e2
    exact e2

theorem NumsIn.set {w : World} {g b i : Nat} {ys : List Nat} (h : NumsIn w g ys) (hne : g ≠ b) (v : Value) : NumsIn (w.setCell ⟨b, i, none⟩ v) g ys := by
  obtain ⟨L, h1, h2⟩ := h
  exact ⟨L, h1.other _ hne, h2⟩

/-- the view in its cell -/
theorem squareR_of {b R C N : Nat} {half : Bool} {v : Value} {ys : List Nat} {w wx : World} (hN : R * C = N) (hl : ys.length = N) (hlt : ∀ y ∈ ys, y < 18446744073709551616) (hm : (v = .slice none 0 0 ∧ N = 0) ∨ ∃ g cap, v = .slice (some ⟨g, 0, none⟩) N cap ∧ b + 1 ≤ g ∧ NumsIn wx g ys) (hs : half = true → ∀ i j, i < R → j < C → ys[i * C + j]? = ys[j * C + i]?) (hb : Below b w wx) (a0 a1 a2 a3 a4 : Value) :
    SquareR b R C half v ys w (((((wx.setCell ⟨b, 0, none⟩ a0).setCell ⟨b, 1, none⟩ a1).setCell ⟨b, 2, none⟩ a2).setCell ⟨b, 3, none⟩ a3).setCell ⟨b, 4, none⟩ a4) := by
  subst hN
  refine ⟨hl, hlt, ?_, hs, ((((hb.setCell (p := ⟨b, 0, none⟩) (Nat.le_refl _) _).setCell (p := ⟨b, 1, none⟩) (Nat.le_refl _) _).setCell (p := ⟨b, 2, none⟩) (Nat.le_refl _) _).setCell (p := ⟨b, 3, none⟩) (Nat.le_refl _) _).setCell (p := ⟨b, 4, none⟩) (Nat.le_refl _) _⟩
  rcases hm with h | ⟨g, cap, e, hg, hn⟩
  · exact .inl h
  · exact .inr ⟨g, cap, e, by omega, ((((hn.set (by omega) _).set (by omega) _).set (by omega) _).set (by omega) _).set (by omega) _⟩

set_option maxRecDepth 20000 in
set_option maxHeartbeats 4000000 in
theorem square_plain (w : World) (ao : Option Addr) (n cap : Nat) (xs : List Nat) (hn : xs.length = n) (hn1 : n ≤ 20000000000000) (hbuf : BufIs w ao xs) (R C k : Nat) (hR : R ≤ 40) (hC : C ≤ 40) (h1 : ((k : Int) == 1) = false) (h3 : ((k : Int) == 3) = false) :
    Calls Tryz.prog 17 #[.slice ao n cap, .int .i64 (R : Int), .int .i64 (C : Int), .int .i64 (k : Int)] w fun e w' => ∃ v ys, e = .returned (.tuple #[v, .agg (viewC R C).toArray]) ∧ SquareR w.heap.size R C false v ys w w' := by
  obtain ⟨i0, hi, hz0, hz1, hz2⟩ := info_parts Tryz.infoU64
  have HI := hid hi
  obtain ⟨b, hb⟩ : ∃ b, w.heap.size = b := ⟨_, rfl⟩
  rw [hb]
  have HBUF := hid hbuf
  clear hi hbuf
  obtain ⟨N, hN⟩ : ∃ N, R * C = N := ⟨_, rfl⟩
  have hNi : (R : Int) * (C : Int) = (N : Int) := by rw [← hN]; push_cast; rfl
  have hN1 : N ≤ 1600 := by rw [← hN]; exact Nat.mul_le_mul hR hC
  have HN := hid hN
  clear hN
  go_enter Tryz.func17, Tryz.ntmps17
  go_wp2
  go_loopw [11, 12] (fun vb vi wr => ∃ (i : Nat) (ys : List Nat), vi = .int .i64 (i : Int) ∧ i ≤ N ∧ Hid (ys.length = i) ∧ Hid (∀ y ∈ ys, y < 18446744073709551616) ∧ Hid (wr.ownsRow (b + 1) 65 1 vb i (u64s ys)) ∧ Hid (Below b w wr) ∧ Hid (Arr wr b 24 [.int .i64 0, .int .i64 0, .int .i64 0, .int .i64 0, .int .i64 0])) (fun _ vi _ => N - (intOf vi).toNat)
  case atStart =>
    refine ⟨0, [], rfl, by omega, rfl, by intro y hy; simp at hy, World.ownsRow_nil _ _ _ _, ?_, ?_⟩
    · rw [← hb]; exact Below.refl' _ _
    · rw [← hb]; exact Arr.newL w _ _
  case round =>
    obtain ⟨i, ys, rfl, hi, HL, HLT, HO, HB, HV⟩ := hrel
    by_cases hlt : i < N
    · have hlt' : (i : Int) < N := by omega
      have hsz : b + 1 ≤ wr.heap.size := by have := HV.out.lt; omega
      -- the number that is added
      have add : ∀ (v' : Value) (w2 : World) (x : Nat) (ob : Option Nat), (∀ q, ob = some q → b + 1 ≤ q) → x < 18446744073709551616 → w2.ownsRow (b + 1) 65 1 v' (i + 1) (u64s ys ++ [.int .u64 (x : Int)]) → (wr.alloc (.cells #[.int .u64 (x : Int)] 65)).grownBy w2 ob → Hid ((ys ++ [x]).length = i + 1) ∧ Hid (∀ y ∈ ys ++ [x], y < 18446744073709551616) ∧ Hid (w2.ownsRow (b + 1) 65 1 v' (i + 1) (u64s (ys ++ [x]))) ∧ Hid (Below b w w2) ∧ Hid (Arr w2 b 24 [.int .i64 0, .int .i64 0, .int .i64 0, .int .i64 0, .int .i64 0]) := by
        intro v' w2 x ob hob hx hown' hgrow
        have b2 : Below (b + 1) wr w2 := ((Below.refl _ wr).alloc hsz _).grown hgrow (by simp; omega) hob
        refine ⟨by show _ = _; rw [List.length_append, HL.out]; rfl, fun y hy => ?_, ?_, HB.out.trans (b2.mono (by omega)), HV.out.below b2 (by omega)⟩
        · rcases List.mem_append.1 hy with h | h
          · exact HLT.out y h
          · simp at h; omega
        · show World.ownsRow _ _ _ _ _ _ _
          rw [show u64s (ys ++ [x]) = u64s ys ++ [.int .u64 (x : Int)] by simp [u64s]]; exact hown'
      have HADD := hid add
      clear add
      by_cases hn0 : n = 0
      · subst hn0
        go_wp2_with (at_builtin; refine wpList_append_own _ rfl _ _ 22 rfl (b + 1) 65 i0 (.int .u64 0) 1 8 Tryz.underlying22 HI.out hz0 hz1 hz2 rfl (by decide) _ _ _ rfl (HO.out.alloc _) ⟨wr.heap.size, 0, none⟩ 1 1 [.int .u64 ((i : Int) * 4503599627370496)] rfl rfl ?_ ?_ ?_ ?_ ?_ ?_)
        · exact cell_one_new _ _ _
        · first | rfl | (intro u hu; simp at hu; subst hu; rfl)
        · unfold maxLen; omega
        · omega
        · first | omega | (simp; omega)
        · intro v' w2 hown' hgrow _
          have hout := HADD.out v' w2 (i * 4503599627370496) _ (fun q hq => (HO.out.lt q hq).1) (by omega) (by simpa using hown') (by simpa using hgrow)
          have HOUT := hid hout
          clear hout hown' hgrow
          go_wp2
          go_round
          case rel => exact ⟨i + 1, ys ++ [(i * 4503599627370496)], by simp, by omega, HOUT.out.1, HOUT.out.2.1, HOUT.out.2.2.1, HOUT.out.2.2.2.1, HOUT.out.2.2.2.2⟩
          case measure => simp [intOf]; omega
      · have hn0' : (0 : Int) < (n : Int) := by omega
        obtain ⟨q, hq⟩ : ∃ q : Nat, (i : Int) % (n : Int) = (q : Int) := ⟨i % n, by simp⟩
        have hqn : q < n := by have := Int.emod_lt_of_pos (i : Int) hn0'; omega
        obtain ⟨X, hX⟩ : ∃ X, xs[q]? = some X := ⟨xs[q]'(by omega), by simp [hn, hqn]⟩
        obtain ⟨hX64, ad, rfl, hg, hcell⟩ := HBUF.out q X hX
        have hcell1 : wr.cell? (ad.add q) = some (.int .u64 (X : Int)) := (HB.out.cell (p := ad.add q) (by rw [Go.ChangeShapes.block_add]; omega)).trans hcell
        clear hX hcell
        go_wp2_with (at_builtin; refine wpList_append_own _ rfl _ _ 22 rfl (b + 1) 65 i0 (.int .u64 0) 1 8 Tryz.underlying22 HI.out hz0 hz1 hz2 rfl (by decide) _ _ _ rfl (HO.out.alloc _) ⟨wr.heap.size, 0, none⟩ 1 1 [.int .u64 (X : Int)] rfl rfl ?_ ?_ ?_ ?_ ?_ ?_)
        · exact cell_one_new _ _ _
        · first | rfl | (intro u hu; simp at hu; subst hu; rfl)
        · unfold maxLen; omega
        · omega
        · first | omega | (simp; omega)
        · intro v' w2 hown' hgrow _
          have hout := HADD.out v' w2 X _ (fun q hq => (HO.out.lt q hq).1) hX64 (by simpa using hown') (by simpa using hgrow)
          have HOUT := hid hout
          clear hout hown' hgrow
          go_wp2
          go_round
          case rel => exact ⟨i + 1, ys ++ [X], by simp, by omega, HOUT.out.1, HOUT.out.2.1, HOUT.out.2.2.1, HOUT.out.2.2.2.1, HOUT.out.2.2.2.2⟩
          case measure => simp [intOf]; omega
    · have hlt' : ¬ (i : Int) < N := by omega
      have hiN : i = N := by omega
      rw [hiN] at HL HO
      have HFIN := hid (squareR_of (half := false) HN.out HL.out HLT.out (ownsRow_nums HO.out HL.out) (fun h => by cases h) HB.out (.int .i64 (R : Int)) (.int .i64 (C : Int)) (.int .i64 0) (.int .i64 (C : Int)) (.int .i64 1))
      obtain ⟨ao', n', cap', hu11⟩ : ∃ ao' n' cap', u11 = .slice ao' n' cap' := by
        rcases ownsRow_nums HO.out HL.out with ⟨h, _⟩ | ⟨g, cap, h, _⟩
        · exact ⟨_, _, _, h⟩
        · exact ⟨_, _, _, h⟩
      subst hu11
      clear hiN
      go_wp2_with fail
      go_loopw [14] (fun vi wx => vi = .int .i64 0 ∧ wx = wr) (fun _ _ => 0)
      case atStart => exact ⟨rfl, rfl⟩
      case round =>
        obtain ⟨rfl, rfl⟩ := hrel
        have v0 := HV.out
        have c0 := v0.cell (i := 0) rfl
        have f0 := v0.frozen 0
        have v1 := v0.set 0 (.int .i64 (R : Int))
        have c1 := v1.cell (i := 1) rfl
        have f1 := v1.frozen 1
        have v2 := v1.set 1 (.int .i64 (C : Int))
        have c2 := v2.cell (i := 2) rfl
        have f2 := v2.frozen 2
        have v3 := v2.set 2 (.int .i64 0)
        have c3 := v3.cell (i := 3) rfl
        have f3 := v3.frozen 3
        have v4 := v3.set 3 (.int .i64 (C : Int))
        have c4 := v4.cell (i := 4) rfl
        have f4 := v4.frozen 4
        have v5 := v4.set 4 (.int .i64 1)
        have d0 := v5.cell (i := 0) rfl
        have d1 := v5.cell (i := 1) rfl
        have d2 := v5.cell (i := 2) rfl
        have d3 := v5.cell (i := 3) rfl
        have d4 := v5.cell (i := 4) rfl
        clear v0 v1 v2 v3 v4 v5
        go_wp2
        refine bodyPost_ret (v := .tuple #[.slice ao' n' cap', .agg #[.int .i64 (R : Int), .int .i64 (C : Int), .int .i64 0, .int .i64 (C : Int), .int .i64 1]]) ?_ rfl ⟨_, ys, rfl, HFIN.out⟩
        simp [results, Tryz.results17, go_sem, *]

end Go.Proofs.YthdcceackfdbbaaGreatDoor
