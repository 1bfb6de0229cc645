import Derived.Test.YthdcceackfdbbaaGreatDoorM25R

namespace Go.Proofs.YthdcceackfdbbaaGreatDoor
open Go Go.RowKit
def fileS (b : UInt8) : Option FSt := if b = 37 then some (.text .first []) else if b = 65 then some (.box []) else none
def FileOf (w : World) (r : Option FSt) (e : Ending) (w' : World) : Prop :=
  Below w.heap.size w w' ∧ ((r = none ∧ e = .returned .nilIface) ∨ ∃ s, r = some s ∧ e = .returned (.iface (tyF s) (.pointer (some ⟨w.heap.size, 0, none⟩))) ∧ w.heap.size < w'.heap.size ∧ FileIs w' w.heap.size (fun q => q = w.heap.size) s)
theorem fileOf_any (w : World) (b : UInt8) : Calls Tryz.prog 49 #[.int .u8 (b.toNat : Int)] w fun e w' => FileOf w (fileS b) e w' := by
  have hb8 := b.toNat_lt
  by_cases h1 : b = 37
  · subst h1
    have hr : fileS 37 = some (.text .first []) := rfl
    rw [hr]
    go_enter Tryz.func49, Tryz.ntmps49
    go_wp2_with fail
    refine (newText_any w).mono ?_
    rintro e W1 ⟨rfl, hb1, ht⟩
    have hfin : Hid (FileOf w (some (.text .first [])) (.returned (.iface 126 (.pointer (some ⟨w.heap.size, 0, none⟩)))) W1) :=
      ⟨hb1, .inr ⟨_, rfl, rfl, by obtain ⟨_, _, h, _⟩ := ht; exact h.lt, ⟨by simp, ht⟩⟩⟩
    clear hb1 ht
    go_wp2
    go_ret
    exact hfin.out
  · have e1 : ¬ (b.toNat : Int) = 37 := fun e => h1 (UInt8.toNat_inj.1 (by simpa using (by omega : b.toNat = 37)))
    by_cases h2 : b = 65
    · subst h2
      have hr : fileS 65 = some (.box []) := rfl
      rw [hr]
      clear e1
      go_enter Tryz.func49, Tryz.ntmps49
      go_wp2_with fail
      refine (newBox_any w).mono ?_
      rintro e W1 ⟨rfl, hb1, ht⟩
      have hlt : w.heap.size < W1.heap.size := by
        obtain ⟨_, ⟨_, _, held, h, _⟩ | ⟨h, _⟩ | ⟨h, _⟩ | ⟨h, _⟩⟩ := ht
        · exact h.lt
        · simp at h
        · have := h.len; simp at this
        · have := h.len; simp at this
      have hfin : Hid (FileOf w (some (.box [])) (.returned (.iface 128 (.pointer (some ⟨w.heap.size, 0, none⟩)))) W1) := ⟨hb1, .inr ⟨_, rfl, rfl, hlt, ht⟩⟩
      clear hb1 ht
      go_wp2
      go_ret
      exact hfin.out
    · have e2 : ¬ (b.toNat : Int) = 65 := fun e => h2 (UInt8.toNat_inj.1 (by simpa using (by omega : b.toNat = 65)))
      have hr : fileS b = none := by unfold fileS; rw [if_neg h1, if_neg h2]
      rw [hr]
      clear hr
      go_enter Tryz.func49, Tryz.ntmps49
      go_wp2
      go_ret
      exact ⟨Below.refl _ _, .inl ⟨rfl, rfl⟩⟩
noncomputable def feedS : RSt → List UInt8 → Int × RSt
  | .begin, [] => (0, .begin)
  | .begin, b :: r => match fileS b with | some s => filR (bytesF s (b :: r)) | none => (6, .failed 6)
  | .file s, l => filR (bytesF s l)
  | .failed e, _ => (e, .failed e)
  | .ended k R C f, _ => (11, .ended k R C f)
theorem ReadIs.arr {w : World} {p : Nat} {Sf : Nat → Prop} {s : RSt} (h : ReadIs w p Sf s) : ∃ c, Arr w p 90 c ∧ c.length = 8 := by
  cases s with
  | begin => exact ⟨_, h.at_, rfl⟩
  | file s => obtain ⟨q, h1, _⟩ := h.at_; exact ⟨_, h1, rfl⟩
  | failed e => exact ⟨_, h.at_.2, rfl⟩
  | ended k R C f => obtain ⟨_, _, _, g, v, h1, _⟩ := h.at_; exact ⟨_, h1, rfl⟩
theorem ReadIs.frame {w w' : World} {p : Nat} {Sf : Nat → Prop} {s : RSt} (h : ReadIs w p Sf s) (hk : ∀ q, q = p ∨ Sf q → w'.heap[q]? = w.heap[q]?) (hsz : w.heap.size ≤ w'.heap.size) : ReadIs w' p Sf s := by
  refine ⟨h.out, fun q hq => Nat.lt_of_lt_of_le (h.lt q hq) hsz, ?_⟩
  cases s with
  | begin => exact (hk p (.inl rfl)).trans h.at_
  | file s => obtain ⟨q, h1, h2⟩ := h.at_; exact ⟨q, (hk p (.inl rfl)).trans h1, h2.frame (fun x hx => hk x (.inr hx)) hsz⟩
  | failed e => exact ⟨h.at_.1, (hk p (.inl rfl)).trans h.at_.2⟩
  | ended k R C f =>
    obtain ⟨h0, h1, h2, g, v, h3, h4, h5, h6⟩ := h.at_
    exact ⟨h0, h1, h2, g, v, (hk p (.inl rfl)).trans h3, h4, (hk g (.inr h4)).trans h5, ⟨Nat.lt_of_lt_of_le h6.1 hsz, fun i j hi hj => (World.cell?_of_block (w := w) (hk g (.inr h4))).trans (h6.2 i j hi hj)⟩⟩
theorem ReadIs.below {w w' : World} {p : Nat} {Sf : Nat → Prop} {s : RSt} (h : ReadIs w p Sf s) (b : Below w.heap.size w w') : ReadIs w' p Sf s := by
  obtain ⟨c, hc, _⟩ := h.arr
  refine h.frame (fun q hq => b.block q ?_) b.size
  rcases hq with rfl | hq
  · exact hc.lt
  · exact h.lt q hq
def nameR : RSt → Nat
  | .begin => 29
  | .file _ => 51
  | .failed _ => 82
  | .ended _ _ _ _ => 66
theorem ReadIs.st {w : World} {p : Nat} {Sf : Nat → Prop} {s : RSt} (h : ReadIs w p Sf s) : ∃ rest, Arr w p 90 (stV (nameR s) p :: rest) := by
  cases s with
  | begin => exact ⟨_, h.at_⟩
  | file s => obtain ⟨q, h1, _⟩ := h.at_; exact ⟨_, h1⟩
  | failed e => exact ⟨_, h.at_.2⟩
  | ended k R C f => obtain ⟨_, _, _, g, v, h1, _⟩ := h.at_; exact ⟨_, h1⟩
theorem ReadIs.same {w w' : World} {p : Nat} {Sf : Nat → Prop} {s : RSt} (h : ReadIs w p Sf s) (hw : ∀ q : Nat, w'.heap[q]? = w.heap[q]?) (hz : w.heap.size = w'.heap.size) : ReadIs (w'.setCell ⟨p, 0, none⟩ (stV (nameR s) p)) p Sf s := by
  obtain ⟨rest, hc⟩ := h.st
  have hc' : Arr w' p 90 (stV (nameR s) p :: rest) := (hw p).trans hc
  refine h.frame (fun q hq => ?_) (by simp [World.setCell]; omega)
  by_cases e : q = p
  · subst e
    have h2 := hc'.set 0 (stV (nameR s) q)
    exact (show (w'.setCell ⟨q, 0, none⟩ (stV (nameR s) q)).heap[q]? = _ from h2).trans (show w.heap[q]? = _ from hc).symm
  · exact (Below.heap_setCell _ _ _ _ e).trans (hw q)
theorem ended_step (w : World) (p : Nat) (Sf : Nat → Prop) (k R C : Nat) (f : Nat → Nat → Nat) (x : ByteArray) (h : ReadIs w p Sf (.ended k R C f)) :
    Calls Tryz.prog 66 #[.pointer (some ⟨p, 0, none⟩), .string x] w fun e w' => StepR w p Sf (11, .ended k R C f) e w' := by
  have hmf : ∀ (fn : Fn) (first cap : Array Value) (w : World), (Instr.makeFunc fn first cap).run Tryz.prog w = .ok (.func fn first cap) w := fun _ _ _ _ => rfl
  have hfin : Hid (StepR w p Sf (11, .ended k R C f) (.returned (.tuple #[stV 66 p, .int .i64 11])) w) :=
    ⟨_, rfl, Kept.refl _ _, h.arr, Sf, fun q h => .inl h, h.same (fun _ => rfl) rfl⟩
  clear h
  unfold stV at hfin
  go_enter Tryz.func66, Tryz.ntmps66
  go_wp2
  go_ret2
  exact hfin.out
set_option maxRecDepth 20000 in
theorem failed_step (w : World) (p : Nat) (Sf : Nat → Prop) (er : Int) (x : ByteArray) (h : ReadIs w p Sf (.failed er)) :
    Calls Tryz.prog 82 #[.pointer (some ⟨p, 0, none⟩), .string x] w fun e w' => StepR w p Sf (er, .failed er) e w' := by
  have hmix : Tryz.prog.follows .mixedOrders = true := by kernel_rfl
  have hmf : ∀ (fn : Fn) (first cap : Array Value) (w : World), (Instr.makeFunc fn first cap).run Tryz.prog w = .ok (.func fn first cap) w := fun _ _ _ _ => rfl
  have hfin : Hid (StepR w p Sf (er, .failed er) (.returned (.tuple #[stV 82 p, .int .i64 er])) w.drew) :=
    ⟨_, rfl, Kept.drewN 1, by obtain ⟨c, h1, h2⟩ := h.arr; exact ⟨c, h1.drew, h2⟩, Sf, fun q h => .inl h, h.same (fun _ => rfl) rfl⟩
  have ha := h.at_.2
  have hSS := ha.drew
  clear h ha
  unfold stV at hfin
  go_enter Tryz.func82, Tryz.ntmps82
  go_wp2_with fail
  refine wp_region_held (S := fun W' => Arr W' p 90 (rdrC (stV 82 p) .nilIface er false 0 0 (.slice none 0 0) 0)) hmix ?_
  change wpAnyH _ _ _ _ _ _ _ _ w.drew
  generalize w.drew = Vd at *
  refine wpAnyH_take (i := 0) (v := .pointer (some ⟨p, 0, none⟩)) rfl (by kernel_rfl) (by kernel_rfl) (by kernel_rfl) (fun _ _ _ h => h) (Or.inl ⟨by rfl, fun W' hS => ?_⟩) hSS ?_
  · clear hS
    go_simp
  simp only [Act.put]
  refine wpAnyH_take (i := 1) (v := .func (.func 82) #[.pointer (some ⟨p, 0, none⟩)] #[]) rfl (by kernel_rfl) (by kernel_rfl) (by kernel_rfl) (fun _ _ _ h => h) (Or.inl ⟨by rfl, fun W' hS => ?_⟩) hSS ?_
  · clear hS
    go_simp
  simp only [Act.put]
  refine wpAnyH_take (i := 2) (v := .pointer (some ⟨p, 0, none⟩)) rfl (by kernel_rfl) (by kernel_rfl) (by kernel_rfl) (fun _ _ _ h => h) (Or.inl ⟨by rfl, fun W' hS => ?_⟩) hSS ?_
  · clear hS
    go_simp
  simp only [Act.put]
  refine wpAnyH_take (i := 3) (v := .pointer (some ⟨p, 0, none⟩)) rfl (by kernel_rfl) (by kernel_rfl) (by kernel_rfl) (fun _ _ _ h => h) (Or.inl ⟨by rfl, fun W' hS => ?_⟩) hSS ?_
  · clear hS
    go_simp
  simp only [Act.put]
  refine wpAnyH_take (i := 4) (v := .pointer (some ⟨p, 2, none⟩)) rfl (by kernel_rfl) (by kernel_rfl) (by kernel_rfl) (fun _ _ _ h => h) (Or.inl ⟨by rfl, fun W' hS => ?_⟩) hSS ?_
  · clear hS
    go_simp
  simp only [Act.put]
  refine wpAnyH_take (i := 5) (v := .int .i64 er) rfl (by kernel_rfl) (by kernel_rfl) (by kernel_rfl) (fun _ _ _ h => h) (Or.inl ⟨by rfl, fun W' hS => ?_⟩) hSS ?_
  · have q0 := hS.cell (i := 2) rfl
    clear hS
    go_simp
  simp only [Act.put]
  refine wpAnyH_take (i := 6) (v := .func (.func 82) #[.pointer (some ⟨p, 0, none⟩)] #[]) rfl (by kernel_rfl) (by kernel_rfl) (by kernel_rfl) (fun _ _ _ h => h) (Or.inl ⟨by rfl, fun W' hS => ?_⟩) hSS ?_
  · clear hS
    go_simp
  simp only [Act.put]
  refine wpAnyH_take (i := 7) (v := .int .i64 er) rfl (by kernel_rfl) (by kernel_rfl) (by kernel_rfl) (fun _ _ _ h => h) (Or.inl ⟨by rfl, fun W' hS => ?_⟩) hSS ?_
  · clear hS
    go_simp
  simp only [Act.put, List.getElem_toArray, List.getElem_cons_succ, List.getElem_cons_zero, List.setIfInBounds_toArray, List.set_cons_succ, List.set_cons_zero]
  refine wpAnyH_done (by kernel_rfl) ?_ _
  clear hSS
  go_wp2
  go_ret2
  exact hfin.out
theorem StepR.lift {w V : World} {p : Nat} {Sf Sg : Nat → Prop} {r : Int × RSt} {e : Ending} {w' : World} (h : StepR V p Sg r e w') (hk : Kept (fun q => q = p ∨ Sf q) w V) (hS : ∀ q, Sg q → Sf q ∨ w.heap.size ≤ q) : StepR w p Sf r e w' := by
  obtain ⟨F, h1, h2, h3, Sf', h4, h5⟩ := h
  refine ⟨F, h1, hk.trans h2 (fun q hq => ?_), h3, Sf', fun q hq => ?_, h5⟩
  · rcases hq with rfl | hq
    · exact .inl (.inl rfl)
    · exact (hS q hq).imp .inr id
  · rcases h4 q hq with h | h
    · exact hS q h
    · exact .inr (Nat.le_trans hk.size h)
theorem eq_empty {x : ByteArray} (h : x.size = 0) : x = ⟨#[]⟩ := by
  cases x with
  | mk d => congr 1; exact Array.eq_empty_of_size_eq_zero h
set_option maxRecDepth 20000 in
set_option maxHeartbeats 1000000 in
theorem rbegin_step (w : World) (p : Nat) (Sf : Nat → Prop) (x : ByteArray) (n : Nat) (hn : x.size = n) (hn1 : n ≤ maxLen) (h : ReadIs w p Sf .begin) :
    Calls Tryz.prog 29 #[.pointer (some ⟨p, 0, none⟩), .string x] w fun e w' => StepR w p Sf (feedS .begin x.data.toList) e w' := by
  have hmf : ∀ (fn : Fn) (first cap : Array Value) (w : World), (Instr.makeFunc fn first cap).run Tryz.prog w = .ok (.func fn first cap) w := fun _ _ _ _ => rfl
  by_cases h0 : n = 0
  · obtain rfl := eq_empty (x := x) (by omega)
    have hfin : Hid (StepR w p Sf (feedS .begin (⟨#[]⟩ : ByteArray).data.toList) (.returned (.tuple #[stV 29 p, .int .i64 0])) w) :=
      ⟨_, rfl, Kept.refl _ _, h.arr, Sf, fun q h => .inl h, h.same (fun _ => rfl) rfl⟩
    clear h h0 hn
    unfold stV at hfin
    go_enter Tryz.func29, Tryz.ntmps29
    go_wp2
    go_ret2
    exact hfin.out
  · have hx0 : 0 < x.size := by omega
    have hxl : x.data.toList = x[0] :: x.data.toList.tail := by
      have h1 : x.data.toList[0]? = some x[0] := take_get hx0
      cases hd : x.data.toList with
      | nil => rw [hd] at h1; simp at h1
      | cons a r => rw [hd] at h1; simp at h1; rw [h1]; rfl
    have hne : x.toList.isEmpty = false := by rw [bytes_toList, hxl]; rfl
    have hF := hid (fun w => fileOf_any w x[0])
    have ha : Arr w p 90 _ := h.at_
    have hpl := ha.lt
    have HA := hid ha
    have H := hid h
    have HN := hid hn
    have hfd : feedS .begin x.data.toList = match fileS x[0] with | some s => filR (bytesF s x.data.toList) | none => (6, .failed 6) := by
      rw [hxl]; rfl
    obtain ⟨res, hres⟩ : ∃ res, feedS .begin x.data.toList = res := ⟨_, rfl⟩
    rw [hres]
    rw [hres] at hfd
    have HFD := hid hfd
    generalize fileS x[0] = fo at *
    clear ha h hn hxl hfd hres
    go_enter Tryz.func29, Tryz.ntmps29
    go_wp2_with fail
    refine (hF.out w).mono ?_
    rintro e W1 ⟨b1, hres⟩
    clear hF
    have a1 : Arr W1 p 90 _ := HA.out.belowAll b1
    have x1 := a1.cell (i := 1) rfl
    have y1 := a1.frozen 1
    rcases hres with ⟨rfl, rfl⟩ | ⟨s, rfl, rfl, hlt, hfi⟩
    · have a2 := a1.set 1 .nilIface
      have z1 := a2.cell (i := 1) rfl
      have kw : Kept (fun q => q = p ∨ Sf q) w (W1.setCell ⟨p, 1, none⟩ .nilIface) := (Kept.ofBelow b1).trans (Kept.set (S := fun q => q = p ∨ Sf q) (.inl rfl) _) (fun q h => .inl h)
      have hfl := fail_any (W1.setCell ⟨p, 1, none⟩ .nilIface) p _ _ _ 6 _ _ _ _ _ a2
      have HFL := hid hfl
      have HKW := hid kw
      clear hfl a2 a1 b1 kw
      go_wp2_with fail
      refine HFL.out.mono ?_
      rintro e W4 ⟨rfl, hk4, ha4⟩
      have hfin : Hid (StepR w p Sf res (.returned (.tuple #[stV 82 p, .int .i64 6])) W4) := by
        rw [HFD.out]
        exact ⟨_, rfl, HKW.out.trans (hk4.mono (T := fun x => x = p ∨ Sf x) (fun q h => .inl h)) (fun q h => .inl h), ⟨_, ha4, rfl⟩, fun _ => False, fun q h => h.elim, fun h => h, fun q h => h.elim, by decide, ha4.set 0 _⟩
      clear HFL hk4 ha4 x1 y1 z1
      unfold stV at hfin ⊢
      go_wp2
      go_ret2
      exact hfin.out
    · have a2 := a1.set 1 (.iface (tyF s) (.pointer (some ⟨w.heap.size, 0, none⟩)))
      have z1 := a2.cell (i := 1) rfl
      have kw : Kept (fun q => q = p ∨ Sf q) w (W1.setCell ⟨p, 1, none⟩ (.iface (tyF s) (.pointer (some ⟨w.heap.size, 0, none⟩)))) := (Kept.ofBelow b1).trans (Kept.set (S := fun q => q = p ∨ Sf q) (.inl rfl) _) (fun q h => .inl h)
      have hwi : Within (W1.setCell ⟨p, 1, none⟩ (.iface (tyF s) (.pointer (some ⟨w.heap.size, 0, none⟩)))) p (stV 29 p) w.heap.size (fun q => q = w.heap.size) s := by
        refine ⟨by omega, fun q hq => by rw [hq]; simpa [World.setCell] using hlt, a2, hfi.frame (fun q hq => Below.heap_setCell _ _ _ _ (fun e => ?_)) (by simp [World.setCell])⟩
        have e' : q = p := e
        omega
      have hst := within_step _ p _ _ _ s x n HN.out hn1 hwi
      have HST : Hid _ := hid (hst.mono (fun e w' h => StepR.lift (w := w) (Sf := Sf) h kw (fun q hq => .inr (by omega))))
      clear hst a1 b1 hwi kw a2 hfi
      rw [show filR (bytesF s x.data.toList) = res from HFD.out.symm] at HST
      clear HFD
      generalize tyF s = ty at *
      go_wp2_with fail
      refine HST.out.mono ?_
      rintro e W2 hres
      have HRES := hid hres
      obtain ⟨F, rfl, _⟩ := hres
      clear HST x1 y1 z1
      unfold stV at HRES ⊢
      go_wp2
      go_ret2
      exact HRES.out
theorem rstep_any (w : World) (p : Nat) (Sf : Nat → Prop) (s : RSt) (x : ByteArray) (n : Nat) (hn : x.size = n) (hn1 : n ≤ maxLen) (h : ReadIs w p Sf s) :
    Calls Tryz.prog (nameR s) #[.pointer (some ⟨p, 0, none⟩), .string x] w fun e w' => StepR w p Sf (feedS s x.data.toList) e w' := by
  cases s with
  | begin => exact rbegin_step w p Sf x n hn hn1 h
  | file s =>
    obtain ⟨q, h1, h2⟩ := h.at_
    exact within_step w p _ q Sf s x n hn hn1 ⟨h.out, h.lt, h1, h2⟩
  | failed e => exact failed_step w p Sf e x h
  | ended k R C f => exact ended_step w p Sf k R C f x h
theorem rstep_enters (s : RSt) : ∀ args w, (callFunc (nameR s) args).run Tryz.prog w = .ok (.enter (nameR s) args) w := by
  cases s with
  | begin => exact enters_of Tryz.func29 (by kernel_rfl) rfl
  | file s => exact enters_of Tryz.func51 (by kernel_rfl) rfl
  | failed e => exact enters_of Tryz.func82 (by kernel_rfl) rfl
  | ended k R C f => exact enters_of Tryz.func66 (by kernel_rfl) rfl
def CallR (w : World) (p : Nat) (Sf : Nat → Prop) (s' : RSt) (w' : World) : Prop :=
  Kept (fun q => q = p ∨ Sf q) w w' ∧ ∃ Sf' : Nat → Prop, (∀ q, Sf' q → Sf q ∨ w.heap.size ≤ q) ∧ ReadIs w' p Sf' s'
set_option maxRecDepth 20000 in
theorem feed_any (w : World) (p : Nat) (Sf : Nat → Prop) (s : RSt) (x : ByteArray) (hx : x.size ≤ maxLen) (h : ReadIs w p Sf s) :
    Calls Tryz.prog 22 #[.pointer (some ⟨p, 0, none⟩), .string x] w fun e w' => e = .returned (.int .i64 (feedS s x.data.toList).1) ∧ CallR w p Sf (feedS s x.data.toList).2 w' := by
  obtain ⟨rest, ha⟩ := h.st
  have x0 := ha.cell (i := 0) rfl
  have hst := rstep_any w p Sf s x x.size rfl hx h
  have hen := rstep_enters s
  have HST := hid hst
  clear hst ha h
  generalize feedS s x.data.toList = res at *
  generalize nameR s = F at *
  obtain ⟨er, s'⟩ := res
  simp only
  unfold stV at x0
  go_enter Tryz.func22, Tryz.ntmps22
  go_wp2_with fail
  refine HST.out.mono ?_
  rintro e W1 ⟨F', rfl, hk, ⟨c, hc, hcl⟩, Sf', hS', hr⟩
  obtain ⟨y, hy⟩ : ∃ y, c[0]? = some y := ⟨c[0]'(by omega), by simp⟩
  have d0 := hc.cell hy
  have f0 := hc.frozen 0
  have hfin : Hid (CallR w p Sf s' (W1.setCell ⟨p, 0, none⟩ (stV F' p))) := ⟨hk.trans (Kept.set (S := fun q => q = p ∨ Sf q) (.inl rfl) _) (fun q h => .inl h), Sf', hS', hr⟩
  clear HST hk hc hr x0 hen
  unfold stV at hfin ⊢
  go_wp2
  go_ret
  exact ⟨rfl, hfin.out⟩
theorem newReader_any (w : World) : Calls Tryz.prog 11 #[] w fun e w' => e = .returned (.pointer (some ⟨w.heap.size, 0, none⟩)) ∧ Below w.heap.size w w' ∧ ReadIs w' w.heap.size (fun _ => False) .begin := by
  have hmf : ∀ (fn : Fn) (first cap : Array Value) (w : World), (Instr.makeFunc fn first cap).run Tryz.prog w = .ok (.func fn first cap) w := fun _ _ _ _ => rfl
  have a0 : Arr (w.alloc (.cells #[.nilFunc, .nilIface, .int .i64 0, .bool false, .int .i64 0, .int .i64 0, .slice none 0 0, .int .i64 0] 90)) w.heap.size 90 (rdrC .nilFunc .nilIface 0 false 0 0 (.slice none 0 0) 0) := Arr.newL _ _ _
  have c0 := a0.cell (i := 0) rfl
  have f0 := a0.frozen 0
  clear a0
  go_enter Tryz.func11, Tryz.ntmps11
  go_wp2
  go_ret
  exact ⟨rfl, Below.refl' _ _, fun h => h, fun q h => h.elim, Arr.newL _ _ _⟩
end Go.Proofs.YthdcceackfdbbaaGreatDoor
namespace Go.Proofs.YthdcceackfdbbaaGreatDoor
open Go Go.RowKit
noncomputable def endS : RSt → (Nat × Nat × Nat) × Int × RSt
  | .begin => ((0, 0, 0), 6, .failed 6)
  | .file s => match endF s with | some (k, R, C, f) => ((R, C, k), 0, .ended k R C f) | none => ((0, 0, 0), 11, .failed 11)
  | .failed e => ((0, 0, 0), e, .failed e)
  | .ended k R C f => ((R, C, k), 0, .ended k R C f)
def FinR (w : World) (p : Nat) (Sf : Nat → Prop) (r : (Nat × Nat × Nat) × Int × RSt) (e : Ending) (w' : World) : Prop :=
  ∃ (F : Nat) (st0 : Value) (wh : Bool) (num : Value), e = .returned (.tuple #[stV F p, .int .i64 r.2.1]) ∧ Kept (fun q => q = p ∨ Sf q) w w' ∧ Arr w' p 90 (rdrC st0 .nilIface r.2.1 wh r.1.1 r.1.2.1 num r.1.2.2) ∧
    ∃ Sf' : Nat → Prop, (∀ q, Sf' q → Sf q ∨ w.heap.size ≤ q) ∧ ReadIs (w'.setCell ⟨p, 0, none⟩ (stV F p)) p Sf' r.2.2
set_option maxRecDepth 20000 in
theorem finish_begin (w : World) (p : Nat) (Sf : Nat → Prop) (h : ReadIs w p Sf .begin) :
    Calls Tryz.prog 41 #[.pointer (some ⟨p, 0, none⟩)] w fun e w' => FinR w p Sf (endS .begin) e w' := by
  have ha : Arr w p 90 _ := h.at_
  have x1 := ha.cell (i := 1) rfl
  have hfl := fail_any w p _ _ _ 6 _ _ _ _ _ ha
  have HFL := hid hfl
  clear hfl ha h
  go_enter Tryz.func41, Tryz.ntmps41
  go_wp2_with fail
  refine HFL.out.mono ?_
  rintro e W4 ⟨rfl, hk4, ha4⟩
  have hfin : Hid (FinR w p Sf (endS .begin) (.returned (.tuple #[stV 82 p, .int .i64 6])) W4) :=
    ⟨_, _, _, _, rfl, hk4.mono (T := fun x => x = p ∨ Sf x) (fun q h => .inl h), ha4, fun _ => False, fun q h => h.elim, fun h => h, fun q h => h.elim, by decide, ha4.set 0 _⟩
  clear HFL hk4 ha4 x1
  unfold stV at hfin ⊢
  go_wp2
  go_ret2
  exact hfin.out
set_option maxRecDepth 20000 in
set_option maxHeartbeats 2000000 in
theorem finish_file (w : World) (p : Nat) (Sf : Nat → Prop) (s : FSt) (h : ReadIs w p Sf (.file s)) :
    Calls Tryz.prog 41 #[.pointer (some ⟨p, 0, none⟩)] w fun e w' => FinR w p Sf (endS (.file s)) e w' := by
  have hmf : ∀ (fn : Fn) (first cap : Array Value) (w : World), (Instr.makeFunc fn first cap).run Tryz.prog w = .ok (.func fn first cap) w := fun _ _ _ _ => rfl
  obtain ⟨q, ha, hfi⟩ := h.at_
  have x1 := ha.cell (i := 1) rfl
  have HEND := hid (file_end w q Sf s hfi)
  have hmt := meth_end s
  have hen := enters_end s
  have hout := h.out
  have hltS := h.lt
  obtain ⟨res, hres⟩ : ∃ res, endS (.file s) = res := ⟨_, rfl⟩
  rw [hres]
  have hres2 : (match endF s with | some (k, R, C, f) => ((R, C, k), 0, .ended k R C f) | none => ((0, 0, 0), 11, .failed 11)) = res := hres
  have HRES := hid hres2
  have HA := hid ha
  clear hres hres2 ha hfi h
  generalize endF s = ef at *
  generalize endN s = en at *
  generalize tyF s = ty at *
  go_enter Tryz.func41, Tryz.ntmps41
  go_wp2_with fail
  refine HEND.out.mono ?_
  rintro e W1 ⟨b1, hr⟩
  clear HEND hmt hen x1
  rcases hr with ⟨rfl, rfl⟩ | ⟨k, R, C, f, g, v, rfl, rfl, hg, hk5, hR, hC, hv, hm⟩
  · have b2 : Below w.heap.size w (W1.alloc (.cells #[.int .i64 0, .int .i64 0, .slice none 0 0] 88)) := b1.alloc b1.size _
    have HB2 := hid b2
    clear b1 b2
    go_wp2_with fail
    generalize W1.alloc (.cells #[.int .i64 0, .int .i64 0, .slice none 0 0] 88) = V at *
    have a2 : Arr V p 90 _ := HA.out.belowAll HB2.out
    have HFL := hid (fail_any V p _ _ _ 11 _ _ _ _ _ a2)
    clear a2
    refine HFL.out.mono ?_
    rintro e W4 ⟨rfl, hk4, ha4⟩
    have hfin : Hid (FinR w p Sf res (.returned (.tuple #[stV 82 p, .int .i64 11])) W4) := by
      rw [← HRES.out]
      exact ⟨_, _, _, _, rfl, (Kept.ofBelow HB2.out).trans (hk4.mono (T := fun x => x = p ∨ Sf x) (fun q h => .inl h)) (fun q h => .inl h), ha4, fun _ => False, fun q h => h.elim, fun h => h, fun q h => h.elim, by decide, ha4.set 0 _⟩
    clear HFL hk4 ha4
    unfold stV at hfin ⊢
    go_wp2
    go_ret2
    exact hfin.out
  · unfold matV
    have b2 : Below w.heap.size w (W1.alloc (.cells #[.int .i64 (R : Int), .int .i64 (C : Int), .slice (some ⟨g, 0, none⟩) (R * C) (R * C)] 88)) := b1.alloc b1.size _
    have aM := Arr.newL W1 88 [.int .i64 (R : Int), .int .i64 (C : Int), .slice (some ⟨g, 0, none⟩) (R * C) (R * C)]
    have vV := hv.alloc (.cells #[.int .i64 (R : Int), .int .i64 (C : Int), .slice (some ⟨g, 0, none⟩) (R * C) (R * C)] 88)
    have mV := hm.below (Below.refl' W1 (.cells #[.int .i64 (R : Int), .int .i64 (C : Int), .slice (some ⟨g, 0, none⟩) (R * C) (R * C)] 88)) hm.1
    obtain ⟨V, hV⟩ : ∃ V, W1.alloc (.cells #[.int .i64 (R : Int), .int .i64 (C : Int), .slice (some ⟨g, 0, none⟩) (R * C) (R * C)] 88) = V := ⟨_, rfl⟩
    obtain ⟨d, hd⟩ : ∃ d, W1.heap.size = d := ⟨_, rfl⟩
    change Arr (W1.alloc (.cells #[.int .i64 (R : Int), .int .i64 (C : Int), .slice (some ⟨g, 0, none⟩) (R * C) (R * C)] 88)) _ _ _ at aM
    rw [hV, hd] at aM
    rw [hV] at b2 vV mV
    have hpl := HA.out.lt
    have hpd : p ≠ d := by have := b1.size; omega
    have hpg : g ≠ p := fun e => hout (e ▸ hg)
    have a0 : Arr V p 90 _ := HA.out.belowAll b2
    have s1 := a0.cell (i := 1) rfl
    have t1 := a0.frozen 1
    have a1 := a0.set 1 .nilIface
    have s3 := a1.cell (i := 3) rfl
    have t3 := a1.frozen 3
    have a3 := a1.set 3 (.bool true)
    have s4 := a3.cell (i := 4) rfl
    have t4 := a3.frozen 4
    have a4 := a3.set 4 (.int .i64 (R : Int))
    have s5 := a4.cell (i := 5) rfl
    have t5 := a4.frozen 5
    have a5 := a4.set 5 (.int .i64 (C : Int))
    have s6 := a5.cell (i := 6) rfl
    have t6 := a5.frozen 6
    have a6 := a5.set 6 (.slice (some ⟨g, 0, none⟩) (R * C) (R * C))
    have s7 := a6.cell (i := 7) rfl
    have t7 := a6.frozen 7
    have a7 := a6.set 7 (.int .i64 (k : Int))
    have m3 := (aM.other (i := 1) (g' := p) .nilIface (Ne.symm hpd)).other (i := 3) (.bool true) (Ne.symm hpd)
    have m0 := m3.cell (i := 0) rfl
    have m1 := m3.cell (i := 1) rfl
    have m2 := m3.cell (i := 2) rfl
    have kS : ∀ (W : World) (i : Nat) (v : Value), Kept (fun q => q = p ∨ Sf q) w W → Kept (fun q => q = p ∨ Sf q) w (W.setCell ⟨p, i, none⟩ v) := fun W i v h => h.trans (Kept.set (S := fun q => q = p ∨ Sf q) (.inl rfl) v) (fun q h => .inl h)
    have k7 := kS _ 7 (.int .i64 (k : Int)) (kS _ 6 (.slice (some ⟨g, 0, none⟩) (R * C) (R * C)) (kS _ 5 (.int .i64 (C : Int)) (kS _ 4 (.int .i64 (R : Int)) (kS _ 3 (.bool true) (kS _ 1 .nilIface (Kept.ofBelow b2))))))
    have gg : ∀ (W : World) (i : Nat) (v' : Value), (Arr W g 65 v ∧ MemM C g R f W) → (Arr (W.setCell ⟨p, i, none⟩ v') g 65 v ∧ MemM C g R f (W.setCell ⟨p, i, none⟩ v')) := fun W i v' h =>
      ⟨h.1.other _ hpg, (h.1.other (i := i) v' hpg).lt, fun a b ha hb => (World.cell?_of_block (w := W) (Below.heap_setCell _ _ _ _ hpg)).trans (h.2.2 a b ha hb)⟩
    have g7 := gg _ 7 (.int .i64 (k : Int)) (gg _ 6 (.slice (some ⟨g, 0, none⟩) (R * C) (R * C)) (gg _ 5 (.int .i64 (C : Int)) (gg _ 4 (.int .i64 (R : Int)) (gg _ 3 (.bool true) (gg _ 1 .nilIface ⟨vV, mV⟩)))))
    have HG7 := hid g7
    have HA7 := hid a7
    have HK7 := hid k7
    have hfin : Hid (FinR w p Sf res (.returned (.tuple #[stV 66 p, .int .i64 0])) ((((((V.setCell ⟨p, 1, none⟩ .nilIface).setCell ⟨p, 3, none⟩ (.bool true)).setCell ⟨p, 4, none⟩ (.int .i64 (R : Int))).setCell ⟨p, 5, none⟩ (.int .i64 (C : Int))).setCell ⟨p, 6, none⟩ (.slice (some ⟨g, 0, none⟩) (R * C) (R * C))).setCell ⟨p, 7, none⟩ (.int .i64 (k : Int)))) := by
      rw [← HRES.out]
      have g8 := gg _ 0 (stV 66 p) g7
      exact ⟨_, _, _, _, rfl, k7, a7, Sf, fun q h => .inl h, hout, fun q hq => by have h1 := hltS q hq; have h2 := k7.size; simp only [World.size_setCell] at h2 ⊢; omega, hk5, hR, hC, g, v, a7.set 0 _, hg, g8.1, g8.2⟩
    clear a0 a1 a3 a4 a5 a6 a7 m3 k7 g7 gg kS b1 b2 hv hm vV mV aM HG7 HA7 HK7
    generalize R * C = N at *
    unfold stV at hfin
    go_wp2
    go_ret2
    exact hfin.out
end Go.Proofs.YthdcceackfdbbaaGreatDoor
