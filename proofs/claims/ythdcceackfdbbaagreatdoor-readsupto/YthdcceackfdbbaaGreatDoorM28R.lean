import Derived.Test.YthdcceackfdbbaaGreatDoorM27R
import Derived.Test.YthdcceackfdbbaaGreatDoorM21R
import Derived.Test.YthdcceackfdbbaaGreatDoorM01R
import Derived.Test.YthdcceackfdbbaaGreatDoorM00R
import Derived.Test.YthdcceackfdbbaaGreatDoorM09R
import Derived.Test.YthdcceackfdbbaaGreatDoorM11R
import Derived.Test.YthdcceackfdbbaaGreatDoorM10R
import Derived.Test.YthdcceackfdbbaaGreatDoorM24R
import Derived.Deep.QuietTactic
namespace Go.Proofs.YthdcceackfdbbaaGreatDoor
open Go Go.RowKit
open Classical in
noncomputable def intoE (s : RSt) (R C off rs cs : Int) (n : Nat) : Int :=
  match s with
  | .ended _ R' C' _ => if ¬ FitV R C off rs cs n then 2 else if R ≠ R' ∨ C ≠ C' then 4 else 0
  | _ => 11
noncomputable def intoL (s : RSt) (R C off rs cs : Int) (n : Nat) (l : List Value) : List Value :=
  match s with
  | .ended _ R' C' f => if intoE s R C off rs cs n = 0 then putL R' C' off rs cs f l else l
  | _ => l
theorem intoE_2 {k R' C' n : Nat} {f : Nat → Nat → Nat} {R C off rs cs : Int} (h : ¬ FitV R C off rs cs n) : intoE (.ended k R' C' f) R C off rs cs n = 2 := by
  simp only [intoE]; rw [if_pos h]
theorem intoE_4 {k R' C' n : Nat} {f : Nat → Nat → Nat} {R C off rs cs : Int} (h : FitV R C off rs cs n) (h2 : ¬ (R = R' ∧ C = C')) : intoE (.ended k R' C' f) R C off rs cs n = 4 := by
  simp only [intoE]; rw [if_neg (fun k => k h), if_pos (by omega)]
theorem intoE_0 {k R' C' n : Nat} {f : Nat → Nat → Nat} {R C off rs cs : Int} (h : FitV R C off rs cs n) (h2 : R = R' ∧ C = C') : intoE (.ended k R' C' f) R C off rs cs n = 0 := by
  simp only [intoE]; rw [if_neg (fun k => k h), if_neg (by omega)]
def IntoR (w : World) (p : Nat) (Sf : Nat → Prop) (s : RSt) (bb : Nat) (l' : List Value) (er : Int) (e : Ending) (w' : World) : Prop :=
  e = .returned (.int .i64 er) ∧ Kept (fun q => q = bb) w w' ∧ Arr w' bb 65 l' ∧ ReadIs w' p Sf s
set_option maxRecDepth 20000 in
set_option maxHeartbeats 1000000 in
theorem into_no (w : World) (p : Nat) (Sf : Nat → Prop) (s : RSt) (st file num : Value) (er : Int) (R' C' k n cap bb : Nat) (l : List Value) (R C off rs cs : Int) (ha : Arr w p 90 (rdrC st file er false R' C' num k)) (h : ReadIs w p Sf s) (hbuf : Arr w bb 65 l) :
    Calls Tryz.prog 20 #[.pointer (some ⟨p, 0, none⟩), .slice (some ⟨bb, 0, none⟩) n cap, viewV R C off rs cs] w fun e w' => IntoR w p Sf s bb l 11 e w' := by
  have k3 : ∀ o, (w.alloc o).cell? ⟨p, 3, none⟩ = some (.bool false) := fun o => (ha.alloc o).cell (i := 3) rfl
  have H := hid h
  have HB := hid hbuf
  clear ha h hbuf
  unfold viewV
  go_enter Tryz.func20, Tryz.ntmps20
  go_wp2
  go_ret
  exact ⟨rfl, Kept.ofBelow (Below.refl' _ _), HB.out.alloc _, H.out.below (Below.refl' _ _)⟩
set_option maxRecDepth 20000 in
set_option maxHeartbeats 2000000 in
theorem into_yes (w : World) (p : Nat) (Sf : Nat → Prop) (k R' C' : Nat) (f : Nat → Nat → Nat) (n cap bb : Nat) (l : List Value) (R C off rs cs : Int) (h : ReadIs w p Sf (.ended k R' C' f)) (hbuf : Arr w bb 65 l) (hn : n ≤ l.length) (hn1 : n ≤ maxLen) (hbp : bb ≠ p) (hbS : ¬ Sf bb) :
    Calls Tryz.prog 20 #[.pointer (some ⟨p, 0, none⟩), .slice (some ⟨bb, 0, none⟩) n cap, viewV R C off rs cs] w fun e w' => IntoR w p Sf (.ended k R' C' f) bb (intoL (.ended k R' C' f) R C off rs cs n l) (intoE (.ended k R' C' f) R C off rs cs n) e w' := by
  have hmix : Tryz.prog.follows .mixedOrders = true := by kernel_rfl
  obtain ⟨hk5, hR, hC, g, v, ha, hg, hv, hm⟩ := h.at_
  have hgb : g ≠ bb := fun e => hbS (e ▸ hg)
  obtain ⟨b, hb⟩ : ∃ b, w.heap.size = b := ⟨_, rfl⟩
  have vV : Arr (w.alloc (.cells #[.int .i64 R, .int .i64 C, .int .i64 off, .int .i64 rs, .int .i64 cs] 24)) b 24 [.int .i64 R, .int .i64 C, .int .i64 off, .int .i64 rs, .int .i64 cs] := by rw [← hb]; exact Arr.newL _ _ _
  have bV : Below b w (w.alloc (.cells #[.int .i64 R, .int .i64 C, .int .i64 off, .int .i64 rs, .int .i64 cs] 24)) := by rw [← hb]; exact Below.refl' _ _
  have a3 := (ha.belowAll (hb ▸ bV)).cell (i := 3) rfl
  have l0 := vV.cell (i := 0) rfl
  have l1 := vV.cell (i := 1) rfl
  have l2 := vV.cell (i := 2) rfl
  have l3 := vV.cell (i := 3) rfl
  have l4 := vV.cell (i := 4) rfl
  have HF := hid (fun w => fits_any w R C off rs cs n (by unfold maxLen at hn1; omega))
  obtain ⟨er, her⟩ : ∃ er, intoE (.ended k R' C' f) R C off rs cs n = er := ⟨_, rfl⟩
  obtain ⟨l', hl'⟩ : ∃ l', intoL (.ended k R' C' f) R C off rs cs n l = l' := ⟨_, rfl⟩
  rw [her, hl']
  have hL : l' = if er = 0 then putL R' C' off rs cs f l else l := by rw [← hl', ← her]; rfl
  have hE : (¬ FitV R C off rs cs n → er = 2) ∧ (FitV R C off rs cs n → (¬ (R = R' ∧ C = C') → er = 4) ∧ (R = R' ∧ C = C' → er = 0)) := by rw [← her]; exact ⟨intoE_2, fun h => ⟨intoE_4 h, intoE_0 h⟩⟩
  have HL := hid hL
  have HE := hid hE
  have H := hid h
  have HBUF := hid hbuf
  have HA := hid ha
  have HVV := hid vV
  have HBV := hid bV
  have HM := hid hm
  clear hL hE h hbuf ha vV bV her hl' hm hv
  obtain ⟨V, hV⟩ : ∃ V, w.alloc (.cells #[.int .i64 R, .int .i64 C, .int .i64 off, .int .i64 rs, .int .i64 cs] 24) = V := ⟨_, rfl⟩
  rw [hV] at a3 l0 l1 l2 l3 l4 HVV HBV
  unfold viewV at HF ⊢
  unfold maxLen at hn1
  go_enter Tryz.func20, Tryz.ntmps20
  go_wp2_with fail
  refine (HF.out V).mono ?_
  rintro e W1 ⟨hbo, b1⟩
  clear HF hV a3 l0 l1 l2 l3 l4
  have bz := HBV.out.size
  have b2 : Below b w W1 := HBV.out.trans (b1.mono (by omega))
  have fin : ∀ W, Below b w W → er ≠ 0 → Hid (IntoR w p Sf (.ended k R' C' f) bb l' er (.returned (.int .i64 er)) W) := fun W hW h0 => by
    refine ⟨rfl, Kept.ofBelow (hb ▸ hW), ?_, H.out.below (hb ▸ hW)⟩
    rw [HL.out, if_neg h0]
    exact HBUF.out.belowAll (hb ▸ hW)
  obtain ⟨bo, rfl, hbo⟩ := hbo
  cases bo with
  | false =>
    have hnf : ¬ FitV R C off rs cs n := fun h => by simpa using hbo.2 h
    have he2 : er = 2 := HE.out.1 hnf
    subst he2
    have hfin := fin W1 b2 (by decide)
    clear fin b1 b2 hbo
    go_wp2
    go_ret
    exact hfin.out
  | true =>
    have hfit := hbo.1 rfl
    have hE2 := HE.out.2 hfit
    have HE2 := hid hE2
    have HFIT := hid hfit
    have vW := HVV.out.below b1 (by have := HVV.out.lt; omega)
    have aW := HA.out.belowAll (hb ▸ b2)
    have HB2 := hid b2
    have HFIN := hid fin
    clear hbo hE2 hfit fin b1 b2
    have v0 := vW.cell (i := 0) rfl
    have v1 := vW.cell (i := 1) rfl
    have p4 := aW.cell (i := 4) rfl
    have p5 := aW.cell (i := 5) rfl
    have HVW := hid vW
    have HAW := hid aW
    clear vW aW
    have shp : (R = R' ∧ C = C') → Hid (er = 0) := fun h => HE2.out.2 h
    have shn : ¬ (R = R' ∧ C = C') → Hid (er = 4) := fun h => HE2.out.1 h
    by_cases hRR : R = R'
    · by_cases hCC : C = C'
      · have he0 := shp ⟨hRR, hCC⟩
        obtain ⟨_, _, _, hfit3⟩ := HFIT.out
        have hn100 := HFIT.out.1
        have hfit4 : R' = 0 ∨ C' = 0 ∨ Fit R' C' off rs cs n := by
          rcases hfit3 with h | h | h
          · left; omega
          · right; left; omega
          · right; right
            rw [hRR, hCC] at h
            simpa using h
        have HFIT4 := hid hfit4
        clear shp shn hfit3 hfit4 HFIT
        subst hRR
        subst hCC
        have hRt : (R' : Int) = R' := rfl
        go_wp2_with fail
        go_quiet (fail)
        go_wp2_with fail
        have hAD := HAW.out.drewN nq
        have hVD := HVW.out.drewN nq
        have hBD := below_dn HB2.out nq
        clear v0 v1 p4 p5
        generalize W1.drewN nq = W2 at *
        refine wp_region_held (S := fun W' => Arr W' p 90 (rdrC (stV 66 p) .nilIface 0 true R' C' (.slice (some ⟨g, 0, none⟩) (R' * C') (R' * C')) k) ∧ Arr W' b 24 [.int .i64 (R' : Int), .int .i64 (C' : Int), .int .i64 off, .int .i64 rs, .int .i64 cs]) hmix ?_
        change wpAnyH _ _ _ _ _ _ _ _ W2.drew
        have hSS := And.intro hAD.drew hVD.drew
        have hB3 : Below b w W2.drew := hBD.drew
        clear hAD hVD hBD
        generalize W2.drew = W3 at *
        refine wpAnyH_take (i := 0) (v := .slice (some ⟨bb, 0, none⟩) n cap) rfl (by kernel_rfl) (by kernel_rfl) (by kernel_rfl) (fun _ _ _ h => h) (Or.inl ⟨by rfl, fun W' hS => ?_⟩) hSS ?_
        · clear hS
          go_simp
        simp only [Act.put]
        refine wpAnyH_take (i := 1) (v := .agg #[.int .i64 (R' : Int), .int .i64 (C' : Int), .int .i64 off, .int .i64 rs, .int .i64 cs]) rfl (by kernel_rfl) (by kernel_rfl) (by kernel_rfl) (fun _ _ _ h => h) (Or.inl ⟨by rfl, fun W' hS => ?_⟩) hSS ?_
        · have q0 := hS.2.cell (i := 0) rfl
          have q1 := hS.2.cell (i := 1) rfl
          have q2 := hS.2.cell (i := 2) rfl
          have q3 := hS.2.cell (i := 3) rfl
          have q4 := hS.2.cell (i := 4) rfl
          clear hS
          go_simp
        simp only [Act.put]
        refine wpAnyH_take (i := 2) (v := .pointer (some ⟨p, 0, none⟩)) rfl (by kernel_rfl) (by kernel_rfl) (by kernel_rfl) (fun _ _ _ h => h) (Or.inl ⟨by rfl, fun W' hS => ?_⟩) hSS ?_
        · clear hS
          go_simp
        simp only [Act.put]
        refine wpAnyH_take (i := 3) (v := .pointer (some ⟨p, 0, none⟩)) rfl (by kernel_rfl) (by kernel_rfl) (by kernel_rfl) (fun _ _ _ h => h) (Or.inl ⟨by rfl, fun W' hS => ?_⟩) hSS ?_
        · clear hS
          go_simp
        simp only [Act.put]
        refine wpAnyH_take (i := 4) (v := .pointer (some ⟨p, 4, none⟩)) rfl (by kernel_rfl) (by kernel_rfl) (by kernel_rfl) (fun _ _ _ h => h) (Or.inl ⟨by rfl, fun W' hS => ?_⟩) hSS ?_
        · clear hS
          go_simp
        simp only [Act.put]
        refine wpAnyH_take (i := 5) (v := .agg #[.int .i64 (R' : Int), .int .i64 (C' : Int), .slice (some ⟨g, 0, none⟩) (R' * C') (R' * C')]) rfl (by kernel_rfl) (by kernel_rfl) (by kernel_rfl) (fun _ _ _ h => h) (Or.inl ⟨by rfl, fun W' hS => ?_⟩) hSS ?_
        · have q0 := hS.1.cell (i := 4) rfl
          have q1 := hS.1.cell (i := 5) rfl
          have q2 := hS.1.cell (i := 6) rfl
          clear hS
          go_simp
        simp only [Act.put]
        have hpb : p ≠ b := by have := HA.out.lt; omega
        have hbbl : bb < b := by have := HBUF.out.lt; omega
        have hbw := HBUF.out.belowAll (hb ▸ hB3)
        have hmw : MemM C' g R' f W3 := HM.out.below (hb ▸ hB3) HM.out.1
        have hput := vput_any W3 R' C' off rs cs bb n cap g f l hR hC HFIT4.out hn100 hbw hn hmw hgb
        unfold viewV matV at hput
        refine wpAnyH_ready (rs := [6]) (by kernel_rfl) (by simp) ?_
        refine AllReadyH.cons rfl (fun K hKK => ?_) AllReadyH.nil
        go_simp
        refine hput.mono ?_
        rintro e W4 ⟨⟨rv, rfl⟩, hk4, ha4⟩
        have hS4 : Arr W4 p 90 (rdrC (stV 66 p) .nilIface 0 true R' C' (.slice (some ⟨g, 0, none⟩) (R' * C') (R' * C')) k) ∧ Arr W4 b 24 [.int .i64 (R' : Int), .int .i64 (C' : Int), .int .i64 off, .int .i64 rs, .int .i64 cs] := ⟨hk4.arr hSS.1 (fun e => hbp e.symm), hk4.arr hSS.2 (by omega)⟩
        refine hKK.out _ _ hS4 (fun hHeld => ?_)
        clear hKK hHeld
        refine wpAnyH_done (by kernel_rfl) ?_ _
        have hkw : Kept (fun q => q = bb) w W4 := (Kept.ofBelow (hb ▸ hB3)).trans hk4 (fun q h => .inl h)
        have hfin : Hid (IntoR w p Sf (.ended k R' C' f) bb l' er (.returned (.int .i64 0)) W4) := by
          refine ⟨by rw [he0.out], hkw, by rw [HL.out, if_pos he0.out]; exact ha4, ?_⟩
          refine H.out.frame (fun q hq => hkw.block q ?_ ?_) hkw.size
          · rcases hq with rfl | hq
            · exact HA.out.lt
            · exact H.out.lt q hq
          · rcases hq with rfl | hq
            · exact fun e => hbp e.symm
            · exact fun e => hbS (e ▸ hq)
        clear hS4 hSS hk4 ha4 hput hbw hmw hkw he0
        go_wp2
        go_ret
        exact hfin.out
      · have he4 : er = 4 := (shn (fun h => hCC h.2)).out
        have hfin : Hid (∀ W, Below b w W → IntoR w p Sf (.ended k R' C' f) bb l' er (.returned (.int .i64 4)) W) := fun W hW => by have := (HFIN.out W hW (by rw [he4]; decide)).out; rw [he4] at this ⊢; exact this
        clear shp shn HFIN he4
        subst hRR
        go_wp2_with fail
        go_quiet (fail)
        go_wp2
        go_ret
        exact hfin.out _ (below_dn HB2.out nq)
    · have he4 : er = 4 := (shn (fun h => hRR h.1)).out
      have hfin : Hid (∀ W, Below b w W → IntoR w p Sf (.ended k R' C' f) bb l' er (.returned (.int .i64 4)) W) := fun W hW => by have := (HFIN.out W hW (by rw [he4]; decide)).out; rw [he4] at this ⊢; exact this
      clear shp shn HFIN he4
      go_wp2_with fail
      go_quiet (fail)
      go_wp2
      go_ret
      exact hfin.out _ (below_dn HB2.out nq)
theorem into_any (w : World) (p : Nat) (Sf : Nat → Prop) (s : RSt) (n cap bb : Nat) (l : List Value) (R C off rs cs : Int) (h : ReadIs w p Sf s) (hbuf : Arr w bb 65 l) (hn : n ≤ l.length) (hn1 : n ≤ maxLen) (hbp : bb ≠ p) (hbS : ¬ Sf bb) :
    Calls Tryz.prog 20 #[.pointer (some ⟨p, 0, none⟩), .slice (some ⟨bb, 0, none⟩) n cap, viewV R C off rs cs] w fun e w' => IntoR w p Sf s bb (intoL s R C off rs cs n l) (intoE s R C off rs cs n) e w' := by
  cases s with
  | begin => exact into_no w p Sf .begin _ _ _ _ _ _ _ n cap bb l R C off rs cs h.at_ h hbuf
  | file s => obtain ⟨q, h1, h2⟩ := h.at_; exact into_no w p Sf (.file s) _ _ _ _ _ _ _ n cap bb l R C off rs cs h1 h hbuf
  | failed e => exact into_no w p Sf (.failed e) _ _ _ _ _ _ _ n cap bb l R C off rs cs h.at_.2 h hbuf
  | ended k R' C' f => exact into_yes w p Sf k R' C' f n cap bb l R C off rs cs h hbuf hn hn1 hbp hbS
end Go.Proofs.YthdcceackfdbbaaGreatDoor
namespace Go.Proofs.YthdcceackfdbbaaGreatDoor
open Go Go.RowKit
theorem bytesF_app0 : ∀ {l m : List UInt8} {s s' : FSt}, bytesF s l = (0, s') → bytesF s (l ++ m) = bytesF s' m
  | [], m, s, s', h => by simp only [bytesF] at h; cases h; rfl
  | x :: r, m, s, s', h => by
    simp only [bytesF, List.cons_append] at h ⊢
    by_cases h0 : (takeF s x).1 = 0
    · rw [if_pos h0] at h ⊢; exact bytesF_app0 h
    · rw [if_neg h0] at h; exact (h0 (by rw [h])).elim
theorem filR_app (s : FSt) (a b : List UInt8) : filR (bytesF s (a ++ b)) = feedS (filR (bytesF s a)).2 b := by
  by_cases h : (bytesF s a).1 = 0
  · have h1 : bytesF s a = (0, (bytesF s a).2) := by rw [← h]
    rw [bytesF_app0 h1]
    unfold filR
    rw [if_pos h]
    rfl
  · rw [bytesF_app h]
    unfold filR
    rw [if_neg h]
    rfl
theorem feedS_app (s : RSt) (a b : List UInt8) : feedS s (a ++ b) = feedS (feedS s a).2 b := by
  cases s with
  | begin =>
    cases a with
    | nil => rfl
    | cons x r =>
      have e : ∀ z, feedS .begin (x :: z) = match fileS x with | some s => filR (bytesF s (x :: z)) | none => (6, .failed 6) := fun z => rfl
      rw [List.cons_append, e, e]
      cases fileS x with
      | none => rfl
      | some s => exact filR_app s (x :: r) b
  | file s => simp only [feedS]; exact filR_app s a b
  | failed e => rfl
  | ended k R C f => rfl
theorem feedS_err {s : RSt} {l : List UInt8} {e : Int} (hs : s = .begin ∨ ∃ t, s = .file t) (h : (feedS s l).1 = e) (he : e ≠ 0) : (feedS s l).2 = .failed e := by
  have hf : ∀ r : Int × FSt, (filR r).1 = e → (filR r).2 = .failed e := by
    intro r hr
    unfold filR at hr ⊢
    split
    · rename_i h0; rw [if_pos h0] at hr; exact (he hr.symm).elim
    · rename_i h0; rw [if_neg h0] at hr; rw [← hr]
  rcases hs with rfl | ⟨t, rfl⟩
  · cases l with
    | nil => exact (he (by simpa [feedS] using h.symm)).elim
    | cons x r =>
      simp only [feedS] at h ⊢
      cases hx : fileS x with
      | none => rw [hx] at h; simp only at h ⊢; rw [← h]
      | some s => rw [hx] at h; exact hf _ h
  · exact hf _ h
theorem feedS_ok {s : RSt} {l : List UInt8} (hs : s = .begin ∨ ∃ t, s = .file t) (h : (feedS s l).1 = 0) : (feedS s l).2 = .begin ∨ ∃ t, (feedS s l).2 = .file t := by
  have hf : ∀ r : Int × FSt, (filR r).1 = 0 → ∃ t, (filR r).2 = .file t := by
    intro r hr
    unfold filR at hr ⊢
    split
    · exact ⟨_, rfl⟩
    · rename_i h0; rw [if_neg h0] at hr; exact (h0 hr).elim
  rcases hs with rfl | ⟨t, rfl⟩
  · cases l with
    | nil => exact .inl rfl
    | cons x r =>
      simp only [feedS] at h ⊢
      cases hx : fileS x with
      | none => rw [hx] at h; simp at h
      | some s => rw [hx] at h; exact .inr (hf _ h)
  · exact .inr (hf _ h)
theorem ReadIs.ptr_lt {w : World} {p : Nat} {Sf : Nat → Prop} {s : RSt} (h : ReadIs w p Sf s) : p < w.heap.size := by
  obtain ⟨c, hc, _⟩ := h.arr
  exact hc.lt
theorem bytesF_line {t : TSt} : ∀ {l cur : List UInt8}, (∀ b ∈ l, b ≠ 10) → cur.length + l.length ≤ 200 → bytesF (.text t cur) l = (0, .text t (cur ++ l))
  | [], cur, _, _ => by simp [bytesF]
  | b :: r, cur, h, hl => by
    have h1 : takeT t cur b = (0, t, cur ++ [b]) := by
      unfold takeT
      rw [if_neg (h b (by simp)), if_neg (by simp at hl; omega)]
    rw [bytesF]
    simp only [takeF, h1]
    rw [if_pos (by simp), bytesF_line (fun c hc => h c (by simp [hc])) (by simp at hl ⊢; omega)]
    simp
theorem bytesF_lineE {t : TSt} {l : List UInt8} (h : ∀ b ∈ l, b ≠ 10) (hl : l.length ≤ 200) : bytesF (.text t []) (l ++ [10]) = (((lineT t l).1 : Int), .text (lineT t l).2 []) := by
  rw [bytesF_snoc (bytesF_line (cur := []) h (by simpa using hl))]
  simp [takeF, takeT]
end Go.Proofs.YthdcceackfdbbaaGreatDoor
namespace Go.Proofs.YthdcceackfdbbaaGreatDoor
end Go.Proofs.YthdcceackfdbbaaGreatDoor
namespace Go.Proofs.YthdcceackfdbbaaGreatDoor
open Go Go.RowKit
end Go.Proofs.YthdcceackfdbbaaGreatDoor
namespace Go.Proofs.YthdcceackfdbbaaGreatDoor
open Go Go.RowKit Go.Shelf
attribute [local go_sem] Oper.semAt_some
end Go.Proofs.YthdcceackfdbbaaGreatDoor
namespace Go.Proofs.YthdcceackfdbbaaGreatDoor
open Go Go.RowKit
end Go.Proofs.YthdcceackfdbbaaGreatDoor
namespace Go.Proofs.YthdcceackfdbbaaGreatDoor
open Go Go.RowKit Go.Shelf
attribute [local go_sem] Oper.semAt_some
end Go.Proofs.YthdcceackfdbbaaGreatDoor
namespace Go.Proofs.YthdcceackfdbbaaGreatDoor
open Go Go.RowKit
end Go.Proofs.YthdcceackfdbbaaGreatDoor
namespace Go.Proofs.YthdcceackfdbbaaGreatDoor
open Go Go.RowKit
theorem mark_app {l m : List UInt8} (h : ¬ markOk l) : ¬ markOk (l ++ m) := fun hh => h (fun i x hx => hh i x (by
  rw [List.getElem?_append_left (List.getElem?_eq_some_iff.1 hx).1]; exact hx))
theorem cut_app (l m : List UInt8) {a k : Nat} (h : a + k ≤ l.length) : ((l ++ m).drop a).take k = (l.drop a).take k := by
  rw [List.drop_append_of_le_length (by omega), List.take_append_of_le_length (by rw [List.length_drop]; omega)]
theorem boxE_app {l : List UInt8} (m : List UInt8) (h : boxE l ≠ 0) : boxE (l ++ m) = boxE l := by
  unfold boxE at h ⊢
  by_cases h1 : ¬ markOk l
  · rw [if_pos h1, if_pos (mark_app h1)]
  · have hm : markOk l := Classical.byContradiction h1
    rw [if_neg h1] at h
    rw [if_neg h1]
    by_cases h2 : l.length < 14
    · rw [if_pos h2] at h; exact (h rfl).elim
    · have hm' : markOk (l ++ m) := fun i x hx => by
        by_cases hi : i < l.length
        · exact hm i x (by rwa [List.getElem?_append_left hi] at hx)
        · exact ⟨fun h => by omega, fun h => by omega⟩
      have hl : (l ++ m).length = l.length + m.length := List.length_append
      rw [if_neg h2] at h
      rw [if_neg h2, if_neg (fun k => k hm'), if_neg (by omega : ¬ (l ++ m).length < 14)]
      have e10 : (l ++ m).take 10 = l.take 10 := List.take_append_of_le_length (by omega)
      have eR : rowsB (l ++ m) = rowsB l := by unfold rowsB; rw [cut_app l m (by omega)]
      have eC : colsB (l ++ m) = colsB l := by unfold colsB; rw [cut_app l m (by omega)]
      rw [cut_app l m (show 10 + 4 ≤ l.length by omega), e10, eR, eC]
      by_cases h3 : valL ((l.drop 10).take 4) ≠ sumL (l.take 10)
      · rw [if_pos h3, if_pos h3]
      · rw [if_neg h3] at h
        rw [if_neg h3, if_neg h3]
        by_cases h4 : 40 < rowsB l ∨ 40 < colsB l
        · rw [if_pos h4, if_pos h4]
        · rw [if_neg h4] at h
          rw [if_neg h4, if_neg h4]
          generalize rowsB l * colsB l = N at *
          by_cases h5 : l.length < 18 + 8 * N
          · rw [if_pos h5] at h; exact (h rfl).elim
          · rw [if_neg h5] at h
            rw [if_neg h5, if_neg (by omega : ¬ (l ++ m).length < 18 + 8 * N), cut_app l m (show 14 + 8 * N + 4 ≤ l.length by omega), cut_app l m (show 14 + 8 * N ≤ l.length by omega)]
            have en : ∀ k, k < N → numB (l ++ m) k = numB l k := fun k hk => by unfold numB; rw [cut_app l m (by omega)]
            by_cases h6 : valL ((l.drop (14 + 8 * N)).take 4) ≠ sumL ((l.drop 14).take (8 * N))
            · rw [if_pos h6, if_pos h6]
            · rw [if_neg h6] at h
              rw [if_neg h6, if_neg h6]
              have e7 : (∃ k, k < N ∧ canon (numB (l ++ m) k) ≠ numB (l ++ m) k) ↔ ∃ k, k < N ∧ canon (numB l k) ≠ numB l k :=
                ⟨fun ⟨k, hk, h⟩ => ⟨k, hk, by rwa [en k hk] at h⟩, fun ⟨k, hk, h⟩ => ⟨k, hk, by rwa [en k hk]⟩⟩
              by_cases h7 : ∃ k, k < N ∧ canon (numB l k) ≠ numB l k
              · rw [if_pos h7, if_pos (e7.2 h7)]
              · rw [if_neg h7] at h
                rw [if_neg h7, if_neg (fun k => h7 (e7.1 k))]
                by_cases h8 : 18 + 8 * N < l.length
                · rw [if_pos h8, if_pos (by omega)]
                · rw [if_neg h8] at h; exact (h rfl).elim
theorem boxE_nil : boxE [] = 0 := by
  unfold boxE
  rw [if_neg (fun k => k (fun i x hx => by simp at hx)), if_pos (by decide)]
theorem box_take (l : List UInt8) : ∀ n, n ≤ l.length → (bytesF (.box []) (l.take n)).1 = boxE (l.take n) ∧ (boxE (l.take n) = 0 → bytesF (.box []) (l.take n) = (0, .box (l.take n)))
  | 0, _ => by rw [List.take_zero, boxE_nil]; exact ⟨rfl, fun _ => rfl⟩
  | n + 1, hn => by
    obtain ⟨h1, h2⟩ := box_take l n (by omega)
    have e : l.take (n + 1) = l.take n ++ [l[n]'(by omega)] := by rw [List.take_add_one]; simp [show n < l.length by omega]
    rw [e]
    by_cases h0 : boxE (l.take n) = 0
    · rw [bytesF_snoc (h2 h0)]
      refine ⟨rfl, fun h => ?_⟩
      simp only [takeF, h]
    · rw [boxE_app _ h0, bytesF_app (by rw [h1]; exact h0)]
      exact ⟨h1, fun h => (h0 h).elim⟩
theorem box_bytes (l : List UInt8) : (bytesF (.box []) l).1 = boxE l ∧ (boxE l = 0 → bytesF (.box []) l = (0, .box l)) := by
  have := box_take l l.length (Nat.le_refl _)
  rwa [List.take_length] at this
theorem bytesF_long {t : TSt} {l : List UInt8} (h : ∀ b ∈ l, b ≠ 10) (hl : 200 < l.length) (m : List UInt8) : (bytesF (.text t []) (l ++ m)).1 = 7 := by
  have e : l = l.take 200 ++ (l[200]'hl :: l.drop 201) := by
    conv => lhs; rw [← List.take_append_drop 200 l]
    rw [List.drop_eq_getElem_cons hl]
  have h1 : bytesF (.text t []) (l.take 200) = (0, .text t (l.take 200)) := by
    have := bytesF_line (t := t) (cur := []) (l := l.take 200) (fun b hb => h b (List.mem_of_mem_take hb)) (by simp; omega)
    simpa using this
  have h2 : bytesF (.text t []) (l.take 200 ++ [l[200]'hl]) = (7, .text t (l.take 200)) := by
    rw [bytesF_snoc h1]
    simp only [takeF]
    unfold takeT
    rw [if_neg (h _ (List.getElem_mem hl)), if_pos (by rw [List.length_take]; omega)]
    rfl
  rw [e, List.append_assoc]
  have : l.take 200 ++ (l[200]'hl :: l.drop 201 ++ m) = (l.take 200 ++ [l[200]'hl]) ++ (l.drop 201 ++ m) := by rw [List.append_assoc (l.take 200) [l[200]'hl]]; rfl
  rw [this, bytesF_app (by rw [h2]; show (7 : Int) ≠ 0; decide), h2]
end Go.Proofs.YthdcceackfdbbaaGreatDoor
namespace Go.Proofs.YthdcceackfdbbaaGreatDoor
open Go Go.RowKit
theorem words_ne37 (r : List UInt8) : wordsL (37 :: r) ≠ [] := by
  unfold wordsL
  simp only [wordsGo]
  rw [if_neg (by decide)]
  have : ∀ (l cur : List UInt8), cur ≠ [] → wordsGo cur l ≠ [] := by
    intro l
    induction l with
    | nil => intro cur hc hh; simp only [wordsGo] at hh; rw [if_neg hc] at hh; cases hh
    | cons x r ih =>
      intro cur hc hh
      simp only [wordsGo] at hh
      split at hh
      · try rw [if_neg hc] at hh
        cases hh
      · exact ih _ (by simp) hh
  exact this _ _ (by simp)
theorem words_ne_of {y : List UInt8} (h : y.head? = some 37) : wordsL y ≠ [] := by
  cases y with
  | nil => cases h
  | cons b r => injection h with h; subst h; exact words_ne37 r
theorem lineT_first {y : List UInt8} (h : y.head? = some 37) : lineT .first y = firstT (wordsL y) := by
  unfold lineT
  rw [if_neg (words_ne_of h)]
  rfl
theorem arrT_next {k : Nat} {o : Option (List Nat)} (h : (arrT k o).1 = 0) : (arrT k o).2 ≠ .first := by
  unfold arrT at h ⊢
  split at h
  · split at h
    · rename_i h1; exact (h1 h).elim
    · rename_i h1; simp only [h1]; simp
  · cases h
theorem cooT_next {k : Nat} {o : Option (List Nat)} (h : (cooT k o).1 = 0) : (cooT k o).2 ≠ .first := by
  unfold cooT at h ⊢
  split at h
  · split at h
    · rename_i h1; exact (h1 h).elim
    · rename_i h1
      split at h
      · cases h
      · rename_i h2; rw [if_neg h1, if_neg h2]; simp
  · cases h
theorem putT_next {k R C left : Nat} {free : List (Nat × Nat)} {f : Nat → Nat → Nat} {i : Nat} {t : List UInt8} (h : (putT k R C left free f i t).1 = 0) : (putT k R C left free f i t).2 ≠ .first := by
  unfold putT at h ⊢
  split at h
  · rename_i h1; exact (h1 h).elim
  · rename_i h1; rw [if_neg h1]; simp
theorem lineT_next {t : TSt} {y : List UInt8} (h : (lineT t y).1 = 0) (ht : t ≠ .first ∨ y.head? = some 37) : (lineT t y).2 ≠ .first := by
  unfold lineT at h ⊢
  by_cases hw : wordsL y = []
  · rw [if_pos hw]
    rcases ht with ht | ht
    · exact ht
    · exact (words_ne_of ht hw).elim
  · rw [if_neg hw] at h ⊢
    generalize decide (y.head? = some 37) = c at *
    cases t with
    | first =>
      simp only [stepT] at h ⊢
      unfold firstT at h ⊢
      split at h
      · simp
      · cases h
    | sizes k =>
      simp only [stepT] at h ⊢
      unfold sizesT at h ⊢
      cases c
      · simp only [Bool.false_eq_true, if_false] at h ⊢
        split at h
        · rename_i h1; rw [if_pos h1]; exact cooT_next h
        · rename_i h1; rw [if_neg h1]; exact arrT_next h
      · simp
    | ent k R C left free f =>
      simp only [stepT] at h ⊢
      split at h
      · rename_i h1
        rw [if_pos h1]
        unfold cooE at h ⊢
        split at h
        · cases h
        · rename_i h2
          rw [if_neg h2]
          split at h
          · split at h
            · cases h
            · rename_i h3
              rw [if_neg h3]
              split at h
              · exact putT_next h
              · cases h
          · cases h
      · rename_i h1
        rw [if_neg h1]
        unfold arrE at h ⊢
        split at h
        · cases h
        · rename_i h2
          rw [if_neg h2]
          split at h
          · cases h
          · rename_i h3
            rw [if_neg h3]
            exact putT_next h
theorem firstK_le {ws : List (List UInt8)} {k : Nat} (h : firstK ws = some k) : k ≤ 3 := by
  unfold firstK at h
  have := List.mem_of_find?_eq_some h
  simp at this
  omega
theorem FirstR.lineQ {B p : Nat} {w w' : World} {y : List UInt8} {e : Ending} (h : FirstR w p (firstK (wordsL y)) e w') (hy : y.head? = some 37) (hB : B ≤ p) (hz : B ≤ w.heap.size) : LineQ B w p (lineT .first y) e w' := by
  obtain ⟨h1, h2, h3⟩ := h
  rw [lineT_first hy]
  refine ⟨?_, h2.below (fun q hq => by rw [hq]; exact hB) hz, ?_⟩
  · rw [h1]
    unfold firstT
    cases hk : firstK (wordsL y) with
    | none => rfl
    | some k => rfl
  · unfold firstT
    cases hk : firstK (wordsL y) with
    | none => intro h; cases h
    | some k => intro _; exact ⟨firstK_le hk, h3 k hk⟩
theorem no10 {l : List UInt8} {a k : Nat} (hn : ∀ j, a ≤ j → j < k → l[j]? ≠ some 10) : ∀ b ∈ (l.drop a).take (k - a), b ≠ 10 := by
  intro b hb e
  subst e
  obtain ⟨i, hi⟩ := List.mem_iff_getElem?.1 hb
  rw [List.getElem?_take] at hi
  split at hi
  · rw [List.getElem?_drop] at hi
    exact hn (a + i) (by omega) (by omega) hi
  · cases hi
theorem lined_from {l : List UInt8} {a : Nat} {t : TSt} (h : bytesF (.text .first []) (l.take a) = (0, .text t [])) : bytesF (.text .first []) l = bytesF (.text t []) (l.drop a) := by
  have := bytesF_app0 (m := l.drop a) h
  rw [List.take_append_drop] at this
  exact this
theorem lined_long {l : List UInt8} {a k : Nat} {t : TSt} (h : bytesF (.text .first []) (l.take a) = (0, .text t [])) (hn : ∀ j, a ≤ j → j < k → l[j]? ≠ some 10) (hk : k ≤ l.length) (hl : 200 < k - a) : (bytesF (.text .first []) l).1 = 7 := by
  rw [lined_from h]
  have := bytesF_long (t := t) (no10 hn) (by rw [List.length_take, List.length_drop]; omega) ((l.drop a).drop (k - a))
  rw [List.take_append_drop] at this
  exact this
theorem lined_end {l : List UInt8} {a k : Nat} {t : TSt} (h : bytesF (.text .first []) (l.take a) = (0, .text t [])) (hn : ∀ j, a ≤ j → j < k → l[j]? ≠ some 10) (hk : k = l.length) (hl : k - a ≤ 200) : bytesF (.text .first []) l = (0, .text t (l.drop a)) := by
  rw [lined_from h]
  have h1 := no10 hn
  rw [List.take_of_length_le (by rw [List.length_drop]; omega)] at h1
  have := bytesF_line (t := t) (cur := []) h1 (by rw [List.length_drop]; simp; omega)
  simpa using this
theorem lined_line {l : List UInt8} {a k : Nat} {t : TSt} (h : bytesF (.text .first []) (l.take a) = (0, .text t [])) (hn : ∀ j, a ≤ j → j < k → l[j]? ≠ some 10) (h10 : l[k]? = some 10) (hak : a ≤ k) (hl : k - a ≤ 200) : bytesF (.text .first []) (l.take (k + 1)) = (((lineT t ((l.drop a).take (k - a))).1 : Int), .text (lineT t ((l.drop a).take (k - a))).2 []) := by
  have e : l.take (k + 1) = l.take a ++ ((l.drop a).take (k - a) ++ [10]) := by
    rw [take_snoc_get h10, ← List.append_assoc]
    congr 1
    have := List.take_add (l := l) (i := a) (j := k - a)
    rw [show a + (k - a) = k by omega] at this
    exact this
  rw [e, bytesF_app0 h, bytesF_lineE (no10 hn) (by rw [List.length_take]; omega)]
def BitsIs (B : Nat) (w : World) (sl : Value) (R C : Nat) (f : Nat → Nat → Nat) : Prop :=
  ∃ ao cap, sl = .slice ao (R * C) cap ∧ (R * C = 0 ∨ ∃ g, ao = some ⟨g, 0, none⟩ ∧ B ≤ g ∧ g < w.heap.size ∧ ∀ i j, i < R → j < C → w.cell? ⟨g, i * C + j, none⟩ = some (.int .u64 (f i j : Int)))
theorem BitsIs.below {B : Nat} {w w' : World} {sl : Value} {R C : Nat} {f : Nat → Nat → Nat} (h : BitsIs B w sl R C f) (b : Below w.heap.size w w') : BitsIs B w' sl R C f := by
  obtain ⟨ao, cap, e, h⟩ := h
  refine ⟨ao, cap, e, h.imp id ?_⟩
  rintro ⟨g, e2, h1, h2, h3⟩
  exact ⟨g, e2, h1, Nat.lt_of_lt_of_le h2 b.size, fun i j hi hj => (b.cell (p := ⟨g, i * C + j, none⟩) h2).trans (h3 i j hi hj)⟩
noncomputable def readR (q : Int × FSt) (ended : Bool) : Int × Option (Nat × Nat × Nat × (Nat → Nat → Nat)) :=
  if q.1 ≠ 0 then (q.1, none) else if ended then (match endF q.2 with | none => (11, none) | some y => (0, some y)) else (0, none)
theorem readR_err {q : Int × FSt} {ended : Bool} {e : Int} (h : q.1 = e) (he : e ≠ 0) : readR q ended = (e, none) := by
  unfold readR; rw [if_pos (by rw [h]; exact he), h]
theorem readR_un {q : Int × FSt} (h : q.1 = 0) : readR q false = (0, none) := by
  unfold readR; rw [if_neg (by rw [h]; simp)]; rfl
theorem readR_none {q : Int × FSt} (h : q.1 = 0) (h2 : endF q.2 = none) : readR q true = (11, none) := by
  unfold readR; rw [if_neg (by rw [h]; simp), if_pos rfl, h2]
theorem readR_some {q : Int × FSt} {y : Nat × Nat × Nat × (Nat → Nat → Nat)} (h : q.1 = 0) (h2 : endF q.2 = some y) : readR q true = (0, some y) := by
  unfold readR; rw [if_neg (by rw [h]; simp), if_pos rfl, h2]
end Go.Proofs.YthdcceackfdbbaaGreatDoor
namespace Go.Proofs.YthdcceackfdbbaaGreatDoor
open Go Go.RowKit
theorem mark_of {l : List UInt8} (h : ∀ i x, i < 6 → l[i]? = some x → (i < 5 → markL[i]? = some x) ∧ (i = 5 → x.toNat ≤ 1)) : markOk l := fun i x hx => by
  by_cases hi : i < 6
  · exact h i x hi hx
  · exact ⟨fun h => by omega, fun h => by omega⟩
theorem box_bad {l : List UInt8} {i : Nat} {x : UInt8} (hx : l[i]? = some x) (hb : (i < 5 ∧ markL[i]? ≠ some x) ∨ (i = 5 ∧ 1 < x.toNat)) : boxE l = 6 := boxE_bad (fun h => by
  have := h i x hx
  rcases hb with ⟨h1, h2⟩ | ⟨h1, h2⟩
  · exact h2 (this.1 h1)
  · have := this.2 h1; omega)
theorem boxE_2 {l : List UInt8} (hm : markOk l) (hl : 14 ≤ l.length) (hs : valL ((l.drop 10).take 4) ≠ sumL (l.take 10)) : boxE l = 12 := by
  unfold boxE; rw [if_neg (fun k => k hm), if_neg (by omega), if_pos hs]
theorem boxE_3 {l : List UInt8} (hm : markOk l) (hl : 14 ≤ l.length) (hs : valL ((l.drop 10).take 4) = sumL (l.take 10)) (h : 40 < rowsB l ∨ 40 < colsB l) : boxE l = 8 := by
  unfold boxE; rw [if_neg (fun k => k hm), if_neg (by omega), if_neg (fun k => k hs), if_pos h]
theorem boxE_4 {l : List UInt8} (h : HeadOk l) (hlt : l.length < 18 + 8 * (rowsB l * colsB l)) : boxE l = 0 := by
  have := h.len; have := h.hR; have := h.hC
  unfold boxE; rw [if_neg (fun k => k h.mark), if_neg (by omega), if_neg (fun k => k h.sum), if_neg (by omega), if_pos hlt]
theorem boxE_5 {l : List UInt8} (h : HeadOk l) (hge : 18 + 8 * (rowsB l * colsB l) ≤ l.length) (hs : valL ((l.drop (14 + 8 * (rowsB l * colsB l))).take 4) ≠ sumL ((l.drop 14).take (8 * (rowsB l * colsB l)))) : boxE l = 12 := by
  have := h.len; have := h.hR; have := h.hC
  unfold boxE; rw [if_neg (fun k => k h.mark), if_neg (by omega), if_neg (fun k => k h.sum), if_neg (by omega), if_neg (by omega), if_pos hs]
theorem boxE_6 {l : List UInt8} (h : HeadOk l) (hge : 18 + 8 * (rowsB l * colsB l) ≤ l.length) (hs : valL ((l.drop (14 + 8 * (rowsB l * colsB l))).take 4) = sumL ((l.drop 14).take (8 * (rowsB l * colsB l)))) {k : Nat} (hk : k < rowsB l * colsB l) (hc : canon (numB l k) ≠ numB l k) : boxE l = 1 := by
  have := h.len; have := h.hR; have := h.hC
  unfold boxE; rw [if_neg (fun k => k h.mark), if_neg (by omega), if_neg (fun k => k h.sum), if_neg (by omega), if_neg (by omega), if_neg (fun k => k hs), if_pos ⟨k, hk, hc⟩]
theorem boxE_7 {l : List UInt8} (h : HeadOk l) (hs : valL ((l.drop (14 + 8 * (rowsB l * colsB l))).take 4) = sumL ((l.drop 14).take (8 * (rowsB l * colsB l)))) (hc : ∀ k, k < rowsB l * colsB l → canon (numB l k) = numB l k) (hge : 18 + 8 * (rowsB l * colsB l) < l.length) : boxE l = 6 := by
  have := h.len; have := h.hR; have := h.hC
  unfold boxE; rw [if_neg (fun k => k h.mark), if_neg (by omega), if_neg (fun k => k h.sum), if_neg (by omega), if_neg (by omega), if_neg (fun k => k hs), if_neg (fun ⟨k, hk, hn⟩ => hn (hc k hk)), if_pos hge]
theorem boxE_8 {l : List UInt8} (h : HeadOk l) (hs : valL ((l.drop (14 + 8 * (rowsB l * colsB l))).take 4) = sumL ((l.drop 14).take (8 * (rowsB l * colsB l)))) (hc : ∀ k, k < rowsB l * colsB l → canon (numB l k) = numB l k) (he : l.length = 18 + 8 * (rowsB l * colsB l)) : boxE l = 0 := by
  have := h.len; have := h.hR; have := h.hC
  unfold boxE; rw [if_neg (fun k => k h.mark), if_neg (by omega), if_neg (fun k => k h.sum), if_neg (by omega), if_neg (by omega), if_neg (fun k => k hs), if_neg (fun ⟨k, hk, hn⟩ => hn (hc k hk)), if_neg (by omega)]
theorem box_readR (l : List UInt8) (ended : Bool) : readR (bytesF (.box []) l) ended = readR (boxE l, .box l) ended := by
  obtain ⟨h1, h2⟩ := box_bytes l
  by_cases h : boxE l = 0
  · rw [h2 h, h]
  · rw [readR_err h1 h, readR_err (q := (boxE l, .box l)) rfl h]
theorem box_err {l : List UInt8} {ended : Bool} {e : Int} (h : boxE l = e) (he : e ≠ 0) : readR (boxE l, .box l) ended = (e, none) := readR_err h he
theorem box_un {l : List UInt8} (h : boxE l = 0) (hn : ¬ wholeB l) (ended : Bool) : readR (boxE l, .box l) ended = ((if ended then 11 else 0 : Int), none) := by
  cases ended
  · rw [readR_un h]; rfl
  · rw [readR_none h (by simp only [endF]; rw [if_neg hn])]; rfl
theorem canon_all {l : List UInt8} (h : ∀ q, q < rowsB l * colsB l → canon (fB l (q / colsB l) (q % colsB l)) = fB l (q / colsB l) (q % colsB l)) : ∀ k, k < rowsB l * colsB l → canon (numB l k) = numB l k := by
  intro k hk
  by_cases h4 : kindB l = 4
  · have hc := h k hk
    unfold fB at hc
    rw [if_pos h4, Nat.mul_comm (k / colsB l), Nat.div_add_mod] at hc
    exact hc
  · have hr0 : 0 < rowsB l := Nat.pos_of_ne_zero (fun e => by rw [e, Nat.zero_mul] at hk; omega)
    have hi : k % rowsB l < rowsB l := Nat.mod_lt _ hr0
    have hj : k / rowsB l < colsB l := Nat.div_lt_of_lt_mul hk
    have hq := idx_lt hi hj
    have hc := h (k % rowsB l * colsB l + k / rowsB l) hq
    have e1 : (k % rowsB l * colsB l + k / rowsB l) / colsB l = k % rowsB l := by
      rw [Nat.mul_comm, Nat.mul_add_div (Nat.lt_of_le_of_lt (Nat.zero_le _) hj), Nat.div_eq_of_lt hj, Nat.add_zero]
    have e2 : (k % rowsB l * colsB l + k / rowsB l) % colsB l = k / rowsB l := by
      rw [Nat.mul_comm, Nat.mul_add_mod, Nat.mod_eq_of_lt hj]
    rw [e1, e2] at hc
    unfold fB at hc
    rw [if_neg h4, Nat.mul_comm (k / rowsB l), Nat.div_add_mod] at hc
    exact hc
theorem numB_lt (l : List UInt8) (k : Nat) : numB l k < 18446744073709551616 := by
  unfold numB
  have h1 := valL_lt ((l.drop (14 + 8 * k)).take 8)
  have h2 : (256 : Nat) ^ ((l.drop (14 + 8 * k)).take 8).length ≤ 256 ^ 8 := Nat.pow_le_pow_right (by omega) (by rw [List.length_take]; omega)
  omega
end Go.Proofs.YthdcceackfdbbaaGreatDoor
