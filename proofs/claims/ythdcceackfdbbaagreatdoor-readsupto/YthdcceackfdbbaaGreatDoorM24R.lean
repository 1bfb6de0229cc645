import Derived.Test.YthdcceackfdbbaaGreatDoorM16R
import Derived.Test.YthdcceackfdbbaaGreatDoorM23R

namespace Go.Proofs.YthdcceackfdbbaaGreatDoor
open Go Go.RowKit
theorem grown_bytes {w w2 : World} {S : Nat → Prop} {n : Nat} {v : Value} {xs : List Value} (hg : w.grownBy w2 v.ownBlock) (hr : RowIn w S 5 1 v n xs) (q : Nat) (o : Obj) (hq : w.heap[q]? = some o) (ho : ∀ c, o ≠ .cells c 5 (0, 0)) : w2.heap[q]? = some o := by
  refine (hg.block q (Array.getElem?_eq_some_iff.1 hq).1 (fun e => ?_)).trans hq
  obtain ⟨_, c, hc⟩ := hr.lt q e.symm
  rw [hc] at hq
  cases hq
  exact ho c rfl
theorem wordsGo_bd : ∀ (l cur : List UInt8), (wordsGo cur l).length ≤ cur.length + l.length ∧ ∀ x ∈ wordsGo cur l, x.length ≤ cur.length + l.length
  | [], cur => by
    rw [wordsGo]
    split
    · exact ⟨by simp, fun x hx => by simp at hx⟩
    · rename_i h
      refine ⟨?_, fun x hx => by simp at hx; rw [hx]; simp⟩
      cases cur with
      | nil => exact (h rfl).elim
      | cons a r => simp
  | b :: r, cur => by
    rw [wordsGo]
    have ih0 := wordsGo_bd r []
    have ih1 := wordsGo_bd r (cur ++ [b])
    simp only [List.length_nil, List.length_append, List.length_cons, Nat.zero_add] at ih0 ih1 ⊢
    split
    · split
      · exact ⟨by omega, fun x hx => by have := ih0.2 x hx; omega⟩
      · rename_i h
        have hc : 1 ≤ cur.length := by
          cases cur with
          | nil => exact (h rfl).elim
          | cons a r => simp
        refine ⟨by simp only [List.length_cons]; omega, fun x hx => ?_⟩
        rcases List.mem_cons.1 hx with rfl | hx
        · omega
        · have := ih0.2 x hx; omega
    · exact ⟨by omega, fun x hx => by have := ih1.2 x hx; omega⟩
theorem wordsL_bd (l : List UInt8) : (wordsL l).length ≤ l.length ∧ ∀ x ∈ wordsL l, x.length ≤ l.length := by
  have := wordsGo_bd l []
  simp only [List.length_nil, Nat.zero_add] at this
  exact this
theorem Value.slice_cut0 {w : World} {S : Nat → Prop} {v : Value} {n : Nat} {xs : List Value} (h : RowIn w S 5 1 v n xs) : (v = .slice none 0 0 ∧ n = 0) ∨ ∃ g cap, v = .slice (some ⟨g, 0, none⟩) n cap ∧ n ≤ cap := by
  obtain ⟨_, ⟨h1, h0⟩ | ⟨g, cap, cur, h1, _, _, h2, _⟩⟩ := h.row
  · exact .inl ⟨h1, h0⟩
  · exact .inr ⟨g, cap, h1, h2⟩
set_option maxRecDepth 20000 in
set_option maxHeartbeats 2000000 in
theorem endLine_any (w : World) (p : Nat) (S : Nat → Prop) (cur : List UInt8) (t : TSt) (hcur : cur.length ≤ 200) (hSb : ∀ q, S q → q < w.heap.size) (h : TextIs w p S cur t) :
    Calls Tryz.prog 274 #[.pointer (some ⟨p, 0, none⟩)] w fun e w' => LineR w p S (lineT t cur) e w' := by
  have hmix : Tryz.prog.follows .mixedOrders = true := by kernel_rfl
  obtain ⟨hS, bytes, rest, ha, hrl, hr⟩ := h.open
  have hcv := row_conv hr
  have c1 := ha.cell (i := 1) rfl
  obtain ⟨ao, cap, rfl, hcap, _⟩ := hr.shape
  have hcut : ∀ V : World, RowIn V S 5 1 (.slice ao cur.length cap) cur.length (u8s cur) → Hid (RowIn V S 5 1 (.slice ao 0 cap) 0 (u8s [])) := fun V h => h.cut0
  have hsh := Value.slice_cut0 hr
  have HA := hid ha
  have HR := hid hr
  have H := hid h
  have hwb := wordsL_bd cur
  have HSP := hid (fun w => split_any w ⟨cur.toArray⟩ (by show cur.toArray.size ≤ _; simp; omega))
  simp only at HSP
  obtain ⟨n, hn⟩ : ∃ n, cur.length = n := ⟨_, rfl⟩
  rw [hn] at c1 hcv hcap hwb hsh hcut hcur
  have HN := hid hn
  have HCUT := hid hcut
  obtain ⟨cm, hcm⟩ : ∃ cm, decide (cur.head? = some 37) = cm := ⟨_, rfl⟩
  rw [hcm] at HSP
  obtain ⟨res, hres⟩ : ∃ res, lineT t cur = res := ⟨_, rfl⟩
  rw [hres]
  have HRES : Hid (res = if wordsL cur = [] then (0, t) else stepT cm (wordsL cur) t) := by show _ = _; rw [← hres, ← hcm]; rfl
  clear ha hr h hn hres hcut hcm
  go_enter Tryz.func274, Tryz.ntmps274
  go_wp2_with fail
  refine (HSP.out w).mono ?_
  rintro e W1 ⟨A, ws, rfl, hws, hline, b1⟩
  clear HSP hcv c1
  have hwl : ws.length = (wordsL cur).length := by rw [← hws, List.length_map]
  have hwn : ws.length ≤ 1000000 := by have := hwb.1; omega
  have hwsz : ∀ x ∈ ws, x.size ≤ 1000000 := fun x hx => by
    have h1 : x.data.toList ∈ wordsL cur := by rw [← hws]; exact List.mem_map_of_mem hx
    have h2 := hwb.2 _ h1
    have h3 : x.size = x.data.toList.length := by rw [Array.length_toList]; rfl
    omega
  have hw0 : wordsL cur = [] ↔ ws.length = 0 := by rw [hwl, List.length_eq_zero_iff]
  have bV : Below w.heap.size w (W1.alloc (.cells #[.slice (some ⟨A, 0, none⟩) ws.length ws.length, .bool cm] 213)) := b1.alloc b1.size _
  have aL : Arr (W1.alloc (.cells #[.slice (some ⟨A, 0, none⟩) ws.length ws.length, .bool cm] 213)) W1.heap.size 213 [.slice (some ⟨A, 0, none⟩) ws.length ws.length, .bool cm] := Arr.newL _ _ _
  have sV : StrsAt (W1.alloc (.cells #[.slice (some ⟨A, 0, none⟩) ws.length ws.length, .bool cm] 213)) (some ⟨A, 0, none⟩) ws := hline.strs.below (Below.refl' _ _)
  obtain ⟨V, hV⟩ : ∃ V, W1.alloc (.cells #[.slice (some ⟨A, 0, none⟩) ws.length ws.length, .bool cm] 213) = V := ⟨_, rfl⟩
  obtain ⟨d, hd⟩ : ∃ d, W1.heap.size = d := ⟨_, rfl⟩
  have hpw := HA.out.lt
  have hpd : p ≠ d := by have := b1.size; omega
  have hAlo : w.heap.size ≤ A := hline.lo
  have hdS : ¬ S d := fun h => by have := hSb d h; have := b1.size; omega
  rw [hV] at bV aL sV
  rw [hd] at aL
  have aP : Arr V p 167 _ := HA.out.belowAll bV
  have c1 := aP.cell (i := 1) rfl
  have f1 := aP.frozen 1
  rw [HN.out] at c1
  have HBV := hid bV
  have HAL := hid aL
  have HSV := hid sV
  have HWS := hid hws
  have HAP := hid aP
  have HWSZ := hid hwsz
  have HW0 := hid hw0
  have HWL := hid hwl
  clear bV aL sV hws hline b1 aP hwsz hw0 hwl hwb
  unfold lineV
  obtain ⟨nw, hnw⟩ : ∃ nw, ws.length = nw := ⟨_, rfl⟩
  rw [hnw] at HAL HW0 HWL hwn hV ⊢
  have HNW := hid hnw
  clear hnw
  -- the bytes of the line are let go
  have hreset : Hid (TextIs (V.setCell ⟨p, 1, none⟩ (.slice ao 0 cap)) p S [] t) :=
    (H.out.below HBV.out).setBytes (fun q h => h) (fun q o _ hq _ => hq) (HCUT.out V (by have := HR.out.below HBV.out; rw [HN.out] at this; exact this)).out
  have hkr : Hid (Kept S w (V.setCell ⟨p, 1, none⟩ (.slice ao 0 cap))) := (Kept.ofBelow HBV.out).trans (Kept.set (S := S) hS _) (fun q h => .inl h)
  have alr : Hid (Arr (V.setCell ⟨p, 1, none⟩ (.slice ao 0 cap)) d 213 [.slice (some ⟨A, 0, none⟩) nw nw, .bool cm]) := HAL.out.other _ (Ne.symm hpd)
  have svr : Hid (StrsAt (V.setCell ⟨p, 1, none⟩ (.slice ao 0 cap)) (some ⟨A, 0, none⟩) ws) := fun k x hk => by
    obtain ⟨g, off, h1, h2, h3⟩ := HSV.out k x hk
    cases h1
    refine ⟨_, _, rfl, by simpa [World.setCell] using h2, ?_⟩
    have hne : A ≠ p := by omega
    exact (World.cell?_of_block (w := V) (Below.heap_setCell _ _ _ _ hne)).trans h3
  have l0 := alr.out.cell (i := 0) rfl
  have hcap0 : 0 ≤ cap := Nat.zero_le _
  rcases hsh with ⟨he, hn0⟩ | ⟨g, cap', he, hnc⟩
  · obtain ⟨rfl, _, rfl⟩ : ao = none ∧ n = 0 ∧ cap = 0 := by simpa using he
    subst hn0
    clear he
    by_cases hz : nw = 0
    · have hr0 : res = (0, t) := by rw [HRES.out, if_pos (HW0.out.2 hz)]
      have hfin : Hid (LineR w p S res (.returned (.int .i64 0)) (V.setCell ⟨p, 1, none⟩ (.slice none 0 0))) := by
        rw [hr0]; exact ⟨rfl, hkr.out, fun _ => hreset.out.mono (fun q h => .inl h)⟩
      have hz2 : (nw : Int) = 0 := by omega
      clear hz
      go_wp2
      go_ret
      exact hfin.out
    · have hr1 : res = stepT cm (ws.map (·.data.toList)) t := by rw [HRES.out, if_neg (fun h => hz (HW0.out.1 h)), HWS.out]
      have hz' : ((nw : Int) == 0) = false := by simp; omega
      have hz2 : ¬ (nw : Int) = 0 := by omega
      go_wp2_with fail
      clear l0 c1 f1
      generalize V.setCell ⟨p, 1, none⟩ (.slice none 0 0) = V2 at *
      refine wp_region_held (S := fun W' => Arr W' d 213 [.slice (some ⟨A, 0, none⟩) nw nw, .bool cm]) hmix ?_
      change wpAnyH _ _ _ _ _ _ _ _ V2.drew
      have hSS : Arr V2.drew d 213 [.slice (some ⟨A, 0, none⟩) nw nw, .bool cm] := alr.out.drew
      have htx : TextIs V2.drew p S [] t := hreset.out.frame (fun _ _ => rfl) (Nat.le_refl _)
      have hst2 : StrsAt V2.drew (some ⟨A, 0, none⟩) ws := svr.out
      have hkw : Kept S w V2.drew := hkr.out.trans (Kept.drewN (S := S) 1) (fun q h => .inl h)
      clear hreset alr svr hkr
      generalize V2.drew = Vd at *
      obtain ⟨_, by2, rest2, aX, _, _⟩ := htx.open
      have x0 := aX.cell (i := 0) rfl
      have hstep := step_any Vd p S t A nw ws cm HNW.out hwn HWSZ.out hst2 htx
      have hen := step_enters t
      rw [← hr1] at hstep
      unfold lineV at hstep
      unfold stV at x0
      have hcall : Hid (Calls Tryz.prog (tF t) #[.pointer (some ⟨p, 0, none⟩), .agg #[.slice (some ⟨A, 0, none⟩) nw nw, .bool cm]] Vd fun e w' => StepT Vd p S res e w') := hstep
      clear hstep htx hst2 aX hr1
      generalize tF t = F at *
      refine wpAnyH_take (i := 0) (v := .pointer (some ⟨p, 0, none⟩)) rfl (by kernel_rfl) (by kernel_rfl) (by kernel_rfl) (fun _ _ _ h => h) (Or.inl ⟨by rfl, fun W' hS => ?_⟩) hSS ?_
      · clear hS
        go_simp
      simp only [Act.put]
      refine wpAnyH_take (i := 1) (v := .pointer (some ⟨p, 0, none⟩)) rfl (by kernel_rfl) (by kernel_rfl) (by kernel_rfl) (fun _ _ _ h => h) (Or.inl ⟨by rfl, fun W' hS => ?_⟩) hSS ?_
      · clear hS
        go_simp
      simp only [Act.put]
      refine wpAnyH_take (i := 2) (v := .pointer (some ⟨p, 0, none⟩)) rfl (by kernel_rfl) (by kernel_rfl) (by kernel_rfl) (fun _ _ _ h => h) (Or.inl ⟨by rfl, fun W' hS => ?_⟩) hSS ?_
      · clear hS
        go_simp
      simp only [Act.put]
      refine wpAnyH_take (i := 4) (v := .agg #[.slice (some ⟨A, 0, none⟩) nw nw, .bool cm]) rfl (by kernel_rfl) (by kernel_rfl) (by kernel_rfl) (fun _ _ _ h => h) (Or.inl ⟨by rfl, fun W' hS => ?_⟩) hSS ?_
      · have q0 := hS.cell (i := 0) rfl
        have q1 := hS.cell (i := 1) rfl
        clear hS
        go_simp
      simp only [Act.put]
      refine wpAnyH_ready (rs := [3]) (by kernel_rfl) (by simp) ?_
      refine AllReadyH.cons rfl (fun K hKK => ?_) AllReadyH.nil
      go_simp
      refine hKK.out _ _ hSS (fun hHeld => ?_)
      clear hKK hHeld x0
      refine wpAnyH_ready (rs := [5]) (by kernel_rfl) (by simp) ?_
      refine AllReadyH.cons rfl (fun K hKK => ?_) AllReadyH.nil
      go_simp
      refine hcall.out.mono ?_
      rintro e W3 ⟨st, rfl, hst, hk3, ⟨c3, ac3, hc3⟩, htx3⟩
      have hSS3 : Arr W3 d 213 [.slice (some ⟨A, 0, none⟩) nw nw, .bool cm] := hk3.arr hSS hdS
      refine hKK.out _ _ hSS3 (fun hHeld => ?_)
      clear hKK hHeld hcall
      obtain ⟨y, hy⟩ : ∃ y, c3[0]? = some y := ⟨c3[0]'(by omega), by simp⟩
      have z0 := ac3.cell hy
      have zf := ac3.frozen 0
      have hfin : Hid (LineR w p S res (.returned (.int .i64 (res.1 : Int))) (W3.setCell ⟨p, 0, none⟩ st)) := by
        refine ⟨rfl, (hkw.trans hk3 (fun q h => .inl h)).trans (Kept.set (S := S) hS _) (fun q h => .inl h), fun h0 => (htx3 h0).mono (fun q hq => hq.imp id (fun h => ⟨Nat.le_trans hkw.size h.1, by simpa [World.setCell] using h.2⟩))⟩
      clear hk3 htx3 ac3 hc3 hSS hkw
      generalize res.1 = er at *
      refine wpAnyH_take (i := 6) (v := .tuple #[st, .int .i64 (er : Int)]) rfl (by kernel_rfl) (by kernel_rfl) (by kernel_rfl) (fun _ _ _ h => h) (Or.inl ⟨by rfl, fun W' hS => ?_⟩) hSS3 ?_
      · clear hS
        go_simp
      simp only [Act.put]
      refine wpAnyH_take (i := 7) (v := st) rfl (by kernel_rfl) (by kernel_rfl) (by kernel_rfl) (fun _ _ _ h => h) (Or.inl ⟨by rfl, fun W' hS => ?_⟩) hSS3 ?_
      · clear hS
        go_simp
      simp only [Act.put]
      refine wpAnyH_take (i := 8) (v := .int .i64 (er : Int)) rfl (by kernel_rfl) (by kernel_rfl) (by kernel_rfl) (fun _ _ _ h => h) (Or.inl ⟨by rfl, fun W' hS => ?_⟩) hSS3 ?_
      · clear hS
        go_simp
      simp only [Act.put]
      refine wpAnyH_take (i := 9) (v := st) rfl (by kernel_rfl) (by kernel_rfl) (by kernel_rfl) (fun _ _ _ h => h) (Or.inl ⟨by rfl, fun W' hS => ?_⟩) hSS3 ?_
      · clear hS
        go_simp
      simp only [Act.put]
      refine wpAnyH_take (i := 10) (v := .int .i64 (er : Int)) rfl (by kernel_rfl) (by kernel_rfl) (by kernel_rfl) (fun _ _ _ h => h) (Or.inl ⟨by rfl, fun W' hS => ?_⟩) hSS3 ?_
      · clear hS
        go_simp
      simp only [Act.put, List.getElem_toArray, List.getElem_cons_succ, List.getElem_cons_zero, List.setIfInBounds_toArray, List.set_cons_succ, List.set_cons_zero]
      refine wpAnyH_done (by kernel_rfl) ?_ _
      obtain ⟨F', a', b', rfl | rfl⟩ := hst
      · go_wp2
        go_ret
        exact hfin.out
      · go_wp2
        go_ret
        exact hfin.out
  · cases he
    by_cases hz : nw = 0
    · have hr0 : res = (0, t) := by rw [HRES.out, if_pos (HW0.out.2 hz)]
      have hfin : Hid (LineR w p S res (.returned (.int .i64 0)) (V.setCell ⟨p, 1, none⟩ (.slice (some ⟨g, 0, none⟩) 0 cap))) := by
        rw [hr0]; exact ⟨rfl, hkr.out, fun _ => hreset.out.mono (fun q h => .inl h)⟩
      have hz2 : (nw : Int) = 0 := by omega
      clear hz
      go_wp2
      go_ret
      exact hfin.out
    · have hr1 : res = stepT cm (ws.map (·.data.toList)) t := by rw [HRES.out, if_neg (fun h => hz (HW0.out.1 h)), HWS.out]
      have hz' : ((nw : Int) == 0) = false := by simp; omega
      have hz2 : ¬ (nw : Int) = 0 := by omega
      go_wp2_with fail
      clear l0 c1 f1
      generalize V.setCell ⟨p, 1, none⟩ (.slice (some ⟨g, 0, none⟩) 0 cap) = V2 at *
      refine wp_region_held (S := fun W' => Arr W' d 213 [.slice (some ⟨A, 0, none⟩) nw nw, .bool cm]) hmix ?_
      change wpAnyH _ _ _ _ _ _ _ _ V2.drew
      have hSS : Arr V2.drew d 213 [.slice (some ⟨A, 0, none⟩) nw nw, .bool cm] := alr.out.drew
      have htx : TextIs V2.drew p S [] t := hreset.out.frame (fun _ _ => rfl) (Nat.le_refl _)
      have hst2 : StrsAt V2.drew (some ⟨A, 0, none⟩) ws := svr.out
      have hkw : Kept S w V2.drew := hkr.out.trans (Kept.drewN (S := S) 1) (fun q h => .inl h)
      clear hreset alr svr hkr
      generalize V2.drew = Vd at *
      obtain ⟨_, by2, rest2, aX, _, _⟩ := htx.open
      have x0 := aX.cell (i := 0) rfl
      have hstep := step_any Vd p S t A nw ws cm HNW.out hwn HWSZ.out hst2 htx
      have hen := step_enters t
      rw [← hr1] at hstep
      unfold lineV at hstep
      unfold stV at x0
      have hcall : Hid (Calls Tryz.prog (tF t) #[.pointer (some ⟨p, 0, none⟩), .agg #[.slice (some ⟨A, 0, none⟩) nw nw, .bool cm]] Vd fun e w' => StepT Vd p S res e w') := hstep
      clear hstep htx hst2 aX hr1
      generalize tF t = F at *
      refine wpAnyH_take (i := 0) (v := .pointer (some ⟨p, 0, none⟩)) rfl (by kernel_rfl) (by kernel_rfl) (by kernel_rfl) (fun _ _ _ h => h) (Or.inl ⟨by rfl, fun W' hS => ?_⟩) hSS ?_
      · clear hS
        go_simp
      simp only [Act.put]
      refine wpAnyH_take (i := 1) (v := .pointer (some ⟨p, 0, none⟩)) rfl (by kernel_rfl) (by kernel_rfl) (by kernel_rfl) (fun _ _ _ h => h) (Or.inl ⟨by rfl, fun W' hS => ?_⟩) hSS ?_
      · clear hS
        go_simp
      simp only [Act.put]
      refine wpAnyH_take (i := 2) (v := .pointer (some ⟨p, 0, none⟩)) rfl (by kernel_rfl) (by kernel_rfl) (by kernel_rfl) (fun _ _ _ h => h) (Or.inl ⟨by rfl, fun W' hS => ?_⟩) hSS ?_
      · clear hS
        go_simp
      simp only [Act.put]
      refine wpAnyH_take (i := 4) (v := .agg #[.slice (some ⟨A, 0, none⟩) nw nw, .bool cm]) rfl (by kernel_rfl) (by kernel_rfl) (by kernel_rfl) (fun _ _ _ h => h) (Or.inl ⟨by rfl, fun W' hS => ?_⟩) hSS ?_
      · have q0 := hS.cell (i := 0) rfl
        have q1 := hS.cell (i := 1) rfl
        clear hS
        go_simp
      simp only [Act.put]
      refine wpAnyH_ready (rs := [3]) (by kernel_rfl) (by simp) ?_
      refine AllReadyH.cons rfl (fun K hKK => ?_) AllReadyH.nil
      go_simp
      refine hKK.out _ _ hSS (fun hHeld => ?_)
      clear hKK hHeld x0
      refine wpAnyH_ready (rs := [5]) (by kernel_rfl) (by simp) ?_
      refine AllReadyH.cons rfl (fun K hKK => ?_) AllReadyH.nil
      go_simp
      refine hcall.out.mono ?_
      rintro e W3 ⟨st, rfl, hst, hk3, ⟨c3, ac3, hc3⟩, htx3⟩
      have hSS3 : Arr W3 d 213 [.slice (some ⟨A, 0, none⟩) nw nw, .bool cm] := hk3.arr hSS hdS
      refine hKK.out _ _ hSS3 (fun hHeld => ?_)
      clear hKK hHeld hcall
      obtain ⟨y, hy⟩ : ∃ y, c3[0]? = some y := ⟨c3[0]'(by omega), by simp⟩
      have z0 := ac3.cell hy
      have zf := ac3.frozen 0
      have hfin : Hid (LineR w p S res (.returned (.int .i64 (res.1 : Int))) (W3.setCell ⟨p, 0, none⟩ st)) := by
        refine ⟨rfl, (hkw.trans hk3 (fun q h => .inl h)).trans (Kept.set (S := S) hS _) (fun q h => .inl h), fun h0 => (htx3 h0).mono (fun q hq => hq.imp id (fun h => ⟨Nat.le_trans hkw.size h.1, by simpa [World.setCell] using h.2⟩))⟩
      clear hk3 htx3 ac3 hc3 hSS hkw
      generalize res.1 = er at *
      refine wpAnyH_take (i := 6) (v := .tuple #[st, .int .i64 (er : Int)]) rfl (by kernel_rfl) (by kernel_rfl) (by kernel_rfl) (fun _ _ _ h => h) (Or.inl ⟨by rfl, fun W' hS => ?_⟩) hSS3 ?_
      · clear hS
        go_simp
      simp only [Act.put]
      refine wpAnyH_take (i := 7) (v := st) rfl (by kernel_rfl) (by kernel_rfl) (by kernel_rfl) (fun _ _ _ h => h) (Or.inl ⟨by rfl, fun W' hS => ?_⟩) hSS3 ?_
      · clear hS
        go_simp
      simp only [Act.put]
      refine wpAnyH_take (i := 8) (v := .int .i64 (er : Int)) rfl (by kernel_rfl) (by kernel_rfl) (by kernel_rfl) (fun _ _ _ h => h) (Or.inl ⟨by rfl, fun W' hS => ?_⟩) hSS3 ?_
      · clear hS
        go_simp
      simp only [Act.put]
      refine wpAnyH_take (i := 9) (v := st) rfl (by kernel_rfl) (by kernel_rfl) (by kernel_rfl) (fun _ _ _ h => h) (Or.inl ⟨by rfl, fun W' hS => ?_⟩) hSS3 ?_
      · clear hS
        go_simp
      simp only [Act.put]
      refine wpAnyH_take (i := 10) (v := .int .i64 (er : Int)) rfl (by kernel_rfl) (by kernel_rfl) (by kernel_rfl) (fun _ _ _ h => h) (Or.inl ⟨by rfl, fun W' hS => ?_⟩) hSS3 ?_
      · clear hS
        go_simp
      simp only [Act.put, List.getElem_toArray, List.getElem_cons_succ, List.getElem_cons_zero, List.setIfInBounds_toArray, List.set_cons_succ, List.set_cons_zero]
      refine wpAnyH_done (by kernel_rfl) ?_ _
      obtain ⟨F', a', b', rfl | rfl⟩ := hst
      · go_wp2
        go_ret
        exact hfin.out
      · go_wp2
        go_ret
        exact hfin.out
end Go.Proofs.YthdcceackfdbbaaGreatDoor
namespace Go.Proofs.YthdcceackfdbbaaGreatDoor
open Go Go.RowKit
theorem strs_own {w : World} {B : Nat} {v : Value} {ws : List ByteArray} {n : Nat} (hn : ws.length = n) (h : w.ownsRow B 9 1 v n (strL ws)) : ∃ vo cap, v = .slice vo n cap ∧ n ≤ cap ∧ StrsAt w vo ws := by
  have h0 := h
  rcases h.2 with ⟨e, h3⟩ | ⟨g, cap, cur, e, _, _, hc, _⟩
  · subst h3
    refine ⟨none, 0, e, Nat.le_refl _, fun k x hk => ?_⟩
    obtain rfl : ws = [] := List.eq_nil_of_length_eq_zero hn
    simp at hk
  · subst e
    refine ⟨_, cap, rfl, hc, fun k x hk => ?_⟩
    have hkl : k < ws.length := (List.getElem?_eq_some_iff.1 hk).1
    have h4 := h0.cellAt k (by omega)
    have h5 : (strL ws)[k]? = some (.string x) := by simp [strL, hk]
    rw [h5] at h4
    exact ⟨g, 0, rfl, cell_lt h4, by rw [Nat.zero_add]; exact h4⟩
theorem LineQ.from {B p : Nat} {w W1 w' : World} {r : Nat × TSt} {e : Ending} (b : Below B w W1) (h : LineQ B W1 p r e w') : LineQ B w p r e w' := ⟨h.1, b.trans h.2.1, h.2.2⟩
set_option maxRecDepth 20000 in
set_option maxHeartbeats 2000000 in
theorem rline_1 (w : World) (p B k : Nat) (x : ByteArray) (hx : x.size ≤ 1000000) (h : TxtIs B w p (.sizes k)) (hB : B ≤ p) :
    Calls Tryz.prog 84 #[.pointer (some ⟨p, 0, none⟩), .string x] w fun e w' => LineQ B w p (lineT (.sizes k) x.data.toList) e w' := by
  have HWD := hid (rwords_any w x x.size rfl (by omega))
  have HT := hid h
  have hpl : p < w.heap.size := h.2.lt
  obtain ⟨res, hres⟩ : ∃ res, lineT (.sizes k) x.data.toList = res := ⟨_, rfl⟩
  rw [hres]
  have HRES := hid hres
  clear hres h
  go_enter Tryz.func84, Tryz.ntmps84
  go_wp2_with fail
  refine HWD.out.mono ?_
  rintro e W1 ⟨⟨v, ws, rfl, hws, hown⟩, b1⟩
  clear HWD
  have HT1 := hid (HT.out.belowAll b1)
  have HB1 : Hid (Below B w W1) := b1.mono (by omega)
  have hp1 := HT1.out.2.cell (i := 1) rfl
  obtain ⟨n, hn⟩ : ∃ n, ws.length = n := ⟨_, rfl⟩
  rw [hn] at hown
  obtain ⟨vo, cap, rfl, hcap, hsa⟩ := strs_own hn hown
  have HSA := hid hsa
  have HWS := hid hws
  have hsz : ∀ y ∈ ws, y.size ≤ 1000000 := fun y hy => by
    have h1 := words_len (l := x.data.toList) (x := y.data.toList) (by rw [← hws]; exact List.mem_map_of_mem hy)
    have h2 := bytes_size (s := x) rfl
    have h3 := bytes_size (s := y) rfl
    omega
  have HSZ := hid hsz
  have hnx : n ≤ x.size := by
    have h1 := (wordsL_bd x.data.toList).1
    rw [← hws, List.length_map] at h1
    have h2 := bytes_size (s := x) rfl
    omega
  have hd : ∀ h : 0 < x.size, x.data.toList.head? = some x[0] := fun h => by
    rw [List.head?_eq_getElem?]
    have h2 := bytes_size (s := x) rfl
    rw [List.getElem?_eq_getElem (by omega)]
    rfl
  have HHD := hid hd
  have none0 : n = 0 → Hid (res = (0, .sizes k)) := fun h0 => by
    show _ = _
    have : ws = [] := List.eq_nil_of_length_eq_zero (hn.trans h0)
    rw [← HRES.out]; unfold lineT
    rw [if_pos (by rw [← HWS.out, this]; rfl)]
  clear hws hown hsa b1 HT hsz hd
  by_cases hx0 : 0 < x.size
  · by_cases h37 : (x[0].toNat : Int) = 37
    · obtain rfl : res = (0, .sizes k) := by
        have h5 : x[0] = 37 := UInt8.toNat_inj.1 (by have : x[0].toNat = 37 := by omega
                                                     rw [this]; rfl)
        have h6 : x.data.toList.head? = some 37 := by rw [HHD.out hx0, h5]
        rw [← HRES.out]; unfold lineT
        by_cases e : wordsL x.data.toList = []
        · rw [if_pos e]
        · rw [if_neg e, h6]; simp [stepT, sizesT]
      clear HRES none0
      go_wp2_with fail
      go_ret
      exact ⟨rfl, HB1.out, fun _ => HT1.out⟩
    · have h37' : ((x[0].toNat : Int) == 37) = false := by simpa using h37
      by_cases hn0 : n = 0
      · obtain rfl := (none0 hn0).out
        clear HRES none0
        have hn0' : ((n : Int) == 0) = true := by simpa using hn0
        go_wp2_with fail
        go_ret
        exact ⟨rfl, HB1.out, fun _ => HT1.out⟩
      · have hn0' : ((n : Int) == 0) = false := by rw [beq_eq_false_iff_ne]; omega
        have hr : sizesT k false (ws.map (·.data.toList)) = res := by
          have h6 : x.data.toList.head? ≠ some 37 := fun e => by
            rw [HHD.out hx0] at e
            injection e with e
            exact h37 (by rw [e]; rfl)
          rw [← HRES.out]; unfold lineT
          rw [if_neg (fun e => by
            rw [← HWS.out] at e
            have := List.map_eq_nil_iff.1 e
            subst this
            simp at hn; omega), decide_eq_false h6, HWS.out]
          rfl
        have HQ := hid (rsizes_any W1 p B vo n cap k ws hn (by omega) HSZ.out HSA.out HT1.out hB)
        rw [hr] at HQ
        clear hr
        clear HRES none0
        go_wp2_with fail
        refine HQ.out.mono ?_
        rintro e W2 hq
        have HQ2 := hid (LineQ.from HB1.out hq)
        obtain rfl := hq.1
        clear hq HQ
        go_wp2
        go_ret
        exact HQ2.out
  · obtain rfl : n = 0 := by omega
    obtain rfl := (none0 rfl).out
    clear HRES none0
    go_wp2_with fail
    go_ret
    exact ⟨rfl, HB1.out, fun _ => HT1.out⟩
set_option maxRecDepth 20000 in
set_option maxHeartbeats 2000000 in
theorem rline_2 (w : World) (p B k R C left : Nat) (free : List (Nat × Nat)) (f : Nat → Nat → Nat) (x : ByteArray) (hx : x.size ≤ 1000000) (h : TxtIs B w p (.ent k R C left free f)) (hB : B ≤ p) :
    Calls Tryz.prog 84 #[.pointer (some ⟨p, 0, none⟩), .string x] w fun e w' => LineQ B w p (lineT (.ent k R C left free f) x.data.toList) e w' := by
  have HWD := hid (rwords_any w x x.size rfl (by omega))
  have HT := hid h
  have hpl : p < w.heap.size := by
    obtain ⟨_, _, _, _, had, g, hb, bl, aP, _⟩ := h
    exact aP.lt
  obtain ⟨res, hres⟩ : ∃ res, lineT (.ent k R C left free f) x.data.toList = res := ⟨_, rfl⟩
  rw [hres]
  have HRES := hid hres
  clear hres h
  go_enter Tryz.func84, Tryz.ntmps84
  go_wp2_with fail
  refine HWD.out.mono ?_
  rintro e W1 ⟨⟨v, ws, rfl, hws, hown⟩, b1⟩
  clear HWD
  have HT1 := hid (HT.out.belowAll b1)
  have HB1 : Hid (Below B w W1) := b1.mono (by omega)
  have hp1 : W1.cell? ⟨p, 1, none⟩ = some (.bool true) := by
    obtain ⟨_, _, _, _, had, g, hb, bl, aP, _⟩ := HT1.out
    exact aP.cell (i := 1) rfl
  obtain ⟨n, hn⟩ : ∃ n, ws.length = n := ⟨_, rfl⟩
  rw [hn] at hown
  obtain ⟨vo, cap, rfl, hcap, hsa⟩ := strs_own hn hown
  have HSA := hid hsa
  have HWS := hid hws
  have hsz : ∀ y ∈ ws, y.size ≤ 1000000 := fun y hy => by
    have h1 := words_len (l := x.data.toList) (x := y.data.toList) (by rw [← hws]; exact List.mem_map_of_mem hy)
    have h2 := bytes_size (s := x) rfl
    have h3 := bytes_size (s := y) rfl
    omega
  have HSZ := hid hsz
  have hnx : n ≤ x.size := by
    have h1 := (wordsL_bd x.data.toList).1
    rw [← hws, List.length_map] at h1
    have h2 := bytes_size (s := x) rfl
    omega
  have hd : ∀ h : 0 < x.size, x.data.toList.head? = some x[0] := fun h => by
    rw [List.head?_eq_getElem?]
    have h2 := bytes_size (s := x) rfl
    rw [List.getElem?_eq_getElem (by omega)]
    rfl
  have HHD := hid hd
  have none0 : n = 0 → Hid (res = (0, .ent k R C left free f)) := fun h0 => by
    show _ = _
    have : ws = [] := List.eq_nil_of_length_eq_zero (hn.trans h0)
    rw [← HRES.out]; unfold lineT
    rw [if_pos (by rw [← HWS.out, this]; rfl)]
  clear hws hown hsa b1 HT hsz hd
  by_cases hx0 : 0 < x.size
  · by_cases h37 : (x[0].toNat : Int) = 37
    · by_cases hn0 : n = 0
      · obtain rfl := (none0 hn0).out
        clear HRES none0
        have hn0' : ((n : Int) == 0) = true := by simpa using hn0
        go_wp2_with fail
        go_ret
        exact ⟨rfl, HB1.out, fun _ => HT1.out⟩
      · have hn0' : ((n : Int) == 0) = false := by rw [beq_eq_false_iff_ne]; omega
        obtain rfl : res = (6, .first) := by
          have h5 : x[0] = 37 := UInt8.toNat_inj.1 (by have : x[0].toNat = 37 := by omega
                                                       rw [this]; rfl)
          have h6 : x.data.toList.head? = some 37 := by rw [HHD.out hx0, h5]
          rw [← HRES.out]; unfold lineT
          rw [if_neg (fun e => by
            rw [← HWS.out] at e
            have := List.map_eq_nil_iff.1 e
            subst this
            simp at hn; omega), decide_eq_true h6]
          simp [stepT, cooE, arrE]
        clear HRES none0
        go_wp2_with fail
        go_ret
        exact ⟨rfl, HB1.out, fun h => by cases h⟩
    · have h37' : ((x[0].toNat : Int) == 37) = false := by simpa using h37
      by_cases hn0 : n = 0
      · obtain rfl := (none0 hn0).out
        clear HRES none0
        have hn0' : ((n : Int) == 0) = true := by simpa using hn0
        go_wp2_with fail
        go_ret
        exact ⟨rfl, HB1.out, fun _ => HT1.out⟩
      · have hn0' : ((n : Int) == 0) = false := by rw [beq_eq_false_iff_ne]; omega
        have hr : stepT false (ws.map (·.data.toList)) (.ent k R C left free f) = res := by
          have h6 : x.data.toList.head? ≠ some 37 := fun e => by
            rw [HHD.out hx0] at e
            injection e with e
            exact h37 (by rw [e]; rfl)
          rw [← HRES.out]; unfold lineT
          rw [if_neg (fun e => by
            rw [← HWS.out] at e
            have := List.map_eq_nil_iff.1 e
            subst this
            simp at hn; omega), decide_eq_false h6, HWS.out]
        have HQ := hid (rentry_any W1 p B vo n cap k ws hn (by omega) hcap HSZ.out HSA.out R C left free f HT1.out hB)
        rw [hr] at HQ
        clear hr
        clear HRES none0
        go_wp2_with fail
        refine HQ.out.mono ?_
        rintro e W2 hq
        have HQ2 := hid (LineQ.from HB1.out hq)
        obtain rfl := hq.1
        clear hq HQ
        go_wp2
        go_ret
        exact HQ2.out
  · obtain rfl : n = 0 := by omega
    obtain rfl := (none0 rfl).out
    clear HRES none0
    go_wp2_with fail
    go_ret
    exact ⟨rfl, HB1.out, fun _ => HT1.out⟩
end Go.Proofs.YthdcceackfdbbaaGreatDoor
namespace Go.Proofs.YthdcceackfdbbaaGreatDoor
open Go Go.RowKit
def takeT (t : TSt) (cur : List UInt8) (b : UInt8) : Nat × TSt × List UInt8 :=
  if b = 10 then ((lineT t cur).1, (lineT t cur).2, []) else if cur.length = 200 then (7, t, cur) else (0, t, cur ++ [b])
def TakeR (w : World) (p : Nat) (S : Nat → Prop) (r : Nat × TSt × List UInt8) (e : Ending) (w' : World) : Prop :=
  e = .returned (.int .i64 (r.1 : Int)) ∧ Kept S w w' ∧ (r.1 = 0 → TextIs w' p (plus S w w') r.2.2 r.2.1)
set_option maxRecDepth 20000 in
set_option maxHeartbeats 2000000 in
theorem takeT_any (w : World) (p : Nat) (S : Nat → Prop) (cur : List UInt8) (t : TSt) (b : UInt8) (hcur : cur.length ≤ 200) (hSb : ∀ q, S q → q < w.heap.size) (h : TextIs w p S cur t) :
    Calls Tryz.prog 273 #[.pointer (some ⟨p, 0, none⟩), .int .u8 (b.toNat : Int)] w fun e w' => TakeR w p S (takeT t cur b) e w' := by
  obtain ⟨i0, hi, hz0, hz1, hz2⟩ := info_parts Tryz.infoU8
  by_cases h10 : b = 10
  · subst h10
    have hl := endLine_any w p S cur t hcur hSb h
    have hT : takeT t cur 10 = ((lineT t cur).1, (lineT t cur).2, []) := by unfold takeT; rw [if_pos rfl]
    rw [hT]
    have HL := hid hl
    clear hl hT h
    obtain ⟨er, her⟩ : ∃ er, (lineT t cur).1 = er := ⟨_, rfl⟩
    have HR : Hid (∀ e w', LineR w p S (lineT t cur) e w' → e = .returned (.int .i64 (er : Int)) ∧ TakeR w p S ((lineT t cur).1, (lineT t cur).2, []) (.returned (.int .i64 (er : Int))) w') := fun e w' h => ⟨by rw [h.1, her], by rw [her], h.2.1, h.2.2⟩
    clear her
    go_enter Tryz.func273, Tryz.ntmps273
    go_wp2_with fail
    refine HL.out.mono ?_
    rintro e W1 hres
    obtain ⟨rfl, hfin⟩ := HR.out _ _ hres
    have HF := hid hfin
    clear hres hfin HL HR
    go_wp2
    go_ret
    exact HF.out
  · have hb8 := b.toNat_lt
    have hne : ((b.toNat : Int) == 10) = false := by
      simp; intro e; exact h10 (UInt8.toNat_inj.1 (by simpa using (by omega : b.toNat = 10)))
    have hne2 : ¬ (b.toNat : Int) = 10 := by simpa using hne
    clear hne
    obtain ⟨hS, bytes, rest, ha, hrl, hr⟩ := h.open
    have c1 := ha.cell (i := 1) rfl
    obtain ⟨ao, cap, rfl, hcap, _⟩ := hr.shape
    obtain ⟨n, hn⟩ : ∃ n, cur.length = n := ⟨_, rfl⟩
    rw [hn] at c1 hcap hcur hr
    have HN := hid hn
    by_cases h200 : n = 200
    · have hT : takeT t cur b = (7, t, cur) := by unfold takeT; rw [if_neg h10, if_pos (by rw [hn]; exact h200)]
      rw [hT]
      have h2 : (n : Int) = 200 := by omega
      clear h200 hT hn ha hr h
      go_enter Tryz.func273, Tryz.ntmps273
      go_wp2
      go_ret
      exact ⟨rfl, Kept.refl _ _, fun h => by simp at h⟩
    · have hT : takeT t cur b = (0, t, cur ++ [b]) := by unfold takeT; rw [if_neg h10, if_neg (by rw [hn]; exact h200)]
      rw [hT]
      have h2 : ¬ (n : Int) = 200 := by omega
      have HI := hid hi
      have HA := hid ha
      have HR := hid hr
      have H := hid h
      rw [hn] at HA
      have k1 : ∀ o, (w.alloc o).cell? ⟨p, 1, none⟩ = some (.slice ao n cap) := fun o => (HA.out.alloc o).cell (i := 1) rfl
      clear h200 hT hn ha hr h hi
      go_enter Tryz.func273, Tryz.ntmps273
      go_wp2_with (at_builtin; refine wpList_append_mine _ rfl _ _ 72 rfl S 5 i0 (.int .u8 0) 1 1 Tryz.underlying72 HI.out hz0 hz1 hz2 rfl (by decide) _ _ _ rfl (HR.out.below (Below.refl' _ _)) ⟨w.heap.size, 0, none⟩ 1 1 [.int .u8 (b.toNat : Int)] rfl rfl ?c1 ?c2 ?c3 ?c4 ?_)
      case c1 => exact cell_one_new _ _ _
      case c2 => intro u hu; simp at hu; subst hu; rfl
      case c3 => unfold maxLen; omega
      case c4 => omega
      · intro v' w2 hrow hgrow
        have a1 := HA.out.alloc (.cells #[.int .u8 (b.toNat : Int)] 5)
        have a2 : Arr w2 p 167 _ := grown_arr hgrow (HR.out.below (Below.refl' _ _)) a1 (by decide)
        have kw : Kept S w w2 := (Kept.ofBelow (Below.refl' w _)).trans (Kept.grown hgrow (fun k hk => HR.out.own k hk)) (fun q h => .inl h)
        have d1 := a2.cell (i := 1) rfl
        have f1 := a2.frozen 1
        have hrow2 : RowIn w2 (fun q => S q ∨ w.heap.size + 1 ≤ q) 5 1 v' (n + 1) (u8s (cur ++ [b])) := by
          rw [u8s_snoc]; simpa using hrow
        obtain ⟨ao', cap', rfl, _, _⟩ := hrow.shape
        have hfin : Hid (TakeR w p S (0, t, cur ++ [b]) (.returned (.int .i64 0)) (w2.setCell ⟨p, 1, none⟩ (.slice ao' (n + 1) cap'))) := by
          refine ⟨rfl, kw.trans (Kept.set (S := S) hS _) (fun q h => .inl h), fun _ => ?_⟩
          have hr3 : RowIn w2 (plus S w (w2.setCell ⟨p, 1, none⟩ (.slice ao' (n + 1) cap'))) 5 1 (.slice ao' (n + 1) cap') (cur ++ [b]).length (u8s (cur ++ [b])) := by
            have := hrow2.toPlus (w := w) (w' := w2.setCell ⟨p, 1, none⟩ (.slice ao' (n + 1) cap')) (by omega) (by simp [World.setCell])
            rw [List.length_append, List.length_singleton, HN.out]; exact this
          exact (H.out.below (Below.refl' w (.cells #[.int .u8 (b.toNat : Int)] 5))).setBytes (fun q h => .inl h) (fun q o _ hq ho => grown_bytes hgrow (HR.out.below (Below.refl' _ _)) q o hq ho) hr3
        clear hrow hrow2 a1 a2 kw hgrow
        go_wp2
        go_ret
        exact hfin.out
theorem newText_any (w : World) : Calls Tryz.prog 80 #[] w fun e w' => e = .returned (.pointer (some ⟨w.heap.size, 0, none⟩)) ∧ Below w.heap.size w w' ∧ TextIs w' w.heap.size (fun q => q = w.heap.size) [] .first := by
  have hmf : ∀ (fn : Fn) (first cap : Array Value) (w : World), (Instr.makeFunc fn first cap).run Tryz.prog w = .ok (.func fn first cap) w := fun _ _ _ _ => rfl
  have a0 : Arr (w.alloc (.cells #[.nilFunc, .slice none 0 0, .int .i64 0, .int .i64 0, .int .i64 0, .slice none 0 0, .bool false, .slice none 0 0, .int .i64 0] 167)) w.heap.size 167 (rdC .nilFunc (.slice none 0 0) 0 0 0 (.slice none 0 0) false (.slice none 0 0) 0) := Arr.newL _ _ _
  have c0 := a0.cell (i := 0) rfl
  have f0 := a0.frozen 0
  clear a0
  go_enter Tryz.func80, Tryz.ntmps80
  go_wp2
  go_ret
  refine ⟨rfl, Below.refl' _ _, rfl, .slice none 0 0, Arr.newL _ _ _, ?_⟩
  exact RowIn.nil _ _ _ _
end Go.Proofs.YthdcceackfdbbaaGreatDoor
