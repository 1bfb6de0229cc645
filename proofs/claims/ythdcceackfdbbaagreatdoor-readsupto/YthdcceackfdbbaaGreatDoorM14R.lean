import Derived.Test.YthdcceackfdbbaaGreatDoorM13R
import Derived.Deep.QuietTactic
namespace Go.Proofs.YthdcceackfdbbaaGreatDoor
open Go Go.RowKit
def arrT (k : Nat) : Option (List Nat) → Nat × TSt
  | some [r, c] => if openE k r c ≠ 0 then (openE k r c, .first) else (0, .ent k r c (plsL k r c).length (plsL k r c) (fun _ _ => 0))
  | _ => (6, .first)
def cooT (k : Nat) : Option (List Nat) → Nat × TSt
  | some [r, c, n] => if openE k r c ≠ 0 then (openE k r c, .first) else if (plsL k r c).length < n then (10, .first) else (0, .ent k r c n (plsL k r c) (fun _ _ => 0))
  | _ => (6, .first)
def sizesT (k : Nat) (c : Bool) (ws : List (List UInt8)) : Nat × TSt := if c then (0, .sizes k) else if k = 2 ∨ k = 3 then cooT k (wholesL ws) else arrT k (wholesL ws)
theorem wholesL_lt : ∀ {ws : List (List UInt8)} {l : List Nat}, wholesL ws = some l → ∀ n ∈ l, n < 1000000000
  | [], l, h, n, hn => by simp [wholesL] at h; subst h; simp at hn
  | x :: r, l, h, n, hn => by
    simp only [wholesL] at h
    cases hx : wholeL x with
    | none => rw [hx] at h; simp at h
    | some a =>
      cases hr : wholesL r with
      | none => rw [hx, hr] at h; simp at h
      | some b =>
        rw [hx, hr] at h
        simp only [Option.some.injEq] at h
        subst h
        rcases List.mem_cons.1 hn with rfl | h2
        · unfold wholeL at hx
          split at hx
          · rename_i hc
            cases hx
            exact dval_lt9 (fun x hx => by have := List.all_eq_true.1 hc.2 x hx; exact this) hc.1
          · cases hx
        · exact wholesL_lt hr n h2
theorem wholesL_len : ∀ {ws : List (List UInt8)} {l : List Nat}, wholesL ws = some l → l.length = ws.length
  | [], l, h => by simp [wholesL] at h; subst h; rfl
  | x :: r, l, h => by
    simp only [wholesL] at h
    cases hx : wholeL x with
    | none => rw [hx] at h; simp at h
    | some a =>
      cases hr : wholesL r with
      | none => rw [hx, hr] at h; simp at h
      | some b =>
        rw [hx, hr] at h
        simp only [Option.some.injEq] at h
        subst h
        simp [wholesL_len hr]
theorem ints_at {w : World} {B : Nat} {v : Value} {n : Nat} {l : List Nat} (h : w.ownsRow B 3 1 v n (intL l)) : ∃ ao cap, v = .slice ao n cap ∧ n = l.length ∧ (1 ≤ n → ∃ g : Nat, ao = some ⟨g, 0, none⟩ ∧ B ≤ g ∧ g < w.heap.size ∧ ∀ (k x : Nat), l[k]? = some x → w.cell? ⟨g, k, none⟩ = some (.int .i64 (x : Int))) := by
  obtain ⟨hl, ⟨rfl, rfl⟩ | ⟨g, cap, cur, rfl, hB, hg, _, _, hc3, htk⟩⟩ := h
  · refine ⟨none, 0, rfl, ?_, fun h => by omega⟩
    simp [intL] at hl; simp [hl]
  · have hnl : n = l.length := by simp [intL] at hl; omega
    refine ⟨_, cap, rfl, hnl, fun _ => ⟨g, rfl, hB, (Array.getElem?_eq_some_iff.1 hg).1, fun k x hx => ?_⟩⟩
    have hk := (List.getElem?_eq_some_iff.1 hx).1
    have h1 : (intL l)[k]? = some (.int .i64 (x : Int)) := by unfold intL; rw [List.getElem?_map, hx]; rfl
    rw [← htk, List.getElem?_take, if_pos (by omega)] at h1
    simp only [World.cell?, hg]
    simpa using h1
theorem ent_of_open {w w' : World} {p : Nat} {S : Nat → Prop} {st bytes : Value} {g : Nat} {fv : Value} {k R C left0 : Nat} (left : Nat) (st' : Value) (hS : S p) (hk3 : k ≤ 3) (hE : openE k R C = 0) (hk : Kept (fun q => q = p) w w')
    (ha : Arr w' p 167 (rdC st bytes k R C (.slice (some ⟨g, 0, none⟩) (R * C) (R * C)) true fv left0)) (hg : w.heap.size ≤ g) (hz : Arr w' g 65 (List.replicate (R * C) (.int .u64 0)))
    (hf : w'.ownsRow w.heap.size 117 2 fv (plsL k R C).length (plcC (plsL k R C))) (h0 : ∃ c, Arr w p 167 c) (hr : RowIn w S 5 1 bytes 0 (u8s [])) (hl : left ≤ (plsL k R C).length) :
    EntC ((w'.setCell ⟨p, 8, none⟩ (.int .i64 (left : Int))).setCell ⟨p, 0, none⟩ st') p (plus S w (w'.setCell ⟨p, 8, none⟩ (.int .i64 (left : Int)))) st' bytes g fv k R C left (plsL k R C) (fun _ _ => 0) [] := by
  obtain ⟨c0, hc0⟩ := h0
  have hRC : R ≤ 40 ∧ C ≤ 40 ∧ ((k = 1 ∨ k = 3) → R = C) := by
    unfold openE at hE
    split at hE
    · cases hE
    · split at hE
      · cases hE
      · rename_i h1 h2
        exact ⟨by omega, by omega, fun h => Classical.byContradiction fun e => h2 ⟨h, e⟩⟩
  have hpw := hc0.lt
  have hpg : g ≠ p := by omega
  have a1 := ha.set 8 (.int .i64 (left : Int))
  have a2 := a1.set 0 st'
  have g1 : Arr (w'.setCell ⟨p, 8, none⟩ (.int .i64 (left : Int))) g _ _ := hz.other (i := 8) (.int .i64 (left : Int)) hpg
  have g2 : Arr ((w'.setCell ⟨p, 8, none⟩ (.int .i64 (left : Int))).setCell ⟨p, 0, none⟩ st') g _ _ := g1.other st' hpg
  have rb : RowIn w' S 5 1 bytes 0 (u8s []) := hr.keep (fun q hq => hk.block q (hr.lt q hq).1 (fun e => by
    obtain ⟨_, c, hc⟩ := hr.lt q hq
    rw [e, show w.heap[p]? = _ from hc0] at hc
    simp at hc))
  have rf : RowIn w' (plus S w w') 117 2 fv (plsL k R C).length (plcC (plsL k R C)) := by
    refine ⟨ownsRow_base hf (Nat.zero_le _), fun q hq => .inr ?_⟩
    obtain ⟨_, ⟨h1, _⟩ | ⟨g', cap, cur, h1, h2, h3, _⟩⟩ := hf
    · rw [h1] at hq; cases hq
    · rw [h1] at hq
      obtain rfl : g' = q := Option.some.inj hq
      exact ⟨h2, (Array.getElem?_eq_some_iff.1 h3).1⟩
  have hsz : (w'.setCell ⟨p, 8, none⟩ (.int .i64 (left : Int))).heap.size = w'.heap.size := by simp [World.setCell]
  have hpl : ∀ q, plus S w w' q → plus S w (w'.setCell ⟨p, 8, none⟩ (.int .i64 (left : Int))) q := fun q hq => hq.imp id (fun h => ⟨h.1, by rw [hsz]; exact h.2⟩)
  refine ⟨.inl hS, a2, ?_, .inr ⟨hg, by rw [hsz]; exact hz.lt⟩, ⟨_, g2, by simp⟩, ⟨g2.lt, fun i j hi hj => g2.cell ?_⟩, ?_, hk3, hRC.1, hRC.2.1, hRC.2.2, fun q hq => plsL_in hq, plsL_len hRC.1 hRC.2.1, hl⟩
  · exact ((rb.set ha (by decide) _).set a1 (by decide) _).mono (fun q h => .inl h)
  · have := idx_lt hi hj
    rw [List.getElem?_replicate, if_pos this]; rfl
  · exact ((rf.mono hpl).set ha (by decide) _).set a1 (by decide) _
end Go.Proofs.YthdcceackfdbbaaGreatDoor
namespace Go.Proofs.YthdcceackfdbbaaGreatDoor
open Go Go.RowKit
set_option maxRecDepth 20000 in
set_option maxHeartbeats 2000000 in
theorem arraySizes_step (w : World) (p : Nat) (S : Nat → Prop) (k A n : Nat) (ws : List ByteArray) (c : Bool) (hk : k ≤ 3) (hkk : ¬ (k = 2 ∨ k = 3)) (hn : ws.length = n) (hn1 : n ≤ 1000000) (hsz : ∀ x ∈ ws, x.size ≤ 1000000) (hs : StrsAt w (some ⟨A, 0, none⟩) ws) (h : TextIs w p S [] (.sizes k)) :
    Calls Tryz.prog 181 #[.pointer (some ⟨p, 0, none⟩), lineV A n c] w fun e w' => StepT w p S (arrT k (wholesL (ws.map (·.data.toList)))) e w' := by
  have hmix : Tryz.prog.follows .mixedOrders = true := by kernel_rfl
  have hmf : ∀ (fn : Fn) (first cap : Array Value) (w : World), (Instr.makeFunc fn first cap).run Tryz.prog w = .ok (.func fn first cap) w := fun _ _ _ _ => rfl
  obtain ⟨_, hS, bytes, ha, hr⟩ := h
  obtain ⟨b, hb⟩ : ∃ b, w.heap.size = b := ⟨_, rfl⟩
  have HAA := hid ha
  have HR := hid hr
  have HS := hid hs
  have HN := hid hn
  have hwl : ∀ l, wholesL (ws.map (·.data.toList)) = some l → ∀ n ∈ l, n < 1000000000 := fun l h => wholesL_lt h
  have hlen : ∀ l, wholesL (ws.map (·.data.toList)) = some l → l.length = n := fun l h => by rw [wholesL_len h, List.length_map, hn]
  have HW := hid (fun w' hst => wholes_any w' (some ⟨A, 0, none⟩) n n ws hn hn1 hsz hst)
  generalize wholesL (ws.map (·.data.toList)) = wl at *
  clear ha hr hs hn
  unfold lineV
  have aV : Arr (w.alloc (.cells #[.slice (some ⟨A, 0, none⟩) n n, .bool c] 213)) b 213 [.slice (some ⟨A, 0, none⟩) n n, .bool c] := by rw [← hb]; exact Arr.newL w _ _
  have c0 := aV.cell (i := 0) rfl
  go_enter Tryz.func181, Tryz.ntmps181
  go_wp2_with fail
  clear c0
  have bV : Below b w (w.alloc (.cells #[.slice (some ⟨A, 0, none⟩) n n, .bool c] 213)) := by rw [← hb]; exact Below.refl' _ _
  generalize w.alloc (.cells #[.slice (some ⟨A, 0, none⟩) n n, .bool c] 213) = V at *
  refine (HW.out V (HS.out.below (hb ▸ bV))).mono ?_
  rintro e W1 ⟨hres, b1⟩
  have bz := bV.size
  have b2 : Below b w W1 := bV.trans (b1.mono (by omega))
  have a2 : Arr W1 p 167 _ := HAA.out.belowAll (hb ▸ b2)
  have bad : arrT k wl = (6, .first) → ∀ W, Below b w W → Hid (StepT w p S (arrT k wl) (.returned (.tuple #[.nilFunc, .int .i64 6])) W) := fun h6 W hbW => by
    rw [h6]
    exact ⟨_, rfl, ⟨default, default, default, .inr rfl⟩, Kept.ofBelow (hb ▸ hbW), ⟨_, HAA.out.belowAll (hb ▸ hbW), rfl⟩, fun h => by simp at h⟩
  rcases hres with ⟨rfl, rfl⟩ | ⟨l, v, rfl, rfl, hrow⟩
  · have hfin := bad rfl W1 b2
    clear bad HW b1 a2 b2
    go_wp2
    go_ret2
    exact hfin.out
  · obtain ⟨ao, cap, rfl, hll, hc⟩ := ints_at hrow
    have hl9 := hwl l rfl
    have hln : l.length ≤ 1000000 := by rw [hlen l rfl]; exact hn1
    clear hwl HW hlen
    by_cases h2 : l.length = 2
    · obtain ⟨r, c2, rfl⟩ : ∃ r c2, l = [r, c2] := by
        match l, h2 with
        | [r, c2], _ => exact ⟨r, c2, rfl⟩
      clear h2
      simp only [List.length_cons, List.length_nil, Nat.zero_add, Nat.reduceAdd] at hc hrow hll ⊢
      obtain ⟨gv, rfl, hgv, hgl, hcc⟩ := hc (by omega)
      have v0 := hcc 0 r rfl
      have v1 := hcc 1 c2 rfl
      have hr9 := hl9 r (by simp)
      have hc9 := hl9 c2 (by simp)
      have hres : arrT k (some [r, c2]) = if openE k r c2 ≠ 0 then (openE k r c2, .first) else (0, .ent k r c2 (plsL k r c2).length (plsL k r c2) (fun _ _ => 0)) := rfl
      have HRES := hid hres
      have HW2 := hid b2
      have HA2 := hid a2
      clear bad hcc hl9 hres b1 b2 a2 hll hrow hc
      go_wp2_with fail
      refine wp_region_held (S := fun W' => W'.cell? ⟨gv, 0, none⟩ = some (.int .i64 (r : Int)) ∧ W'.cell? ⟨gv, 1, none⟩ = some (.int .i64 (c2 : Int))) hmix ?_
      change wpAnyH _ _ _ _ _ _ _ _ W1.drew
      have hSS : W1.drew.cell? ⟨gv, 0, none⟩ = some (.int .i64 (r : Int)) ∧ W1.drew.cell? ⟨gv, 1, none⟩ = some (.int .i64 (c2 : Int)) := ⟨v0, v1⟩
      have a3 := HA2.out.drew
      have b3 := HW2.out.drew
      clear v0 v1 HA2 HW2
      obtain ⟨hgl2⟩ : Nonempty (gv < W1.drew.heap.size) := ⟨hgl⟩
      clear hgl
      generalize W1.drew = Vd at *
      refine wpAnyH_take (i := 0) (v := .pointer (some ⟨p, 0, none⟩)) rfl (by kernel_rfl) (by kernel_rfl) (by kernel_rfl) (fun _ _ _ h => h) (Or.inl ⟨by rfl, fun W' hS => ?_⟩) hSS ?_
      · clear hS
        go_simp
      simp only [Act.put]
      refine wpAnyH_take (i := 1) (v := .slice (some ⟨gv, 0, none⟩) 2 cap) rfl (by kernel_rfl) (by kernel_rfl) (by kernel_rfl) (fun _ _ _ h => h) (Or.inl ⟨by rfl, fun W' hS => ?_⟩) hSS ?_
      · clear hS
        go_simp
      simp only [Act.put]
      refine wpAnyH_take (i := 2) (v := .pointer (some ⟨gv, 0, none⟩)) rfl (by kernel_rfl) (by kernel_rfl) (by kernel_rfl) (fun _ _ _ h => h) (Or.inl ⟨by rfl, fun W' hS => ?_⟩) hSS ?_
      · clear hS
        go_simp
      simp only [Act.put]
      refine wpAnyH_take (i := 3) (v := .int .i64 (r : Int)) rfl (by kernel_rfl) (by kernel_rfl) (by kernel_rfl) (fun _ _ _ h => h) (Or.inl ⟨by rfl, fun W' hS => ?_⟩) hSS ?_
      · have q0 := hS.1
        clear hS
        go_simp
      simp only [Act.put]
      refine wpAnyH_take (i := 4) (v := .slice (some ⟨gv, 0, none⟩) 2 cap) rfl (by kernel_rfl) (by kernel_rfl) (by kernel_rfl) (fun _ _ _ h => h) (Or.inl ⟨by rfl, fun W' hS => ?_⟩) hSS ?_
      · clear hS
        go_simp
      simp only [Act.put]
      refine wpAnyH_take (i := 5) (v := .pointer (some ⟨gv, 1, none⟩)) rfl (by kernel_rfl) (by kernel_rfl) (by kernel_rfl) (fun _ _ _ h => h) (Or.inl ⟨by rfl, fun W' hS => ?_⟩) hSS ?_
      · clear hS
        go_simp
      simp only [Act.put]
      refine wpAnyH_take (i := 6) (v := .int .i64 (c2 : Int)) rfl (by kernel_rfl) (by kernel_rfl) (by kernel_rfl) (fun _ _ _ h => h) (Or.inl ⟨by rfl, fun W' hS => ?_⟩) hSS ?_
      · have q0 := hS.2
        clear hS
        go_simp
      simp only [Act.put]
      have hop := open_any Vd p (fun q => q = p) (stV 149 p) bytes _ _ 0 0 false k r c2 0 hk rfl hr9 hc9 a3
      refine wpAnyH_ready (rs := [7]) (by kernel_rfl) (by simp) ?_
      refine AllReadyH.cons rfl (fun K hKK => ?_) AllReadyH.nil
      go_simp
      refine hop.mono ?_
      rintro e W4 ⟨rfl, hop2⟩
      have hpb : p < b := by have := HAA.out.lt; omega
      have hpg : gv ≠ p := by omega
      rcases hop2 with ⟨hne, hW4⟩ | ⟨hz, hkp, g, fv, hA4, hg, hz4, hf4⟩
      · have hS4 : W4.cell? ⟨gv, 0, none⟩ = some (.int .i64 (r : Int)) ∧ W4.cell? ⟨gv, 1, none⟩ = some (.int .i64 (c2 : Int)) := by rw [hW4]; exact hSS
        refine hKK.out _ _ hS4 (fun hHeld => ?_)
        clear hKK hHeld
        have hrs : arrT k (some [r, c2]) = (openE k r c2, .first) := by rw [HRES.out, if_pos hne]
        have a4 := a3
        rw [← hW4] at a4
        have b4 : Below b w W4 := by rw [hW4]; exact b3
        have hne0 : openE k r c2 ≠ 0 := hne
        clear hne hop HRES
        have hfin : Hid (StepT w p S (arrT k (some [r, c2])) (.returned (.tuple #[stV 214 p, .int .i64 (openE k r c2 : Int)])) (W4.setCell ⟨p, 8, none⟩ (.int .i64 0))) := by
          rw [hrs]
          exact ⟨_, rfl, ⟨_, _, _, .inl rfl⟩, (Kept.ofBelow (hb ▸ b4)).trans (Kept.set (S := S) hS _) (fun q h => .inl h), ⟨_, a4.set 8 (.int .i64 0), rfl⟩, fun h => (hne0 h).elim⟩
        generalize openE k r c2 = er at *
        refine wpAnyH_take (i := 8) (v := .int .i64 (er : Int)) rfl (by kernel_rfl) (by kernel_rfl) (by kernel_rfl) (fun _ _ _ h => h) (Or.inl ⟨by rfl, fun W' hS => ?_⟩) hS4 ?_
        · clear hS
          go_simp
        simp only [Act.put, List.getElem_toArray, List.getElem_cons_succ, List.getElem_cons_zero, List.setIfInBounds_toArray, List.set_cons_succ, List.set_cons_zero]
        refine wpAnyH_done (by kernel_rfl) ?_ _
        have x7 := a4.cell (i := 7) rfl
        have x8 := a4.cell (i := 8) rfl
        have y8 := a4.frozen 8
        unfold stV at hfin
        clear a4 b4 hW4 hrs hSS a3 b3
        go_wp2
        go_ret2
        exact hfin.out
      · have hS4 : W4.cell? ⟨gv, 0, none⟩ = some (.int .i64 (r : Int)) ∧ W4.cell? ⟨gv, 1, none⟩ = some (.int .i64 (c2 : Int)) := by
          have e1 : ∀ o, W4.cell? ⟨gv, o, none⟩ = Vd.cell? ⟨gv, o, none⟩ := fun o => World.cell?_of_block (w := Vd) (hkp.block gv hgl2 hpg)
          rw [e1, e1]; exact hSS
        refine hKK.out _ _ hS4 (fun hHeld => ?_)
        clear hKK hHeld
        obtain ⟨ao2, cap2, hfv, _⟩ := FreeAt.shape hf4
        rw [hz]
        have hL := plsL_len (k := k) (R := r) (C := c2) (by unfold openE at hz; split at hz <;> omega) (by unfold openE at hz; split at hz <;> omega)
        have hrs : arrT k (some [r, c2]) = (0, .ent k r c2 (plsL k r c2).length (plsL k r c2) (fun _ _ => 0)) := by rw [HRES.out, if_neg (by rw [hz]; simp)]
        have hfin : Hid (StepT w p S (arrT k (some [r, c2])) (.returned (.tuple #[stV 214 p, .int .i64 0])) (W4.setCell ⟨p, 8, none⟩ (.int .i64 ((plsL k r c2).length : Int)))) := by
          rw [hrs]
          have hk4 : Kept S w W4 := (Kept.ofBelow (hb ▸ b3)).trans (hkp.mono (T := S) (fun q hq => by rw [hq]; exact hS)) (fun q h => .inl h)
          refine ⟨_, rfl, ⟨_, _, _, .inl rfl⟩, hk4.trans (Kept.set (S := S) hS _) (fun q h => .inl h), ⟨_, hA4.set 8 _, rfl⟩, fun _ => ?_⟩
          have hent := ent_of_open (S := S) (plsL k r c2).length (stV 214 p) hS hk hz hkp hA4 hg hz4 hf4 ⟨_, a3⟩ (HR.out.below (hb ▸ b3)) (Nat.le_refl _)
          have hef : entF k = 214 := by unfold entF; rw [if_neg hkk]
          refine ⟨bytes, g, fv, ?_⟩
          rw [hef]
          refine hent.mono (fun q hq => hq.imp id (fun h => ⟨?_, h.2⟩))
          have := b3.size
          omega
        rw [hfv] at hA4
        clear hop HRES hz hkp hf4 hz4 hrs
        refine wpAnyH_take (i := 8) (v := .int .i64 0) rfl (by kernel_rfl) (by kernel_rfl) (by kernel_rfl) (fun _ _ _ h => h) (Or.inl ⟨by rfl, fun W' hS => ?_⟩) hS4 ?_
        · clear hS
          go_simp
        simp only [Act.put, List.getElem_toArray, List.getElem_cons_succ, List.getElem_cons_zero, List.setIfInBounds_toArray, List.set_cons_succ, List.set_cons_zero]
        refine wpAnyH_done (by kernel_rfl) ?_ _
        have x7 := hA4.cell (i := 7) rfl
        have x8 := hA4.cell (i := 8) rfl
        have y8 := hA4.frozen 8
        unfold stV at hfin
        clear hA4 hSS a3 b3
        generalize (plsL k r c2).length = L at *
        go_wp2
        go_ret2
        exact hfin.out
    · have hfin := bad (by unfold arrT; split; · rename_i h; cases h; simp at h2
                           rfl) W1 b2
      have h2' : ¬ (l.length : Int) = 2 := by omega
      clear bad b1 a2 b2
      generalize l.length = L at *
      go_wp2
      go_ret2
      exact hfin.out
end Go.Proofs.YthdcceackfdbbaaGreatDoor
namespace Go.Proofs.YthdcceackfdbbaaGreatDoor
open Go Go.RowKit
set_option maxRecDepth 20000 in
set_option maxHeartbeats 2000000 in
theorem coordinateSizes_step (w : World) (p : Nat) (S : Nat → Prop) (k A n : Nat) (ws : List ByteArray) (c : Bool) (hk : k ≤ 3) (hkk : k = 2 ∨ k = 3) (hn : ws.length = n) (hn1 : n ≤ 1000000) (hsz : ∀ x ∈ ws, x.size ≤ 1000000) (hs : StrsAt w (some ⟨A, 0, none⟩) ws) (h : TextIs w p S [] (.sizes k)) :
    Calls Tryz.prog 180 #[.pointer (some ⟨p, 0, none⟩), lineV A n c] w fun e w' => StepT w p S (cooT k (wholesL (ws.map (·.data.toList)))) e w' := by
  have hmix : Tryz.prog.follows .mixedOrders = true := by kernel_rfl
  have hmf : ∀ (fn : Fn) (first cap : Array Value) (w : World), (Instr.makeFunc fn first cap).run Tryz.prog w = .ok (.func fn first cap) w := fun _ _ _ _ => rfl
  obtain ⟨_, hS, bytes, ha, hr⟩ := h
  obtain ⟨b, hb⟩ : ∃ b, w.heap.size = b := ⟨_, rfl⟩
  have HAA := hid ha
  have HR := hid hr
  have HS := hid hs
  have HN := hid hn
  have hwl : ∀ l, wholesL (ws.map (·.data.toList)) = some l → ∀ n ∈ l, n < 1000000000 := fun l h => wholesL_lt h
  have hlen : ∀ l, wholesL (ws.map (·.data.toList)) = some l → l.length = n := fun l h => by rw [wholesL_len h, List.length_map, hn]
  have HW := hid (fun w' hst => wholes_any w' (some ⟨A, 0, none⟩) n n ws hn hn1 hsz hst)
  generalize wholesL (ws.map (·.data.toList)) = wl at *
  clear ha hr hs hn
  unfold lineV
  have aV : Arr (w.alloc (.cells #[.slice (some ⟨A, 0, none⟩) n n, .bool c] 213)) b 213 [.slice (some ⟨A, 0, none⟩) n n, .bool c] := by rw [← hb]; exact Arr.newL w _ _
  have c0 := aV.cell (i := 0) rfl
  go_enter Tryz.func180, Tryz.ntmps180
  go_wp2_with fail
  clear c0
  have bV : Below b w (w.alloc (.cells #[.slice (some ⟨A, 0, none⟩) n n, .bool c] 213)) := by rw [← hb]; exact Below.refl' _ _
  generalize w.alloc (.cells #[.slice (some ⟨A, 0, none⟩) n n, .bool c] 213) = V at *
  refine (HW.out V (HS.out.below (hb ▸ bV))).mono ?_
  rintro e W1 ⟨hres, b1⟩
  have bz := bV.size
  have b2 : Below b w W1 := bV.trans (b1.mono (by omega))
  have a2 : Arr W1 p 167 _ := HAA.out.belowAll (hb ▸ b2)
  have bad : cooT k wl = (6, .first) → ∀ W, Below b w W → Hid (StepT w p S (cooT k wl) (.returned (.tuple #[.nilFunc, .int .i64 6])) W) := fun h6 W hbW => by
    rw [h6]
    exact ⟨_, rfl, ⟨default, default, default, .inr rfl⟩, Kept.ofBelow (hb ▸ hbW), ⟨_, HAA.out.belowAll (hb ▸ hbW), rfl⟩, fun h => by simp at h⟩
  rcases hres with ⟨rfl, rfl⟩ | ⟨l, v, rfl, rfl, hrow⟩
  · have hfin := bad rfl W1 b2
    clear bad HW b1 a2 b2
    go_wp2
    go_ret2
    exact hfin.out
  · obtain ⟨ao, cap, rfl, hll, hc⟩ := ints_at hrow
    have hl9 := hwl l rfl
    have hln : l.length ≤ 1000000 := by rw [hlen l rfl]; exact hn1
    clear hwl HW hlen
    by_cases h2 : l.length = 3
    · obtain ⟨r, c2, n3, rfl⟩ : ∃ r c2 n3, l = [r, c2, n3] := by
        match l, h2 with
        | [r, c2, n3], _ => exact ⟨r, c2, n3, rfl⟩
      clear h2
      simp only [List.length_cons, List.length_nil, Nat.zero_add, Nat.reduceAdd] at hc hrow hll ⊢
      obtain ⟨gv, rfl, hgv, hgl, hcc⟩ := hc (by omega)
      have v0 := hcc 0 r rfl
      have v1 := hcc 1 c2 rfl
      have v2 := hcc 2 n3 rfl
      have hn9 := hl9 n3 (by simp)
      have hr9 := hl9 r (by simp)
      have hc9 := hl9 c2 (by simp)
      have hres : cooT k (some [r, c2, n3]) = if openE k r c2 ≠ 0 then (openE k r c2, .first) else if (plsL k r c2).length < n3 then (10, .first) else (0, .ent k r c2 n3 (plsL k r c2) (fun _ _ => 0)) := rfl
      have HRES := hid hres
      have HW2 := hid b2
      have HA2 := hid a2
      clear bad hcc hl9 hres b1 b2 a2 hll hrow hc
      go_wp2_with fail
      refine wp_region_held (S := fun W' => W'.cell? ⟨gv, 0, none⟩ = some (.int .i64 (r : Int)) ∧ W'.cell? ⟨gv, 1, none⟩ = some (.int .i64 (c2 : Int))) hmix ?_
      change wpAnyH _ _ _ _ _ _ _ _ W1.drew
      have hSS : W1.drew.cell? ⟨gv, 0, none⟩ = some (.int .i64 (r : Int)) ∧ W1.drew.cell? ⟨gv, 1, none⟩ = some (.int .i64 (c2 : Int)) := ⟨v0, v1⟩
      have a3 := HA2.out.drew
      have b3 := HW2.out.drew
      have v2' : W1.drew.cell? ⟨gv, 2, none⟩ = some (.int .i64 (n3 : Int)) := v2
      clear v0 v1 v2 HA2 HW2
      obtain ⟨hgl2⟩ : Nonempty (gv < W1.drew.heap.size) := ⟨hgl⟩
      clear hgl
      generalize W1.drew = Vd at *
      refine wpAnyH_take (i := 0) (v := .pointer (some ⟨p, 0, none⟩)) rfl (by kernel_rfl) (by kernel_rfl) (by kernel_rfl) (fun _ _ _ h => h) (Or.inl ⟨by rfl, fun W' hS => ?_⟩) hSS ?_
      · clear hS
        go_simp
      simp only [Act.put]
      refine wpAnyH_take (i := 1) (v := .slice (some ⟨gv, 0, none⟩) 3 cap) rfl (by kernel_rfl) (by kernel_rfl) (by kernel_rfl) (fun _ _ _ h => h) (Or.inl ⟨by rfl, fun W' hS => ?_⟩) hSS ?_
      · clear hS
        go_simp
      simp only [Act.put]
      refine wpAnyH_take (i := 2) (v := .pointer (some ⟨gv, 0, none⟩)) rfl (by kernel_rfl) (by kernel_rfl) (by kernel_rfl) (fun _ _ _ h => h) (Or.inl ⟨by rfl, fun W' hS => ?_⟩) hSS ?_
      · clear hS
        go_simp
      simp only [Act.put]
      refine wpAnyH_take (i := 3) (v := .int .i64 (r : Int)) rfl (by kernel_rfl) (by kernel_rfl) (by kernel_rfl) (fun _ _ _ h => h) (Or.inl ⟨by rfl, fun W' hS => ?_⟩) hSS ?_
      · have q0 := hS.1
        clear hS
        go_simp
      simp only [Act.put]
      refine wpAnyH_take (i := 4) (v := .slice (some ⟨gv, 0, none⟩) 3 cap) rfl (by kernel_rfl) (by kernel_rfl) (by kernel_rfl) (fun _ _ _ h => h) (Or.inl ⟨by rfl, fun W' hS => ?_⟩) hSS ?_
      · clear hS
        go_simp
      simp only [Act.put]
      refine wpAnyH_take (i := 5) (v := .pointer (some ⟨gv, 1, none⟩)) rfl (by kernel_rfl) (by kernel_rfl) (by kernel_rfl) (fun _ _ _ h => h) (Or.inl ⟨by rfl, fun W' hS => ?_⟩) hSS ?_
      · clear hS
        go_simp
      simp only [Act.put]
      refine wpAnyH_take (i := 6) (v := .int .i64 (c2 : Int)) rfl (by kernel_rfl) (by kernel_rfl) (by kernel_rfl) (fun _ _ _ h => h) (Or.inl ⟨by rfl, fun W' hS => ?_⟩) hSS ?_
      · have q0 := hS.2
        clear hS
        go_simp
      simp only [Act.put]
      have hop := open_any Vd p (fun q => q = p) (stV 149 p) bytes _ _ 0 0 false k r c2 0 hk rfl hr9 hc9 a3
      refine wpAnyH_ready (rs := [7]) (by kernel_rfl) (by simp) ?_
      refine AllReadyH.cons rfl (fun K hKK => ?_) AllReadyH.nil
      go_simp
      refine hop.mono ?_
      rintro e W4 ⟨rfl, hop2⟩
      have hpb : p < b := by have := HAA.out.lt; omega
      have hpg : gv ≠ p := by omega
      rcases hop2 with ⟨hne, hW4⟩ | ⟨hz, hkp, g, fv, hA4, hg, hz4, hf4⟩
      · have hS4 : W4.cell? ⟨gv, 0, none⟩ = some (.int .i64 (r : Int)) ∧ W4.cell? ⟨gv, 1, none⟩ = some (.int .i64 (c2 : Int)) := by rw [hW4]; exact hSS
        refine hKK.out _ _ hS4 (fun hHeld => ?_)
        clear hKK hHeld
        have hrs : cooT k (some [r, c2, n3]) = (openE k r c2, .first) := by rw [HRES.out, if_pos hne]
        have a4 := a3
        rw [← hW4] at a4
        have b4 : Below b w W4 := by rw [hW4]; exact b3
        have hne0 : openE k r c2 ≠ 0 := hne
        clear hne hop HRES
        have hfin : Hid (StepT w p S (cooT k (some [r, c2, n3])) (.returned (.tuple #[.nilFunc, .int .i64 (openE k r c2 : Int)])) W4) := by
          rw [hrs]
          exact ⟨_, rfl, ⟨default, default, default, .inr rfl⟩, Kept.ofBelow (hb ▸ b4), ⟨_, a4, rfl⟩, fun h => (hne0 h).elim⟩
        generalize openE k r c2 = er at *
        have hne1 : ¬ (er : Int) = 0 := by omega
        refine wpAnyH_take (i := 8) (v := .int .i64 (er : Int)) rfl (by kernel_rfl) (by kernel_rfl) (by kernel_rfl) (fun _ _ _ h => h) (Or.inl ⟨by rfl, fun W' hS => ?_⟩) hS4 ?_
        · clear hS
          go_simp
        simp only [Act.put, List.getElem_toArray, List.getElem_cons_succ, List.getElem_cons_zero, List.setIfInBounds_toArray, List.set_cons_succ, List.set_cons_zero]
        refine wpAnyH_done (by kernel_rfl) ?_ _
        clear a4 b4 hW4 hrs hSS a3 b3
        go_wp2
        go_ret2
        exact hfin.out
      · have hS4 : W4.cell? ⟨gv, 0, none⟩ = some (.int .i64 (r : Int)) ∧ W4.cell? ⟨gv, 1, none⟩ = some (.int .i64 (c2 : Int)) := by
          have e1 : ∀ o, W4.cell? ⟨gv, o, none⟩ = Vd.cell? ⟨gv, o, none⟩ := fun o => World.cell?_of_block (w := Vd) (hkp.block gv hgl2 hpg)
          rw [e1, e1]; exact hSS
        refine hKK.out _ _ hS4 (fun hHeld => ?_)
        clear hKK hHeld
        obtain ⟨ao2, cap2, hfv, _⟩ := FreeAt.shape hf4
        rw [hz]
        have hL := plsL_len (k := k) (R := r) (C := c2) (by unfold openE at hz; split at hz <;> omega) (by unfold openE at hz; split at hz <;> omega)
        have hgv2 : W4.cell? ⟨gv, 2, none⟩ = some (.int .i64 (n3 : Int)) := by
          have e1 : ∀ o, W4.cell? ⟨gv, o, none⟩ = Vd.cell? ⟨gv, o, none⟩ := fun o => World.cell?_of_block (w := Vd) (hkp.block gv hgl2 hpg)
          rw [e1]; exact v2'
        have hrs : cooT k (some [r, c2, n3]) = if (plsL k r c2).length < n3 then (10, .first) else (0, .ent k r c2 n3 (plsL k r c2) (fun _ _ => 0)) := by rw [HRES.out, if_neg (by rw [hz]; simp)]
        have hk4 : Kept S w W4 := (Kept.ofBelow (hb ▸ b3)).trans (hkp.mono (T := S) (fun q hq => by rw [hq]; exact hS)) (fun q h => .inl h)
        have hent : n3 ≤ (plsL k r c2).length → EntC ((W4.setCell ⟨p, 8, none⟩ (.int .i64 (n3 : Int))).setCell ⟨p, 0, none⟩ (stV 213 p)) p (plus S w (W4.setCell ⟨p, 8, none⟩ (.int .i64 (n3 : Int)))) (stV (entF k) p) bytes g fv k r c2 n3 (plsL k r c2) (fun _ _ => 0) [] := fun hle => by
          have h := ent_of_open (S := S) n3 (stV 213 p) hS hk hz hkp hA4 hg hz4 hf4 ⟨_, a3⟩ (HR.out.below (hb ▸ b3)) hle
          have hef : entF k = 213 := by unfold entF; rw [if_pos hkk]
          rw [hef]
          refine h.mono (fun q hq => hq.imp id (fun h => ⟨?_, h.2⟩))
          have := b3.size
          omega
        have a8 := hA4.set 8 (.int .i64 (n3 : Int))
        have hkf : Kept S w (W4.setCell ⟨p, 8, none⟩ (.int .i64 (n3 : Int))) := hk4.trans (Kept.set (S := S) hS _) (fun q h => .inl h)
        have HENT := hid hent
        have HKF := hid hkf
        have HA8 := hid a8
        have HRS := hid hrs
        rw [hfv] at hA4 a8
        clear hop HRES hz hkp hf4 hz4 hrs hent hkf hk4
        refine wpAnyH_take (i := 8) (v := .int .i64 0) rfl (by kernel_rfl) (by kernel_rfl) (by kernel_rfl) (fun _ _ _ h => h) (Or.inl ⟨by rfl, fun W' hS => ?_⟩) hS4 ?_
        · clear hS
          go_simp
        simp only [Act.put, List.getElem_toArray, List.getElem_cons_succ, List.getElem_cons_zero, List.setIfInBounds_toArray, List.set_cons_succ, List.set_cons_zero]
        refine wpAnyH_done (by kernel_rfl) ?_ _
        have x8 := hA4.cell (i := 8) rfl
        have y8 := hA4.frozen 8
        have z7 := a8.cell (i := 7) rfl
        have z8 := a8.cell (i := 8) rfl
        clear hA4 hSS a3 b3 a8
        have hmf2 := hmf
        clear hmf
        obtain ⟨L, hLe⟩ : ∃ L, (plsL k r c2).length = L := ⟨_, rfl⟩
        rw [hLe] at z7 hL
        have HLE := hid hLe
        clear hLe
        go_wp2_with fail
        generalize W4.setCell ⟨p, 8, none⟩ (.int .i64 (n3 : Int)) = W5 at *
        clear x8 y8 hgv2 hS4
        go_quiet (fail)
        have hmf := hmf2
        by_cases hgt : L < n3
        · have hgt' : (L : Int) < n3 := by omega
          have hfin : Hid (StepT w p S (cooT k (some [r, c2, n3])) (.returned (.tuple #[.nilFunc, .int .i64 10])) (W5.drewN nq)) := by
            rw [HRS.out, HLE.out, if_pos hgt]
            exact ⟨_, rfl, ⟨default, default, default, .inr rfl⟩, HKF.out.trans (Kept.drewN (S := S) nq) (fun q h => .inl h), ⟨_, HA8.out.drewN nq, rfl⟩, fun h => by simp at h⟩
          go_wp2
          go_ret2
          exact hfin.out
        · have hgt' : ¬ (L : Int) < n3 := by omega
          have hfin : Hid (StepT w p S (cooT k (some [r, c2, n3])) (.returned (.tuple #[stV 213 p, .int .i64 0])) (W5.drewN nq)) := by
            rw [HRS.out, HLE.out, if_neg hgt]
            refine ⟨_, rfl, ⟨_, _, _, .inl rfl⟩, HKF.out.trans (Kept.drewN (S := S) nq) (fun q h => .inl h), ⟨_, HA8.out.drewN nq, rfl⟩, fun _ => ⟨bytes, g, fv, ?_⟩⟩
            exact (HENT.out (by have := HLE.out; omega)).frame (fun _ _ => rfl) (Nat.le_refl _)
          unfold stV at hfin
          go_wp2
          go_ret2
          exact hfin.out
    · have hfin := bad (by unfold cooT; split; · rename_i h; cases h; simp at h2
                           rfl) W1 b2
      have h2' : ¬ (l.length : Int) = 3 := by omega
      clear bad b1 a2 b2
      generalize l.length = L at *
      go_wp2
      go_ret2
      exact hfin.out
end Go.Proofs.YthdcceackfdbbaaGreatDoor
