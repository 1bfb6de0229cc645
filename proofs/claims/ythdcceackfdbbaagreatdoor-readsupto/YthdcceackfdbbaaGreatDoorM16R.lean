import Derived.Test.YthdcceackfdbbaaGreatDoorM15R
import Derived.Test.YthdcceackfdbbaaGreatDoorM06R
import Derived.Laws.IdiomStrings
import Derived.Laws.BytesArg
namespace Go.Proofs.YthdcceackfdbbaaGreatDoor
open Go Go.RowKit
def cooE (k R C left : Nat) (free : List (Nat × Nat)) (f : Nat → Nat → Nat) (c : Bool) (ws : List (List UInt8)) : Nat × TSt :=
  if c = true ∨ ws.length ≠ 3 then (6, .first) else
  match wholesL (ws.take 2) with
  | some [i, j] => if left = 0 then (10, .first) else match idxP free ((i : Int) - 1) ((j : Int) - 1) with
    | some q => putT k R C left free f q (ws.getD 2 [])
    | none => (9, .first)
  | _ => (6, .first)
theorem idxP_at {ps : List (Nat × Nat)} {x y : Int} {k : Nat} (h : idxP ps x y = some k) : ∃ q, ps[k]? = some q := by
  unfold idxP at h
  obtain ⟨hk, _⟩ := List.findIdx?_eq_some_iff_getElem.1 h
  exact ⟨ps[k], by simp [hk]⟩
set_option maxRecDepth 20000 in
set_option maxHeartbeats 2000000 in
theorem coordinateEntry_step (w : World) (p : Nat) (S : Nat → Prop) (k R C left : Nat) (free : List (Nat × Nat)) (f : Nat → Nat → Nat) (A n : Nat) (ws : List ByteArray) (c : Bool) (hkk : k = 2 ∨ k = 3) (hn : ws.length = n) (hn1 : n ≤ 1000000) (hsz : ∀ x ∈ ws, x.size ≤ 1000000) (hs : StrsAt w (some ⟨A, 0, none⟩) ws) (h : TextIs w p S [] (.ent k R C left free f)) :
    Calls Tryz.prog 213 #[.pointer (some ⟨p, 0, none⟩), lineV A n c] w fun e w' => StepT w p S (cooE k R C left free f c (ws.map (·.data.toList))) e w' := by
  have hmix : Tryz.prog.follows .mixedOrders = true := by kernel_rfl
  have hmf : ∀ (fn : Fn) (first cap : Array Value) (w : World), (Instr.makeFunc fn first cap).run Tryz.prog w = .ok (.func fn first cap) w := fun _ _ _ _ => rfl
  obtain ⟨bytes, g, fv, hE⟩ := h
  have hef : entF k = 213 := by unfold entF; rw [if_pos hkk]
  have hl16 : left ≤ 1600 := by have := hE.len; have := hE.left_le; omega
  obtain ⟨b, hb⟩ : ∃ b, w.heap.size = b := ⟨_, rfl⟩
  have aV : Arr (w.alloc (.cells #[.slice (some ⟨A, 0, none⟩) n n, .bool c] 213)) b 213 [.slice (some ⟨A, 0, none⟩) n n, .bool c] := by rw [← hb]; exact Arr.newL w _ _
  have bV : Below b w (w.alloc (.cells #[.slice (some ⟨A, 0, none⟩) n n, .bool c] 213)) := by rw [← hb]; exact Below.refl' _ _
  have c0 := aV.cell (i := 0) rfl
  have c1 := aV.cell (i := 1) rfl
  have e2 := hE.below (hb ▸ bV)
  have hs2 := hs.below (hb ▸ bV)
  have HB := hid hb
  have HBV := hid bV
  have HS2 := hid hs2
  have HE2 := hid e2
  have HN := hid hn
  have HEF := hid hef
  have HAV := hid aV
  clear hE bV hs2 e2 hs hn aV hef
  obtain ⟨V, hV⟩ : ∃ V, w.alloc (.cells #[.slice (some ⟨A, 0, none⟩) n n, .bool c] 213) = V := ⟨_, rfl⟩
  rw [hV] at c0 c1 HBV HS2 HE2 HAV
  obtain ⟨res, hres⟩ : ∃ res, cooE k R C left free f c (ws.map (·.data.toList)) = res := ⟨_, rfl⟩
  rw [hres]
  have HRES := hid hres
  clear hres
  have bad : ∀ (er : Nat) (W : World), er ≠ 0 → cooE k R C left free f c (ws.map (·.data.toList)) = (er, .first) → Below V.heap.size V W → Hid (StepT w p S res (.returned (.tuple #[.nilFunc, .int .i64 (er : Int)])) W) := fun er W h0 hr hW => by
    have : StepT V p S res (.returned (.tuple #[.nilFunc, .int .i64 (er : Int)])) W := by
      rw [← HRES.out, hr]
      exact ⟨_, rfl, ⟨default, default, default, .inr rfl⟩, Kept.ofBelow hW, ⟨_, HE2.out.arr.belowAll hW, rfl⟩, fun h => (h0 h).elim⟩
    exact this.lift (HB.out ▸ HBV.out)
  unfold lineV
  cases c with
  | true =>
    have hfin := bad 6 V (by decide) (by unfold cooE; rw [if_pos (.inl rfl)]) (Below.refl _ _)
    clear bad
    go_enter Tryz.func213, Tryz.ntmps213
    go_wp2
    go_ret2
    exact hfin.out
  | false =>
    by_cases h1 : n = 3
    · subst h1
      obtain ⟨x0, x1, x2, hx⟩ : ∃ x0 x1 x2, ws = [x0, x1, x2] := by
        match ws, HN.out with
        | [x0, x1, x2], _ => exact ⟨x0, x1, x2, rfl⟩
      have hce : cooE k R C left free f false (ws.map (·.data.toList)) = match wholesL [x0.data.toList, x1.data.toList] with
        | some [i, j] => if left = 0 then (10, .first) else match idxP free ((i : Int) - 1) ((j : Int) - 1) with
          | some q => putT k R C left free f q x2.data.toList
          | none => (9, .first)
        | _ => (6, .first) := by
        unfold cooE
        rw [if_neg (by rw [List.length_map, HN.out]; simp), hx]
        rfl
      have hst2 : StrsAt V (some ⟨A, 0, none⟩) [x0, x1] := fun j y hj => by
        refine HS2.out j y ?_
        rw [hx]
        match j, hj with
        | 0, hj => exact hj
        | 1, hj => exact hj
      obtain ⟨gA, off, hA, hAl, d2⟩ := HS2.out 2 x2 (by rw [hx]; rfl)
      cases hA
      have hsz2 := hsz x2 (by rw [hx]; simp)
      have HW := hid (wholes_any V (some ⟨A, 0, none⟩) 2 3 [x0, x1] rfl (by omega) (fun y hy => hsz y (by rw [hx]; simp at hy ⊢; rcases hy with rfl | rfl <;> simp)) hst2)
      have hwl : ∀ l, wholesL [x0.data.toList, x1.data.toList] = some l → (∀ n ∈ l, n < 1000000000) ∧ l.length = 2 := fun l h => ⟨wholesL_lt h, by rw [wholesL_len h]; rfl⟩
      simp only [List.map_cons, List.map_nil] at HW
      generalize wholesL [x0.data.toList, x1.data.toList] = wl at *
      have HCE := hid hce
      have HD2 : Hid (V.cell? ⟨A, 2, none⟩ = some (.string x2)) := by show V.cell? _ = _; simpa using d2
      have HAL := hid hAl
      clear hce hst2 d2 hAl hx
      go_enter Tryz.func213, Tryz.ntmps213
      go_wp2_with fail
      refine HW.out.mono ?_
      rintro e W1 ⟨hwr, b1⟩
      clear HW c0 c1 hV
      rcases hwr with ⟨rfl, rfl⟩ | ⟨l, v, rfl, rfl, hrow⟩
      · have hfin := bad 6 W1 (by decide) (by rw [HCE.out]) b1
        clear bad b1
        go_wp2
        go_ret2
        exact hfin.out
      · obtain ⟨hl9, hl2⟩ := hwl l rfl
        obtain ⟨i, j, rfl⟩ : ∃ i j, l = [i, j] := by
          match l, hl2 with
          | [i, j], _ => exact ⟨i, j, rfl⟩
        obtain ⟨ao, cap, rfl, _, hc⟩ := ints_at hrow
        simp only [List.length_cons, List.length_nil, Nat.zero_add, Nat.reduceAdd] at hc hrow ⊢
        obtain ⟨gv, rfl, hgv, hgl, hcc⟩ := hc (by omega)
        have v0 := hcc 0 i rfl
        have v1 := hcc 1 j rfl
        have hi9 := hl9 i (by simp)
        have hj9 := hl9 j (by simp)
        have e3 := HE2.out.below b1
        have p8 := e3.arr.cell (i := 8) rfl
        have HE3 := hid e3
        have HB1 := hid b1
        have HV0 := hid v0
        have HV1 := hid v1
        clear hcc hc hrow hl9 hl2 hwl e3 b1 v0 v1
        by_cases h0 : left = 0
        · have hfin := bad 10 W1 (by decide) (by rw [HCE.out]; simp only; rw [if_pos h0]) HB1.out
          clear bad
          have h0' : (left : Int) = 0 := by omega
          go_wp2
          go_ret2
          exact hfin.out
        · have h0' : ¬ (left : Int) = 0 := by omega
          go_wp2_with fail
          obtain ⟨ao2, cap2, hfv, hpl, hcp, _⟩ := FreeAt.shape (B := 0) HE3.out.rowF.row
          have HE4 := HE3.out
          rw [hfv] at HE4
          have hE4 : EntC W1.drew p S (stV (entF k) p) bytes g (.slice ao2 free.length cap2) k R C left free f [] := HE4.frame (fun _ _ => rfl) (Nat.le_refl _)
          have hlen := HE4.len
          have hpl2 : PlcsAt W1.drew ao2 free := hpl
          have b2 : Below V.heap.size V W1.drew := HB1.out.drew
          have v0 : W1.drew.cell? ⟨gv, 0, none⟩ = some (.int .i64 (i : Int)) := HV0.out
          have v1 : W1.drew.cell? ⟨gv, 1, none⟩ = some (.int .i64 (j : Int)) := HV1.out
          have hgl2 : gv < W1.drew.heap.size := hgl
          refine wp_region_held (S := fun W' => Arr W' p 167 (rdC (stV (entF k) p) bytes k R C (.slice (some ⟨g, 0, none⟩) (R * C) (R * C)) true (.slice ao2 free.length cap2) left) ∧ W'.cell? ⟨gv, 0, none⟩ = some (.int .i64 (i : Int)) ∧ W'.cell? ⟨gv, 1, none⟩ = some (.int .i64 (j : Int))) hmix ?_
          change wpAnyH _ _ _ _ _ _ _ _ W1.drew
          clear HE4 HV0 HV1 hgl hpl p8 HE3 HB1
          generalize W1.drew = Vd at *
          have hSS := And.intro hE4.arr (And.intro v0 v1)
          refine wpAnyH_take (i := 0) (v := .pointer (some ⟨p, 0, none⟩)) rfl (by kernel_rfl) (by kernel_rfl) (by kernel_rfl) (fun _ _ _ h => h) (Or.inl ⟨by rfl, fun W' hS => ?_⟩) hSS ?_
          · clear hS
            go_simp
          simp only [Act.put]
          refine wpAnyH_take (i := 1) (v := .pointer (some ⟨p, 0, none⟩)) rfl (by kernel_rfl) (by kernel_rfl) (by kernel_rfl) (fun _ _ _ h => h) (Or.inl ⟨by rfl, fun W' hS => ?_⟩) hSS ?_
          · clear hS
            go_simp
          simp only [Act.put]
          refine wpAnyH_take (i := 2) (v := .pointer (some ⟨p, 7, none⟩)) rfl (by kernel_rfl) (by kernel_rfl) (by kernel_rfl) (fun _ _ _ h => h) (Or.inl ⟨by rfl, fun W' hS => ?_⟩) hSS ?_
          · clear hS
            go_simp
          simp only [Act.put]
          refine wpAnyH_take (i := 3) (v := .slice ao2 free.length cap2) rfl (by kernel_rfl) (by kernel_rfl) (by kernel_rfl) (fun _ _ _ h => h) (Or.inl ⟨by rfl, fun W' hS => ?_⟩) hSS ?_
          · have q0 := hS.1.cell (i := 7) rfl
            clear hS
            go_simp
          simp only [Act.put]
          refine wpAnyH_take (i := 4) (v := .slice (some ⟨gv, 0, none⟩) 2 cap) rfl (by kernel_rfl) (by kernel_rfl) (by kernel_rfl) (fun _ _ _ h => h) (Or.inl ⟨by rfl, fun W' hS => ?_⟩) hSS ?_
          · clear hS
            go_simp
          simp only [Act.put]
          refine wpAnyH_take (i := 5) (v := .pointer (some ⟨gv, 0, none⟩)) rfl (by kernel_rfl) (by kernel_rfl) (by kernel_rfl) (fun _ _ _ h => h) (Or.inl ⟨by rfl, fun W' hS => ?_⟩) hSS ?_
          · clear hS
            go_simp
          simp only [Act.put]
          refine wpAnyH_take (i := 6) (v := .int .i64 (i : Int)) rfl (by kernel_rfl) (by kernel_rfl) (by kernel_rfl) (fun _ _ _ h => h) (Or.inl ⟨by rfl, fun W' hS => ?_⟩) hSS ?_
          · have q0 := hS.2.1
            clear hS
            go_simp
          simp only [Act.put]
          refine wpAnyH_take (i := 7) (v := .int .i64 ((i : Int) - 1)) rfl (by kernel_rfl) (by kernel_rfl) (by kernel_rfl) (fun _ _ _ h => h) (Or.inl ⟨by rfl, fun W' hS => ?_⟩) hSS ?_
          · have q0 := (show IntKind.i64.wrap ((i : Int) - 1) = (i : Int) - 1 by rw [IntKind.wrap_i64]; omega)
            clear hS
            go_simp
          simp only [Act.put]
          refine wpAnyH_take (i := 8) (v := .slice (some ⟨gv, 0, none⟩) 2 cap) rfl (by kernel_rfl) (by kernel_rfl) (by kernel_rfl) (fun _ _ _ h => h) (Or.inl ⟨by rfl, fun W' hS => ?_⟩) hSS ?_
          · clear hS
            go_simp
          simp only [Act.put]
          refine wpAnyH_take (i := 9) (v := .pointer (some ⟨gv, 1, none⟩)) rfl (by kernel_rfl) (by kernel_rfl) (by kernel_rfl) (fun _ _ _ h => h) (Or.inl ⟨by rfl, fun W' hS => ?_⟩) hSS ?_
          · clear hS
            go_simp
          simp only [Act.put]
          refine wpAnyH_take (i := 10) (v := .int .i64 (j : Int)) rfl (by kernel_rfl) (by kernel_rfl) (by kernel_rfl) (fun _ _ _ h => h) (Or.inl ⟨by rfl, fun W' hS => ?_⟩) hSS ?_
          · have q0 := hS.2.2
            clear hS
            go_simp
          simp only [Act.put]
          refine wpAnyH_take (i := 11) (v := .int .i64 ((j : Int) - 1)) rfl (by kernel_rfl) (by kernel_rfl) (by kernel_rfl) (fun _ _ _ h => h) (Or.inl ⟨by rfl, fun W' hS => ?_⟩) hSS ?_
          · have q0 := (show IntKind.i64.wrap ((j : Int) - 1) = (j : Int) - 1 by rw [IntKind.wrap_i64]; omega)
            clear hS
            go_simp
          simp only [Act.put]
          refine wpAnyH_take (i := 12) (v := .agg #[.int .i64 ((i : Int) - 1), .int .i64 ((j : Int) - 1)]) rfl (by kernel_rfl) (by kernel_rfl) (by kernel_rfl) (fun _ _ _ h => h) (Or.inl ⟨by rfl, fun W' hS => ?_⟩) hSS ?_
          · clear hS
            go_simp
          simp only [Act.put]
          have hix := index_any Vd ao2 free.length cap2 free ((i : Int) - 1) ((j : Int) - 1) rfl (by omega) hpl2
          refine wpAnyH_ready (rs := [13]) (by kernel_rfl) (by simp) ?_
          refine AllReadyH.cons rfl (fun K hKK => ?_) AllReadyH.nil
          go_simp
          refine hix.mono ?_
          rintro e W3 ⟨rfl, b3⟩
          have hE5 := hE4.below b3
          have hS5 : Arr W3 p 167 (rdC (stV (entF k) p) bytes k R C (.slice (some ⟨g, 0, none⟩) (R * C) (R * C)) true (.slice ao2 free.length cap2) left) ∧ W3.cell? ⟨gv, 0, none⟩ = some (.int .i64 (i : Int)) ∧ W3.cell? ⟨gv, 1, none⟩ = some (.int .i64 (j : Int)) :=
            ⟨hE5.arr, (b3.cell (p := ⟨gv, 0, none⟩) hgl2).trans v0, (b3.cell (p := ⟨gv, 1, none⟩) hgl2).trans v1⟩
          refine hKK.out _ _ hS5 (fun hHeld => ?_)
          clear hKK hHeld hix hSS hpl2 v0 v1
          have b4 : Below V.heap.size V W3 := b2.trans (b3.mono b2.size)
          cases hip : idxP free ((i : Int) - 1) ((j : Int) - 1) with
          | none =>
            have hfin := bad 9 W3 (by decide) (by rw [HCE.out, if_neg h0, hip]) b4
            simp only [idxV]
            refine wpAnyH_take (i := 14) (v := .int .i64 (-1)) rfl (by kernel_rfl) (by kernel_rfl) (by kernel_rfl) (fun _ _ _ h => h) (Or.inl ⟨by rfl, fun W' hS => ?_⟩) hS5 ?_
            · clear hS
              go_simp
            simp only [Act.put, List.getElem_toArray, List.getElem_cons_succ, List.getElem_cons_zero, List.setIfInBounds_toArray, List.set_cons_succ, List.set_cons_zero]
            refine wpAnyH_done (by kernel_rfl) ?_ _
            clear bad b4 b3 b2 hS5 hE5 hE4 hip
            go_wp2
            go_ret2
            exact hfin.out
          | some q =>
            obtain ⟨⟨q1, q2⟩, hq⟩ := idxP_at hip
            have hqn : q < free.length := (List.getElem?_eq_some_iff.1 hq).1
            have hr : res = putT k R C left free f q x2.data.toList := by rw [← HRES.out, HCE.out, if_neg h0, hip]
            simp only [idxV]
            refine wpAnyH_take (i := 14) (v := .int .i64 (q : Int)) rfl (by kernel_rfl) (by kernel_rfl) (by kernel_rfl) (fun _ _ _ h => h) (Or.inl ⟨by rfl, fun W' hS => ?_⟩) hS5 ?_
            · clear hS
              go_simp
            simp only [Act.put, List.getElem_toArray, List.getElem_cons_succ, List.getElem_cons_zero, List.setIfInBounds_toArray, List.set_cons_succ, List.set_cons_zero]
            refine wpAnyH_done (by kernel_rfl) ?_ _
            have hput := put_any W3 p S (stV (entF k) p) bytes g _ k R C left free f [] q free.length q1 q2 x2 hsz2 hE5 rfl hq (by omega)
            have HPUT : Hid _ := hid (hput.mono (fun e w' h => put_step hq ⟨_, hE5.arr, rfl⟩ h))
            have hst : stV (entF k) p = .func (.func 213) #[.pointer (some ⟨p, 0, none⟩)] #[] := by rw [HEF.out]; rfl
            rw [hst, ← hr] at HPUT
            have l0 := (HAV.out.belowAll b4).cell (i := 0) rfl
            have l2 : W3.cell? ⟨A, 2, none⟩ = some (.string x2) := (b4.cell (p := ⟨A, 2, none⟩) HAL.out).trans HD2.out
            have HB4 := hid b4
            clear hst hput hr hip b4 b3 b2 hS5 hE5 hE4 bad hq
            go_wp2_with fail
            refine HPUT.out.mono ?_
            rintro e W4 ⟨hfin, rfl⟩
            have HFIN := hid ((hfin.lift HB4.out).lift (HB.out ▸ HBV.out))
            clear HPUT hfin l0 l2
            go_wp2
            go_ret2
            exact HFIN.out
    · have h1' : ¬ (n : Int) = 3 := by omega
      have hfin := bad 6 V (by decide) (by unfold cooE; rw [if_pos (.inr (by rw [List.length_map, HN.out]; exact h1))]) (Below.refl _ _)
      clear bad
      go_enter Tryz.func213, Tryz.ntmps213
      go_wp2
      go_ret2
      exact hfin.out
end Go.Proofs.YthdcceackfdbbaaGreatDoor
namespace Go.Proofs.YthdcceackfdbbaaGreatDoor
open Go Go.RowKit
def tF : TSt → Nat
  | .first => 114
  | .sizes _ => 149
  | .ent k _ _ _ _ _ => entF k
def stepT (c : Bool) (ws : List (List UInt8)) : TSt → Nat × TSt
  | .first => firstT ws
  | .sizes k => sizesT k c ws
  | .ent k R C left free f => if k = 2 ∨ k = 3 then cooE k R C left free f c ws else arrE k R C left free f c ws
def lineT (t : TSt) (l : List UInt8) : Nat × TSt := if wordsL l = [] then (0, t) else stepT (decide (l.head? = some 37)) (wordsL l) t
theorem step_any (w : World) (p : Nat) (S : Nat → Prop) (t : TSt) (A n : Nat) (ws : List ByteArray) (c : Bool) (hn : ws.length = n) (hn1 : n ≤ 1000000) (hsz : ∀ x ∈ ws, x.size ≤ 1000000) (hs : StrsAt w (some ⟨A, 0, none⟩) ws) (h : TextIs w p S [] t) :
    Calls Tryz.prog (tF t) #[.pointer (some ⟨p, 0, none⟩), lineV A n c] w fun e w' => StepT w p S (stepT c (ws.map (·.data.toList)) t) e w' := by
  cases t with
  | first => exact first_step w p S A n ws c hn hn1 hs h
  | sizes k => exact sizes_step w p S k A n ws c hn hn1 hsz hs h
  | ent k R C left free f =>
    by_cases hkk : k = 2 ∨ k = 3
    · have e1 : tF (.ent k R C left free f) = 213 := by simp only [tF, entF]; rw [if_pos hkk]
      have e2 : stepT c (ws.map (·.data.toList)) (.ent k R C left free f) = cooE k R C left free f c (ws.map (·.data.toList)) := by simp only [stepT]; rw [if_pos hkk]
      rw [e1, e2]
      exact coordinateEntry_step w p S k R C left free f A n ws c hkk hn hn1 hsz hs h
    · have e1 : tF (.ent k R C left free f) = 214 := by simp only [tF, entF]; rw [if_neg hkk]
      have e2 : stepT c (ws.map (·.data.toList)) (.ent k R C left free f) = arrE k R C left free f c (ws.map (·.data.toList)) := by simp only [stepT]; rw [if_neg hkk]
      rw [e1, e2]
      exact arrayEntry_step w p S k R C left free f A n ws c hkk hn hn1 hsz hs h
theorem step_enters (t : TSt) : ∀ args w, (callFunc (tF t) args).run Tryz.prog w = .ok (.enter (tF t) args) w := by
  cases t with
  | first => exact enters_of Tryz.func114 (by kernel_rfl) rfl
  | sizes k => exact enters_of Tryz.func149 (by kernel_rfl) rfl
  | ent k R C left free f =>
    simp only [tF, entF]
    split
    · exact enters_of Tryz.func213 (by kernel_rfl) rfl
    · exact enters_of Tryz.func214 (by kernel_rfl) rfl
theorem TextIs.open {w : World} {p : Nat} {S : Nat → Prop} {cur : List UInt8} {t : TSt} (h : TextIs w p S cur t) : S p ∧ ∃ bytes rest, Arr w p 167 (stV (tF t) p :: bytes :: rest) ∧ rest.length = 7 ∧ RowIn w S 5 1 bytes cur.length (u8s cur) := by
  cases t with
  | first => obtain ⟨h1, b, h2, h3⟩ := h; exact ⟨h1, b, _, h2, rfl, h3⟩
  | sizes k => obtain ⟨_, h1, b, h2, h3⟩ := h; exact ⟨h1, b, _, h2, rfl, h3⟩
  | ent k R C left free f => obtain ⟨b, g, fv, h⟩ := h; exact ⟨h.own, b, _, h.arr, rfl, h.rowB⟩
theorem TextIs.setBytes {w w2 : World} {p : Nat} {S T : Nat → Prop} {cur cur' : List UInt8} {t : TSt} {b' : Value} (h : TextIs w p S cur t) (hT : ∀ q, S q → T q)
    (hk : ∀ (q : Nat) (o : Obj), S q → w.heap[q]? = some o → (∀ c, o ≠ .cells c 5 (0, 0)) → w2.heap[q]? = some o) (hr : RowIn w2 T 5 1 b' cur'.length (u8s cur')) : TextIs (w2.setCell ⟨p, 1, none⟩ b') p T cur' t := by
  cases t with
  | first =>
    obtain ⟨h1, b, h2, h3⟩ := h
    have a2 : Arr w2 p 167 _ := hk p _ h1 h2 (fun c e => by cases e)
    exact ⟨hT p h1, b', a2.set 1 b', hr.set a2 (by decide) _⟩
  | sizes k =>
    obtain ⟨h0, h1, b, h2, h3⟩ := h
    have a2 : Arr w2 p 167 _ := hk p _ h1 h2 (fun c e => by cases e)
    exact ⟨h0, hT p h1, b', a2.set 1 b', hr.set a2 (by decide) _⟩
  | ent k R C left free f =>
    obtain ⟨b, g, fv, h⟩ := h
    have a2 : Arr w2 p 167 _ := hk p _ h.own h.arr (fun c e => by cases e)
    obtain ⟨v, hv1, hv2⟩ := h.arrG
    have g2 : Arr w2 g 65 v := hk g _ h.ownG hv1 (fun c e => by cases e)
    have g3 : Arr (w2.setCell ⟨p, 1, none⟩ b') g 65 v := g2.other _ (Ne.symm h.lt.2.2)
    have f2 : RowIn w2 T 117 2 fv free.length (plcC free) := by
      refine (h.rowF.keep (w' := w2) (fun q hq => ?_)).mono hT
      obtain ⟨_, c, hc⟩ := h.rowF.lt q hq
      rw [hc]
      exact hk q _ (h.rowF.own q hq) hc (fun c e => by cases e)
    refine ⟨b', g, fv, hT p h.own, a2.set 1 b', hr.set a2 (by decide) _, hT g h.ownG, ⟨v, g3, hv2⟩, ⟨g3.lt, fun i j hi hj => ?_⟩, f2.set a2 (by decide) _, h.hk, h.hR, h.hC, h.sq, h.free_in, h.len, h.left_le⟩
    have e1 := h.mem.2 i j hi hj
    have hlt : i * C + j < v.length := by rw [hv2]; exact idx_lt hi hj
    obtain ⟨y, hy⟩ : ∃ y, v[i * C + j]? = some y := ⟨v[i * C + j], by simp [hlt]⟩
    rw [hv1.cell hy] at e1
    rw [g3.cell hy]; exact e1
theorem row_conv {w : World} {S : Nat → Prop} {v : Value} {l : List UInt8} (h : RowIn w S 5 1 v l.length (u8s l)) : (convert 72 9 v).run Tryz.prog w = .ok (.string ⟨l.toArray⟩) w := by
  obtain ⟨_, ⟨rfl, h0⟩ | ⟨g, cap, cur, rfl, _, hg, _, _, _, htk⟩⟩ := h.row
  · have : l = [] := List.length_eq_zero_iff.1 h0
    subst this
    rw [run_convert_bytes_string w 72 9 5 none 0 0 Tryz.underlying72 Tryz.underlying5 Tryz.underlying9]
    simp [Conv.bytesToString]
    rfl
  · refine run_convert_bytes_back w 72 9 5 ⟨g, 0, none⟩ cap l Tryz.underlying72 Tryz.underlying5 Tryz.underlying9 (fun j hj => ?_)
    rw [Lib.add_plain, Nat.zero_add]
    have h1 : (u8s l)[j]? = some (.int .u8 (l[j].toNat : Int)) := by unfold u8s; rw [List.getElem?_map]; simp [hj]
    rw [← htk, List.getElem?_take, if_pos (by omega)] at h1
    simp only [World.cell?, hg]
    simpa using h1
theorem RowIn.cut0 {w : World} {S : Nat → Prop} {e : TypeId} {a : Option Addr} {n cap : Nat} {xs : List Value} (h : RowIn w S e 1 (.slice a n cap) n xs) : RowIn w S e 1 (.slice a 0 cap) 0 [] := by
  obtain ⟨_, ⟨h1, h0⟩ | ⟨g, cap', cur, h1, hB, hg, h2, h3, h4, htk⟩⟩ := h.row
  · cases h1; exact RowIn.nil _ _ _ _
  · cases h1
    exact ⟨⟨rfl, .inr ⟨g, cap, cur, rfl, hB, hg, Nat.zero_le _, h3, h4, by simp⟩⟩, h.own⟩
def LineR (w : World) (p : Nat) (S : Nat → Prop) (r : Nat × TSt) (e : Ending) (w' : World) : Prop :=
  e = .returned (.int .i64 (r.1 : Int)) ∧ Kept S w w' ∧ (r.1 = 0 → TextIs w' p (plus S w w') [] r.2)
end Go.Proofs.YthdcceackfdbbaaGreatDoor
namespace Go.Proofs.YthdcceackfdbbaaGreatDoor
open Go Go.RowKit
def txtC (kind : Nat) (sized : Bool) (want had R C : Nat) (bits seen : Value) : List Value :=
  [.int .i64 (kind : Int), .bool sized, .int .i64 (want : Int), .int .i64 (had : Int), .int .i64 (R : Int), .int .i64 (C : Int), bits, seen]
theorem wordsGo_clean : ∀ (l cur : List UInt8), (∀ b ∈ cur, blankP b.toNat = false) → ∀ x ∈ wordsGo cur l, ∀ b ∈ x, blankP b.toNat = false
  | [], cur, hc, x, hx => by
    simp only [wordsGo] at hx
    split at hx
    · simp at hx
    · simp at hx; subst hx; exact hc
  | c :: r, cur, hc, x, hx => by
    simp only [wordsGo] at hx
    split at hx
    · split at hx
      · exact wordsGo_clean r [] (by simp) x hx
      · rcases List.mem_cons.1 hx with rfl | hx
        · exact hc
        · exact wordsGo_clean r [] (by simp) x hx
    · rename_i hb
      refine wordsGo_clean r (cur ++ [c]) (fun b hb2 => ?_) x hx
      rcases List.mem_append.1 hb2 with h | h
      · exact hc b h
      · simp at h; subst h; simpa using hb
theorem words_clean {l x : List UInt8} (h : x ∈ wordsL l) : ∀ b ∈ x, blankP b.toNat = false := wordsGo_clean l [] (by simp) x h
theorem wordsGo_len : ∀ (l cur : List UInt8), ∀ x ∈ wordsGo cur l, x.length ≤ cur.length + l.length
  | [], cur, x, hx => by
    simp only [wordsGo] at hx
    split at hx
    · simp at hx
    · simp at hx; subst hx; simp
  | c :: r, cur, x, hx => by
    simp only [wordsGo] at hx
    split at hx
    · split at hx
      · have := wordsGo_len r [] x hx; simp at this ⊢; omega
      · rcases List.mem_cons.1 hx with rfl | hx
        · simp
        · have := wordsGo_len r [] x hx; simp at this ⊢; omega
    · have := wordsGo_len r (cur ++ [c]) x hx
      simp at this ⊢; omega
theorem words_len {l x : List UInt8} (h : x ∈ wordsL l) : x.length ≤ l.length := by
  have := wordsGo_len l [] x h
  simpa using this
theorem join_two {a b c d : List UInt8} (ha : ∀ x ∈ a, x ≠ 32) (hc : ∀ x ∈ c, x ≠ 32) (h : a ++ 32 :: b = c ++ 32 :: d) : a = c ∧ b = d := by
  induction a generalizing c with
  | nil =>
    cases c with
    | nil => simp at h; exact ⟨rfl, h⟩
    | cons y r => simp at h; exact absurd h.1.symm (hc y (by simp))
  | cons x r ih =>
    cases c with
    | nil => simp at h; exact absurd h.1 (ha x (by simp))
    | cons y s =>
      simp at h
      obtain ⟨h1, h2⟩ := ih (fun z hz => ha z (by simp [hz])) (fun z hz => hc z (by simp [hz])) h.2
      exact ⟨by rw [h.1, h1], h2⟩
theorem ba_of {a : ByteArray} {l : List UInt8} (h : a.toList = l) : a = ⟨l.toArray⟩ := ba_inj (by rw [← bytes_toList, h])
theorem join_list (a b : ByteArray) : (a ++ (⟨#[32]⟩ : ByteArray) ++ b).toList = a.toList ++ 32 :: b.toList := by
  rw [bytes_toList, bytes_toList, bytes_toList, ByteArray.data_append, Array.toList_append, ByteArray.data_append, Array.toList_append]
  simp
theorem first_key {a0 a1 a2 a3 a4 : ByteArray} (h2 : ∀ b ∈ a2.data.toList, b ≠ 32) (A B : List UInt8) (hA : ∀ x ∈ A, x ≠ 32) :
    [a0, a1, a2, a3, a4] = [⟨#[37, 37, 77, 97, 116, 114, 105, 120, 77, 97, 114, 107, 101, 116]⟩, ⟨#[109, 97, 116, 114, 105, 120]⟩, ⟨A.toArray⟩, ⟨#[114, 101, 97, 108]⟩, ⟨B.toArray⟩] ↔ (a0.toList = [37, 37, 77, 97, 116, 114, 105, 120, 77, 97, 114, 107, 101, 116] ∧ a1.toList = [109, 97, 116, 114, 105, 120] ∧ a3.toList = [114, 101, 97, 108] ∧ (a2 ++ (⟨#[32]⟩ : ByteArray) ++ a4).toList = A ++ 32 :: B) := by
  constructor
  · intro h
    injection h with h0 h
    injection h with h1 h
    injection h with h2' h
    injection h with h3 h
    injection h with h4 _
    subst h0 h1 h2' h3 h4
    refine ⟨by rw [bytes_toList], by rw [bytes_toList], by rw [bytes_toList], ?_⟩
    rw [join_list, bytes_toList, bytes_toList]
  · rintro ⟨h0, h1, h3, h⟩
    rw [join_list, bytes_toList, bytes_toList] at h
    obtain ⟨e1, e2⟩ := join_two h2 hA h
    rw [ba_of h0, ba_of h1, ba_of h3, show a2 = ⟨A.toArray⟩ from ba_inj (by rw [e1]), show a4 = ⟨B.toArray⟩ from ba_inj (by rw [e2])]
def sepL (k : Nat) : List UInt8 := if k = 0 then [97, 114, 114, 97, 121, 32, 103, 101, 110, 101, 114, 97, 108] else if k = 1 then [97, 114, 114, 97, 121, 32, 115, 121, 109, 109, 101, 116, 114, 105, 99] else if k = 2 then [99, 111, 111, 114, 100, 105, 110, 97, 116, 101, 32, 103, 101, 110, 101, 114, 97, 108] else [99, 111, 111, 114, 100, 105, 110, 97, 116, 101, 32, 115, 121, 109, 109, 101, 116, 114, 105, 99]
theorem first_key4 {a0 a1 a2 a3 a4 : ByteArray} (h2 : ∀ b ∈ a2.data.toList, b ≠ 32) (k : Nat) (hk : k ≤ 3) :
    [a0, a1, a2, a3, a4] = firstW k ↔ (a0.toList = [37, 37, 77, 97, 116, 114, 105, 120, 77, 97, 114, 107, 101, 116] ∧ a1.toList = [109, 97, 116, 114, 105, 120] ∧ a3.toList = [114, 101, 97, 108] ∧ (a2 ++ (⟨#[32]⟩ : ByteArray) ++ a4).toList = sepL k) := by
  rcases (by omega : k = 0 ∨ k = 1 ∨ k = 2 ∨ k = 3) with rfl | rfl | rfl | rfl
  · exact first_key h2 [97, 114, 114, 97, 121] [103, 101, 110, 101, 114, 97, 108] (by decide)
  · exact first_key h2 [97, 114, 114, 97, 121] [115, 121, 109, 109, 101, 116, 114, 105, 99] (by decide)
  · exact first_key h2 [99, 111, 111, 114, 100, 105, 110, 97, 116, 101] [103, 101, 110, 101, 114, 97, 108] (by decide)
  · exact first_key h2 [99, 111, 111, 114, 100, 105, 110, 97, 116, 101] [115, 121, 109, 109, 101, 116, 114, 105, 99] (by decide)
def FirstR (w : World) (p : Nat) (r : Option Nat) (e : Ending) (w' : World) : Prop :=
  e = .returned (.int .i64 (((if r = none then 6 else 0 : Nat)) : Int)) ∧ Kept (fun q => q = p) w w' ∧ (∀ k, r = some k → Arr w' p 133 (txtC k false 0 0 0 0 (.slice none 0 0) (.slice none 0 0)))
set_option maxRecDepth 20000 in
set_option maxHeartbeats 2000000 in
theorem rfirst_any (w : World) (p : Nat) (x : ByteArray) (hx : x.size ≤ 1000) (h : Arr w p 133 (txtC 0 false 0 0 0 0 (.slice none 0 0) (.slice none 0 0))) :
    Calls Tryz.prog 83 #[.pointer (some ⟨p, 0, none⟩), .string x] w fun e w' => FirstR w p (firstK (wordsL x.data.toList)) e w' := by
  have hwd := rwords_any w x x.size rfl (by omega)
  have HWD := hid hwd
  have HA := hid h
  obtain ⟨r, hr⟩ : ∃ r, firstK (wordsL x.data.toList) = r := ⟨_, rfl⟩
  rw [hr]
  have HR := hid hr
  clear hwd h hr
  go_enter Tryz.func83, Tryz.ntmps83
  go_wp2_with fail
  refine HWD.out.mono ?_
  rintro e W1 ⟨⟨v, ws, rfl, hws, hown⟩, b1⟩
  have HK1 : Hid (Kept (fun q => q = p) w W1) := Kept.ofBelow b1
  have HA1 := hid (HA.out.belowAll b1)
  rw [← hws] at HR
  have hcl : ∀ y ∈ ws, ∀ b ∈ y.data.toList, b ≠ 32 := fun y hy b hb e => by
    have := words_clean (l := x.data.toList) (x := y.data.toList) (by rw [← hws]; exact List.mem_map_of_mem hy) b hb
    subst e
    simp [blankP] at this
  have hln : ∀ y ∈ ws, y.size ≤ 1000 := fun y hy => by
    have h1 := words_len (l := x.data.toList) (x := y.data.toList) (by rw [← hws]; exact List.mem_map_of_mem hy)
    have h2 := bytes_size (s := x) rfl
    have h3 := bytes_size (s := y) rfl
    omega
  have none_of : (∀ j, j < 4 → ws ≠ firstW j) → Hid (r = none) := fun hn => by
    have := firstK_none hn
    rw [HR.out] at this
    exact this
  by_cases h5 : ws.length = 5
  · obtain ⟨a0, a1, a2, a3, a4, rfl⟩ : ∃ a0 a1 a2 a3 a4, ws = [a0, a1, a2, a3, a4] := by
      match ws, h5 with
      | [a0, a1, a2, a3, a4], _ => exact ⟨a0, a1, a2, a3, a4, rfl⟩
    obtain ⟨g, cap, rfl⟩ : ∃ g cap, v = .slice (some ⟨g, 0, none⟩) 5 cap := by
      rcases hown.2 with ⟨_, h3⟩ | ⟨g, cap, cur, e, _⟩
      · cases h3
      · exact ⟨g, cap, e⟩
    have c0 := hown.cellAt 0 (by simp)
    have c1 := hown.cellAt 1 (by simp)
    have c2 := hown.cellAt 2 (by simp)
    have c3 := hown.cellAt 3 (by simp)
    have c4 := hown.cellAt 4 (by simp)
    simp [strL] at c0 c1 c2 c3 c4
    have key : ∀ k, k ≤ 3 → _ := fun k hk => first_key4 (a0 := a0) (a1 := a1) (a3 := a3) (a4 := a4) (hcl a2 (by simp)) k hk
    have HKEY := hid key
    have hs2 := hln a2 (by simp)
    have hs4 := hln a4 (by simp)
    clear key hws hown hcl h5 HWD b1 HA hln
    by_cases e0 : a0.toList = [37, 37, 77, 97, 116, 114, 105, 120, 77, 97, 114, 107, 101, 116]
    · by_cases e1 : a1.toList = [109, 97, 116, 114, 105, 120]
      · by_cases e3 : a3.toList = [114, 101, 97, 108]
        · have e3' : (!a3.toList == [114, 101, 97, 108]) = false := by rw [e3]; decide
          obtain ⟨u, hu⟩ : ∃ u, a2 ++ (⟨#[32]⟩ : ByteArray) ++ a4 = u := ⟨_, rfl⟩
          rw [hu] at HKEY
          go_wp2_with fail
          go_quiet (fail)
          clear e3' hs2 hs4 c0 c1 c2 c3 c4 hu
          have cc := HA1.out.cell (i := 0) rfl
          have ff := HA1.out.frozen 0
          have fin : ∀ (k : Nat), k ≤ 3 → u.toList = sepL k → Hid (∀ (nq : Nat), FirstR w p r (.returned (.int .i64 0)) ((W1.drewN nq).setCell ⟨p, 0, none⟩ (.int .i64 (k : Int)))) := by
            intro k hk hs nq
            have hw : [a0, a1, a2, a3, a4] = firstW k := (HKEY.out k hk).2 ⟨e0, e1, e3, hs⟩
            have hrk : r = some k := by
              rw [← HR.out]
              refine firstK_some hk hw (fun j hj h => ?_)
              have h1 := ((HKEY.out j (by omega)).1 h).2.2.2
              rw [hs] at h1
              rcases (by omega : k = 1 ∨ k = 2 ∨ k = 3) with rfl | rfl | rfl
              · rcases (by omega : j = 0) with rfl
                exact absurd h1 (by decide)
              · rcases (by omega : j = 0 ∨ j = 1) with rfl | rfl <;> exact absurd h1 (by decide)
              · rcases (by omega : j = 0 ∨ j = 1 ∨ j = 2) with rfl | rfl | rfl <;> exact absurd h1 (by decide)
            subst hrk
            refine ⟨rfl, (HK1.out.trans (Kept.drewN (S := fun q => q = p) nq) (fun z h => .inl h)).trans (Kept.set (S := fun q => q = p) rfl _) (fun z h => .inl h), fun k' h => ?_⟩
            cases h
            have h1 : Arr (W1.drewN nq) p 133 _ := HA1.out
            exact h1.set 0 (.int .i64 (k : Int))
          have HFIN := hid fin
          clear fin
          by_cases s0 : u.toList = [97, 114, 114, 97, 121, 32, 103, 101, 110, 101, 114, 97, 108]
          · have hf := HFIN.out 0 (by omega) s0
            clear HFIN HKEY none_of HR
            go_wp2
            go_ret
            exact hf.out _
          · skip
            by_cases s1 : u.toList = [97, 114, 114, 97, 121, 32, 115, 121, 109, 109, 101, 116, 114, 105, 99]
            · have hf := HFIN.out 1 (by omega) s1
              have t0 : (u.toList == [97, 114, 114, 97, 121, 32, 103, 101, 110, 101, 114, 97, 108]) = false := by rw [beq_eq_false_iff_ne]; exact s0
              clear HFIN HKEY none_of HR
              go_wp2
              go_ret
              exact hf.out _
            · skip
              by_cases s2 : u.toList = [99, 111, 111, 114, 100, 105, 110, 97, 116, 101, 32, 103, 101, 110, 101, 114, 97, 108]
              · have hf := HFIN.out 2 (by omega) s2
                have t0 : (u.toList == [97, 114, 114, 97, 121, 32, 103, 101, 110, 101, 114, 97, 108]) = false := by rw [beq_eq_false_iff_ne]; exact s0
                have t1 : (u.toList == [97, 114, 114, 97, 121, 32, 115, 121, 109, 109, 101, 116, 114, 105, 99]) = false := by rw [beq_eq_false_iff_ne]; exact s1
                clear HFIN HKEY none_of HR
                go_wp2
                go_ret
                exact hf.out _
              · skip
                by_cases s3 : u.toList = [99, 111, 111, 114, 100, 105, 110, 97, 116, 101, 32, 115, 121, 109, 109, 101, 116, 114, 105, 99]
                · have hf := HFIN.out 3 (by omega) s3
                  have t0 : (u.toList == [97, 114, 114, 97, 121, 32, 103, 101, 110, 101, 114, 97, 108]) = false := by rw [beq_eq_false_iff_ne]; exact s0
                  have t1 : (u.toList == [97, 114, 114, 97, 121, 32, 115, 121, 109, 109, 101, 116, 114, 105, 99]) = false := by rw [beq_eq_false_iff_ne]; exact s1
                  have t2 : (u.toList == [99, 111, 111, 114, 100, 105, 110, 97, 116, 101, 32, 103, 101, 110, 101, 114, 97, 108]) = false := by rw [beq_eq_false_iff_ne]; exact s2
                  clear HFIN HKEY none_of HR
                  go_wp2
                  go_ret
                  exact hf.out _
                · have hn := none_of (fun j hj h => by
                    have h1 := ((HKEY.out j (by omega)).1 h).2.2.2
                    rcases (by omega : j = 0 ∨ j = 1 ∨ j = 2 ∨ j = 3) with rfl | rfl | rfl | rfl
                    · exact s0 h1
                    · exact s1 h1
                    · exact s2 h1
                    · exact s3 h1)
                  have t0 : (u.toList == [97, 114, 114, 97, 121, 32, 103, 101, 110, 101, 114, 97, 108]) = false := by rw [beq_eq_false_iff_ne]; exact s0
                  have t1 : (u.toList == [97, 114, 114, 97, 121, 32, 115, 121, 109, 109, 101, 116, 114, 105, 99]) = false := by rw [beq_eq_false_iff_ne]; exact s1
                  have t2 : (u.toList == [99, 111, 111, 114, 100, 105, 110, 97, 116, 101, 32, 103, 101, 110, 101, 114, 97, 108]) = false := by rw [beq_eq_false_iff_ne]; exact s2
                  have t3 : (u.toList == [99, 111, 111, 114, 100, 105, 110, 97, 116, 101, 32, 115, 121, 109, 109, 101, 116, 114, 105, 99]) = false := by rw [beq_eq_false_iff_ne]; exact s3
                  clear HFIN HKEY none_of
                  obtain rfl := hn.out
                  go_wp2
                  go_ret
                  exact ⟨rfl, HK1.out.trans (Kept.drewN (S := fun q => q = p) _) (fun z h => .inl h), fun k h => by cases h⟩
        · have hn := none_of (fun j hj h => e3 ((HKEY.out j (by omega)).1 h).2.2.1)
          have e3' : (!a3.toList == [114, 101, 97, 108]) = true := by simpa using e3
          clear HKEY none_of
          obtain rfl := hn.out
          go_wp2
          go_ret
          exact ⟨rfl, HK1.out, fun k h => by cases h⟩
      · have hn := none_of (fun j hj h => e1 ((HKEY.out j (by omega)).1 h).2.1)
        clear HKEY none_of
        obtain rfl := hn.out
        go_wp2
        go_ret
        exact ⟨rfl, HK1.out, fun k h => by cases h⟩
    · have hn := none_of (fun j hj h => e0 ((HKEY.out j (by omega)).1 h).1)
      clear HKEY none_of
      obtain rfl := hn.out
      go_wp2
      go_ret
      exact ⟨rfl, HK1.out, fun k h => by cases h⟩
  · have hn := none_of (fun j hj h => h5 (by rw [h, firstW_len]))
    have h5' : ((ws.length : Int) == 5) = false := by rw [beq_eq_false_iff_ne]; omega
    obtain ⟨vo, vn, vc, rfl⟩ : ∃ vo vn vc, v = .slice vo vn vc := by
      rcases hown.2 with ⟨e, _⟩ | ⟨g, cap, cur, e, _⟩
      · exact ⟨_, _, _, e⟩
      · exact ⟨_, _, _, e⟩
    have hvn : vn = ws.length := by
      rcases hown.2 with ⟨e, h0⟩ | ⟨g, cap, cur, e, _⟩
      · cases e; exact h0.symm
      · cases e; rfl
    subst hvn
    clear none_of hws hown hcl HWD b1 HA hln
    obtain rfl := hn.out
    go_wp2
    go_ret
    exact ⟨rfl, HK1.out, fun k h => by cases h⟩
end Go.Proofs.YthdcceackfdbbaaGreatDoor
