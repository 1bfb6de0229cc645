import Derived.Test.YthdcceackfdbbaaGreatDoorM24K
import Derived.Laws.IdiomStrings
import Derived.Laws.BytesArg
/- Own text: the reader of texts: entries of coordinates. -/
namespace Go.Proofs.YthdcceackfdbbaaGreatDoor
open Go Go.RowKit

def cooE (k R C left : Nat) (free : List (Nat × Nat)) (f : Nat → Nat → Nat) (c : Bool) (ws : List (List UInt8)) : Nat × TSt :=
  if c = true ∨ ws.length ≠ 3 then (6, .first) else
  match wholesL (ws.take 2) with
  | some [i, j] => if left = 0 then (10, .first) else match idxP free ((i : Int) - 1) ((j : Int) - 1) with
    | some q => putT k R C left free f q (ws.getD 2 [])
    | none => (9, .first)
  | _ => (6, .first)

theorem idxP_at {ps : List (Nat × Nat)} {x y : Int} {k : Nat} (h : idxP ps x y = some k) : ∃ q, ps[k]? = some q := by
  unfold idxP at h
  obtain ⟨hk, _⟩ := List.findIdx?_eq_some_iff_getElem.1 h
  exact ⟨ps[k], by simp [hk]⟩

set_option maxRecDepth 20000 in
set_option maxHeartbeats 2000000 in
theorem coordinateEntry_step (w : World) (p : Nat) (S : Nat → Prop) (k R C left : Nat) (free : List (Nat × Nat)) (f : Nat → Nat → Nat) (A n : Nat) (ws : List ByteArray) (c : Bool) (hkk : k = 2 ∨ k = 3) (hn : ws.length = n) (hn1 : n ≤ 1000000) (hsz : ∀ x ∈ ws, x.size ≤ 1000000) (hs : StrsAt w (some ⟨A, 0, none⟩) ws) (h : TextIs w p S [] (.ent k R C left free f)) :
    Calls Tryz.prog 213 #[.pointer (some ⟨p, 0, none⟩), lineV A n c] w fun e w' => StepT w p S (cooE k R C left free f c (ws.map (·.data.toList))) e w' := by
  have hmix : Tryz.prog.follows .mixedOrders = true := by kernel_rfl
  have hmf : ∀ (fn : Fn) (first cap : Array Value) (w : World), (Instr.makeFunc fn first cap).run Tryz.prog w = .ok (.func fn first cap) w := fun _ _ _ _ => rfl
  obtain ⟨bytes, g, fv, hE⟩ := h
  have hef : entF k = 213 := by unfold entF; rw [if_pos hkk]
  have hl16 : left ≤ 1600 := by have := hE.len; have := hE.left_le; omega
  obtain ⟨b, hb⟩ : ∃ b, w.heap.size = b := ⟨_, rfl⟩
  have aV : Arr (w.alloc (.cells #[.slice (some ⟨A, 0, none⟩) n n, .bool c] 213)) b 213 [.slice (some ⟨A, 0, none⟩) n n, .bool c] := by rw [← hb]; exact Arr.newL w _ _
  have bV : Below b w (w.alloc (.cells #[.slice (some ⟨A, 0, none⟩) n n, .bool c] 213)) := by rw [← hb]; exact Below.refl' _ _
  have c0 := aV.cell (i := 0) rfl
  have c1 := aV.cell (i := 1) rfl
  have e2 := hE.below (hb ▸ bV)
  have hs2 := hs.below (hb ▸ bV)
  have HB := hid hb
  have HBV := hid bV
  have HS2 := hid hs2
  have HE2 := hid e2
  have HN := hid hn
  have HEF := hid hef
  have HAV := hid aV
  clear hE bV hs2 e2 hs hn aV hef
  obtain ⟨V, hV⟩ : ∃ V, w.alloc (.cells #[.slice (some ⟨A, 0, none⟩) n n, .bool c] 213) = V := ⟨_, rfl⟩
  rw [hV] at c0 c1 HBV HS2 HE2 HAV
  obtain ⟨res, hres⟩ : ∃ res, cooE k R C left free f c (ws.map (·.data.toList)) = res := ⟨_, rfl⟩
  rw [hres]
  have HRES := hid hres
  clear hres
  have bad : ∀ (er : Nat) (W : World), er ≠ 0 → cooE k R C left free f c (ws.map (·.data.toList)) = (er, .first) → Below V.heap.size V W → Hid (StepT w p S res (.returned (.tuple #[.nilFunc, .int .i64 (er : Int)])) W) := fun er W h0 hr hW => by
    have : StepT V p S res (.returned (.tuple #[.nilFunc, .int .i64 (er : Int)])) W := by
      rw [← HRES.out, hr]
      exact ⟨_, rfl, ⟨default, default, default, .inr rfl⟩, Kept.ofBelow hW, ⟨_, HE2.out.arr.belowAll hW, rfl⟩, fun h => (h0 h).elim⟩
    exact this.lift (HB.out ▸ HBV.out)
  unfold lineV
  cases c with
  | true =>
    have hfin := bad 6 V (by decide) (by unfold cooE; rw [if_pos (.inl rfl)]) (Below.refl _ _)
    clear bad
    go_enter Tryz.func213, Tryz.ntmps213
    go_wp2
    go_ret2
    exact hfin.out
  | false =>
    by_cases h1 : n = 3
    · subst h1
      obtain ⟨x0, x1, x2, hx⟩ : ∃ x0 x1 x2, ws = [x0, x1, x2] := by
        match ws, HN.out with
        | [x0, x1, x2], _ => exact ⟨x0, x1, x2, rfl⟩
      have hce : cooE k R C left free f false (ws.map (·.data.toList)) = match wholesL [x0.data.toList, x1.data.toList] with
        | some [i, j] => if left = 0 then (10, .first) else match idxP free ((i : Int) - 1) ((j : Int) - 1) with
          | some q => putT k R C left free f q x2.data.toList
          | none => (9, .first)
        | _ => (6, .first) := by
        unfold cooE
        rw [if_neg (by rw [List.length_map, HN.out]; simp), hx]
        rfl
      have hst2 : StrsAt V (some ⟨A, 0, none⟩) [x0, x1] := fun j y hj => by
        refine HS2.out j y ?_
        rw [hx]
        match j, hj with
        | 0, hj => exact hj
        | 1, hj => exact hj
      obtain ⟨gA, off, hA, hAl, d2⟩ := HS2.out 2 x2 (by rw [hx]; rfl)
      cases hA
      have hsz2 := hsz x2 (by rw [hx]; simp)
      have HW := hid (wholes_any V (some ⟨A, 0, none⟩) 2 3 [x0, x1] rfl (by omega) (fun y hy => hsz y (by rw [hx]; simp at hy ⊢; rcases hy with rfl | rfl <;> simp)) hst2)
      have hwl : ∀ l, wholesL [x0.data.toList, x1.data.toList] = some l → (∀ n ∈ l, n < 1000000000) ∧ l.length = 2 := fun l h => ⟨wholesL_lt h, by rw [wholesL_len h]; rfl⟩
      simp only [List.map_cons, List.map_nil] at HW
      generalize wholesL [x0.data.toList, x1.data.toList] = wl at *
      have HCE := hid hce
      have HD2 : Hid (V.cell? ⟨A, 2, none⟩ = some (.string x2)) := by show V.cell? _ = _; simpa using d2
      have HAL := hid hAl
      clear hce hst2 d2 hAl hx
      go_enter Tryz.func213, Tryz.ntmps213
      go_wp2_with fail
      refine HW.out.mono ?_
      rintro e W1 ⟨hwr, b1⟩
      clear HW c0 c1 hV
      rcases hwr with ⟨rfl, rfl⟩ | ⟨l, v, rfl, rfl, hrow⟩
      · have hfin := bad 6 W1 (by decide) (by rw [HCE.out]) b1
        clear bad b1
        go_wp2
        go_ret2
        exact hfin.out
      · obtain ⟨hl9, hl2⟩ := hwl l rfl
        obtain ⟨i, j, rfl⟩ : ∃ i j, l = [i, j] := by
          match l, hl2 with
          | [i, j], _ => exact ⟨i, j, rfl⟩
        obtain ⟨ao, cap, rfl, _, hc⟩ := ints_at hrow
        simp only [List.length_cons, List.length_nil, Nat.zero_add, Nat.reduceAdd] at hc hrow ⊢
        obtain ⟨gv, rfl, hgv, hgl, hcc⟩ := hc (by omega)
        have v0 := hcc 0 i rfl
        have v1 := hcc 1 j rfl
        have hi9 := hl9 i (by simp)
        have hj9 := hl9 j (by simp)
        have e3 := HE2.out.below b1
        have p8 := e3.arr.cell (i := 8) rfl
        have HE3 := hid e3
        have HB1 := hid b1
        have HV0 := hid v0
        have HV1 := hid v1
        clear hcc hc hrow hl9 hl2 hwl e3 b1 v0 v1
        by_cases h0 : left = 0
        · have hfin := bad 10 W1 (by decide) (by rw [HCE.out]; simp only; rw [if_pos h0]) HB1.out
          clear bad
          have h0' : (left : Int) = 0 := by omega
          go_wp2
          go_ret2
          exact hfin.out
        · have h0' : ¬ (left : Int) = 0 := by omega
          go_wp2_with fail
          obtain ⟨ao2, cap2, hfv, hpl, hcp, _⟩ := FreeAt.shape (B := 0) HE3.out.rowF.row
          have HE4 := HE3.out
          rw [hfv] at HE4
          have hE4 : EntC W1.drew p S (stV (entF k) p) bytes g (.slice ao2 free.length cap2) k R C left free f [] := HE4.frame (fun _ _ => rfl) (Nat.le_refl _)
          have hlen := HE4.len
          have hpl2 : PlcsAt W1.drew ao2 free := hpl
          have b2 : Below V.heap.size V W1.drew := HB1.out.drew
          have v0 : W1.drew.cell? ⟨gv, 0, none⟩ = some (.int .i64 (i : Int)) := HV0.out
          have v1 : W1.drew.cell? ⟨gv, 1, none⟩ = some (.int .i64 (j : Int)) := HV1.out
          have hgl2 : gv < W1.drew.heap.size := hgl
          refine wp_region_held (S := fun W' => Arr W' p 167 (rdC (stV (entF k) p) bytes k R C (.slice (some ⟨g, 0, none⟩) (R * C) (R * C)) true (.slice ao2 free.length cap2) left) ∧ W'.cell? ⟨gv, 0, none⟩ = some (.int .i64 (i : Int)) ∧ W'.cell? ⟨gv, 1, none⟩ = some (.int .i64 (j : Int))) hmix ?_
          change wpAnyH _ _ _ _ _ _ _ _ W1.drew
          clear HE4 HV0 HV1 hgl hpl p8 HE3 HB1
          generalize W1.drew = Vd at *
          have hSS := And.intro hE4.arr (And.intro v0 v1)
          refine wpAnyH_take (i := 0) (v := .pointer (some ⟨p, 0, none⟩)) rfl (by kernel_rfl) (by kernel_rfl) (by kernel_rfl) (fun _ _ _ h => h) (Or.inl ⟨by rfl, fun W' hS => ?_⟩) hSS ?_
          · clear hS
            go_simp
          simp only [Act.put]
          refine wpAnyH_take (i := 1) (v := .pointer (some ⟨p, 0, none⟩)) rfl (by kernel_rfl) (by kernel_rfl) (by kernel_rfl) (fun _ _ _ h => h) (Or.inl ⟨by rfl, fun W' hS => ?_⟩) hSS ?_
          · clear hS
            go_simp
          simp only [Act.put]
          refine wpAnyH_take (i := 2) (v := .pointer (some ⟨p, 7, none⟩)) rfl (by kernel_rfl) (by kernel_rfl) (by kernel_rfl) (fun _ _ _ h => h) (Or.inl ⟨by rfl, fun W' hS => ?_⟩) hSS ?_
          · clear hS
            go_simp
          simp only [Act.put]
          refine wpAnyH_take (i := 3) (v := .slice ao2 free.length cap2) rfl (by kernel_rfl) (by kernel_rfl) (by kernel_rfl) (fun _ _ _ h => h) (Or.inl ⟨by rfl, fun W' hS => ?_⟩) hSS ?_
          · have q0 := hS.1.cell (i := 7) rfl
            clear hS
            go_simp
          simp only [Act.put]
          refine wpAnyH_take (i := 4) (v := .slice (some ⟨gv, 0, none⟩) 2 cap) rfl (by kernel_rfl) (by kernel_rfl) (by kernel_rfl) (fun _ _ _ h => h) (Or.inl ⟨by rfl, fun W' hS => ?_⟩) hSS ?_
          · clear hS
            go_simp
          simp only [Act.put]
          refine wpAnyH_take (i := 5) (v := .pointer (some ⟨gv, 0, none⟩)) rfl (by kernel_rfl) (by kernel_rfl) (by kernel_rfl) (fun _ _ _ h => h) (Or.inl ⟨by rfl, fun W' hS => ?_⟩) hSS ?_
          · clear hS
            go_simp
          simp only [Act.put]
          refine wpAnyH_take (i := 6) (v := .int .i64 (i : Int)) rfl (by kernel_rfl) (by kernel_rfl) (by kernel_rfl) (fun _ _ _ h => h) (Or.inl ⟨by rfl, fun W' hS => ?_⟩) hSS ?_
          · have q0 := hS.2.1
            clear hS
            go_simp
          simp only [Act.put]
          refine wpAnyH_take (i := 7) (v := .int .i64 ((i : Int) - 1)) rfl (by kernel_rfl) (by kernel_rfl) (by kernel_rfl) (fun _ _ _ h => h) (Or.inl ⟨by rfl, fun W' hS => ?_⟩) hSS ?_
          · have q0 := (show IntKind.i64.wrap ((i : Int) - 1) = (i : Int) - 1 by rw [IntKind.wrap_i64]; omega)
            clear hS
            go_simp
          simp only [Act.put]
          refine wpAnyH_take (i := 8) (v := .slice (some ⟨gv, 0, none⟩) 2 cap) rfl (by kernel_rfl) (by kernel_rfl) (by kernel_rfl) (fun _ _ _ h => h) (Or.inl ⟨by rfl, fun W' hS => ?_⟩) hSS ?_
          · clear hS
            go_simp
          simp only [Act.put]
          refine wpAnyH_take (i := 9) (v := .pointer (some ⟨gv, 1, none⟩)) rfl (by kernel_rfl) (by kernel_rfl) (by kernel_rfl) (fun _ _ _ h => h) (Or.inl ⟨by rfl, fun W' hS => ?_⟩) hSS ?_
          · clear hS
            go_simp
          simp only [Act.put]
          refine wpAnyH_take (i := 10) (v := .int .i64 (j : Int)) rfl (by kernel_rfl) (by kernel_rfl) (by kernel_rfl) (fun _ _ _ h => h) (Or.inl ⟨by rfl, fun W' hS => ?_⟩) hSS ?_
          · have q0 := hS.2.2
            clear hS
            go_simp
          simp only [Act.put]
          refine wpAnyH_take (i := 11) (v := .int .i64 ((j : Int) - 1)) rfl (by kernel_rfl) (by kernel_rfl) (by kernel_rfl) (fun _ _ _ h => h) (Or.inl ⟨by rfl, fun W' hS => ?_⟩) hSS ?_
          · have q0 := (show IntKind.i64.wrap ((j : Int) - 1) = (j : Int) - 1 by rw [IntKind.wrap_i64]; omega)
            clear hS
            go_simp
          simp only [Act.put]
          refine wpAnyH_take (i := 12) (v := .agg #[.int .i64 ((i : Int) - 1), .int .i64 ((j : Int) - 1)]) rfl (by kernel_rfl) (by kernel_rfl) (by kernel_rfl) (fun _ _ _ h => h) (Or.inl ⟨by rfl, fun W' hS => ?_⟩) hSS ?_
          · clear hS
            go_simp
          simp only [Act.put]
          have hix := index_any Vd ao2 free.length cap2 free ((i : Int) - 1) ((j : Int) - 1) rfl (by omega) hpl2
          refine wpAnyH_ready (rs := [13]) (by kernel_rfl) (by simp) ?_
          refine AllReadyH.cons rfl (fun K hKK => ?_) AllReadyH.nil
          go_simp
          refine hix.mono ?_
          rintro e W3 ⟨rfl, b3⟩
          have hE5 := hE4.below b3
          have hS5 : Arr W3 p 167 (rdC (stV (entF k) p) bytes k R C (.slice (some ⟨g, 0, none⟩) (R * C) (R * C)) true (.slice ao2 free.length cap2) left) ∧ W3.cell? ⟨gv, 0, none⟩ = some (.int .i64 (i : Int)) ∧ W3.cell? ⟨gv, 1, none⟩ = some (.int .i64 (j : Int)) :=
            ⟨hE5.arr, (b3.cell (p := ⟨gv, 0, none⟩) hgl2).trans v0, (b3.cell (p := ⟨gv, 1, none⟩) hgl2).trans v1⟩
          refine hKK.out _ _ hS5 (fun hHeld => ?_)
          clear hKK hHeld hix hSS hpl2 v0 v1
          have b4 : Below V.heap.size V W3 := b2.trans (b3.mono b2.size)
          cases hip : idxP free ((i : Int) - 1) ((j : Int) - 1) with
          | none =>
            have hfin := bad 9 W3 (by decide) (by rw [HCE.out, if_neg h0, hip]) b4
            simp only [idxV]
            refine wpAnyH_take (i := 14) (v := .int .i64 (-1)) rfl (by kernel_rfl) (by kernel_rfl) (by kernel_rfl) (fun _ _ _ h => h) (Or.inl ⟨by rfl, fun W' hS => ?_⟩) hS5 ?_
            · clear hS
              go_simp
            simp only [Act.put, List.getElem_toArray, List.getElem_cons_succ, List.getElem_cons_zero, List.setIfInBounds_toArray, List.set_cons_succ, List.set_cons_zero]
            refine wpAnyH_done (by kernel_rfl) ?_ _
            clear bad b4 b3 b2 hS5 hE5 hE4 hip
            go_wp2
            go_ret2
            exact hfin.out
          | some q =>
            obtain ⟨⟨q1, q2⟩, hq⟩ := idxP_at hip
            have hqn : q < free.length := (List.getElem?_eq_some_iff.1 hq).1
            have hr : res = putT k R C left free f q x2.data.toList := by rw [← HRES.out, HCE.out, if_neg h0, hip]
            simp only [idxV]
            refine wpAnyH_take (i := 14) (v := .int .i64 (q : Int)) rfl (by kernel_rfl) (by kernel_rfl) (by kernel_rfl) (fun _ _ _ h => h) (Or.inl ⟨by rfl, fun W' hS => ?_⟩) hS5 ?_
            · clear hS
              go_simp
            simp only [Act.put, List.getElem_toArray, List.getElem_cons_succ, List.getElem_cons_zero, List.setIfInBounds_toArray, List.set_cons_succ, List.set_cons_zero]
            refine wpAnyH_done (by kernel_rfl) ?_ _
            have hput := put_any W3 p S (stV (entF k) p) bytes g _ k R C left free f [] q free.length q1 q2 x2 hsz2 hE5 rfl hq (by omega)
            have HPUT : Hid _ := hid (hput.mono (fun e w' h => put_step hq ⟨_, hE5.arr, rfl⟩ h))
            have hst : stV (entF k) p = .func (.func 213) #[.pointer (some ⟨p, 0, none⟩)] #[] := by rw [HEF.out]; rfl
            rw [hst, ← hr] at HPUT
            have l0 := (HAV.out.belowAll b4).cell (i := 0) rfl
            have l2 : W3.cell? ⟨A, 2, none⟩ = some (.string x2) := (b4.cell (p := ⟨A, 2, none⟩) HAL.out).trans HD2.out
            have HB4 := hid b4
            clear hst hput hr hip b4 b3 b2 hS5 hE5 hE4 bad hq
            go_wp2_with fail
            refine HPUT.out.mono ?_
            rintro e W4 ⟨hfin, rfl⟩
            have HFIN := hid ((hfin.lift HB4.out).lift (HB.out ▸ HBV.out))
            clear HPUT hfin l0 l2
            go_wp2
            go_ret2
            exact HFIN.out
    · have h1' : ¬ (n : Int) = 3 := by omega
      have hfin := bad 6 V (by decide) (by unfold cooE; rw [if_pos (.inr (by rw [List.length_map, HN.out]; exact h1))]) (Below.refl _ _)
      clear bad
      go_enter Tryz.func213, Tryz.ntmps213
      go_wp2
      go_ret2
      exact hfin.out

end Go.Proofs.YthdcceackfdbbaaGreatDoor
/- Own text: the reader of texts: a line, a byte. -/
namespace Go.Proofs.YthdcceackfdbbaaGreatDoor
open Go Go.RowKit

def tF : TSt → Nat
  | .first => 114
  | .sizes _ => 149
  | .ent k _ _ _ _ _ => entF k

/-- a line that has words -/
def stepT (c : Bool) (ws : List (List UInt8)) : TSt → Nat × TSt
  | .first => firstT ws
  | .sizes k => sizesT k c ws
  | .ent k R C left free f => if k = 2 ∨ k = 3 then cooE k R C left free f c ws else arrE k R C left free f c ws

/-- a line -/
def lineT (t : TSt) (l : List UInt8) : Nat × TSt := if wordsL l = [] then (0, t) else stepT (decide (l.head? = some 37)) (wordsL l) t

theorem step_any (w : World) (p : Nat) (S : Nat → Prop) (t : TSt) (A n : Nat) (ws : List ByteArray) (c : Bool) (hn : ws.length = n) (hn1 : n ≤ 1000000) (hsz : ∀ x ∈ ws, x.size ≤ 1000000) (hs : StrsAt w (some ⟨A, 0, none⟩) ws) (h : TextIs w p S [] t) :
    Calls Tryz.prog (tF t) #[.pointer (some ⟨p, 0, none⟩), lineV A n c] w fun e w' => StepT w p S (stepT c (ws.map (·.data.toList)) t) e w' := by
  cases t with
  | first => exact first_step w p S A n ws c hn hn1 hs h
  | sizes k => exact sizes_step w p S k A n ws c hn hn1 hsz hs h
  | ent k R C left free f =>
    by_cases hkk : k = 2 ∨ k = 3
    · have e1 : tF (.ent k R C left free f) = 213 := by simp only [tF, entF]; rw [if_pos hkk]
      have e2 : stepT c (ws.map (·.data.toList)) (.ent k R C left free f) = cooE k R C left free f c (ws.map (·.data.toList)) := by simp only [stepT]; rw [if_pos hkk]
      rw [e1, e2]
      exact coordinateEntry_step w p S k R C left free f A n ws c hkk hn hn1 hsz hs h
    · have e1 : tF (.ent k R C left free f) = 214 := by simp only [tF, entF]; rw [if_neg hkk]
      have e2 : stepT c (ws.map (·.data.toList)) (.ent k R C left free f) = arrE k R C left free f c (ws.map (·.data.toList)) := by simp only [stepT]; rw [if_neg hkk]
      rw [e1, e2]
      exact arrayEntry_step w p S k R C left free f A n ws c hkk hn hn1 hsz hs h

theorem step_enters (t : TSt) : ∀ args w, (callFunc (tF t) args).run Tryz.prog w = .ok (.enter (tF t) args) w := by
  cases t with
  | first => exact enters_of Tryz.func114 (by kernel_rfl) rfl
  | sizes k => exact enters_of Tryz.func149 (by kernel_rfl) rfl
  | ent k R C left free f =>
    simp only [tF, entF]
    split
    · exact enters_of Tryz.func213 (by kernel_rfl) rfl
    · exact enters_of Tryz.func214 (by kernel_rfl) rfl

theorem TextIs.open {w : World} {p : Nat} {S : Nat → Prop} {cur : List UInt8} {t : TSt} (h : TextIs w p S cur t) : S p ∧ ∃ bytes rest, Arr w p 167 (stV (tF t) p :: bytes :: rest) ∧ rest.length = 7 ∧ RowIn w S 5 1 bytes cur.length (u8s cur) := by
  cases t with
  | first => obtain ⟨h1, b, h2, h3⟩ := h; exact ⟨h1, b, _, h2, rfl, h3⟩
  | sizes k => obtain ⟨_, h1, b, h2, h3⟩ := h; exact ⟨h1, b, _, h2, rfl, h3⟩
  | ent k R C left free f => obtain ⟨b, g, fv, h⟩ := h; exact ⟨h.own, b, _, h.arr, rfl, h.rowB⟩

/-- other bytes of the line that has not ended -/
theorem TextIs.setBytes {w w2 : World} {p : Nat} {S T : Nat → Prop} {cur cur' : List UInt8} {t : TSt} {b' : Value} (h : TextIs w p S cur t) (hT : ∀ q, S q → T q)
    (hk : ∀ (q : Nat) (o : Obj), S q → w.heap[q]? = some o → (∀ c, o ≠ .cells c 5 (0, 0)) → w2.heap[q]? = some o) (hr : RowIn w2 T 5 1 b' cur'.length (u8s cur')) : TextIs (w2.setCell ⟨p, 1, none⟩ b') p T cur' t := by
  cases t with
  | first =>
    obtain ⟨h1, b, h2, h3⟩ := h
    have a2 : Arr w2 p 167 _ := hk p _ h1 h2 (fun c e => by cases e)
    exact ⟨hT p h1, b', a2.set 1 b', hr.set a2 (by decide) _⟩
  | sizes k =>
    obtain ⟨h0, h1, b, h2, h3⟩ := h
    have a2 : Arr w2 p 167 _ := hk p _ h1 h2 (fun c e => by cases e)
    exact ⟨h0, hT p h1, b', a2.set 1 b', hr.set a2 (by decide) _⟩
  | ent k R C left free f =>
    obtain ⟨b, g, fv, h⟩ := h
    have a2 : Arr w2 p 167 _ := hk p _ h.own h.arr (fun c e => by cases e)
    obtain ⟨v, hv1, hv2⟩ := h.arrG
    have g2 : Arr w2 g 65 v := hk g _ h.ownG hv1 (fun c e => by cases e)
    have g3 : Arr (w2.setCell ⟨p, 1, none⟩ b') g 65 v := g2.other _ (Ne.symm h.lt.2.2)
    have f2 : RowIn w2 T 117 2 fv free.length (plcC free) := by
      refine (h.rowF.keep (w' := w2) (fun q hq => ?_)).mono hT
      obtain ⟨_, c, hc⟩ := h.rowF.lt q hq
      rw [hc]
      exact hk q _ (h.rowF.own q hq) hc (fun c e => by cases e)
    refine ⟨b', g, fv, hT p h.own, a2.set 1 b', hr.set a2 (by decide) _, hT g h.ownG, ⟨v, g3, hv2⟩, ⟨g3.lt, fun i j hi hj => ?_⟩, f2.set a2 (by decide) _, h.hk, h.hR, h.hC, h.sq, h.free_in, h.len, h.left_le⟩
    have e1 := h.mem.2 i j hi hj
    have hlt : i * C + j < v.length := by rw [hv2]; exact idx_lt hi hj
    obtain ⟨y, hy⟩ : ∃ y, v[i * C + j]? = some y := ⟨v[i * C + j], by simp [hlt]⟩
    rw [hv1.cell hy] at e1
    rw [g3.cell hy]; exact e1

theorem row_conv {w : World} {S : Nat → Prop} {v : Value} {l : List UInt8} (h : RowIn w S 5 1 v l.length (u8s l)) : (convert 72 9 v).run Tryz.prog w = .ok (.string ⟨l.toArray⟩) w := by
  obtain ⟨_, ⟨rfl, h0⟩ | ⟨g, cap, cur, rfl, _, hg, _, _, _, htk⟩⟩ := h.row
  · have : l = [] := List.length_eq_zero_iff.1 h0
    subst this
    rw [run_convert_bytes_string w 72 9 5 none 0 0 Tryz.underlying72 Tryz.underlying5 Tryz.underlying9]
    simp [Conv.bytesToString]
    rfl
  · refine run_convert_bytes_back w 72 9 5 ⟨g, 0, none⟩ cap l Tryz.underlying72 Tryz.underlying5 Tryz.underlying9 (fun j hj => ?_)
    rw [Lib.add_plain, Nat.zero_add]
    have h1 : (u8s l)[j]? = some (.int .u8 (l[j].toNat : Int)) := by unfold u8s; rw [List.getElem?_map]; simp [hj]
    rw [← htk, List.getElem?_take, if_pos (by omega)] at h1
    simp only [World.cell?, hg]
    simpa using h1

/-- cut to nothing -/
theorem RowIn.cut0 {w : World} {S : Nat → Prop} {e : TypeId} {a : Option Addr} {n cap : Nat} {xs : List Value} (h : RowIn w S e 1 (.slice a n cap) n xs) : RowIn w S e 1 (.slice a 0 cap) 0 [] := by
  obtain ⟨_, ⟨h1, h0⟩ | ⟨g, cap', cur, h1, hB, hg, h2, h3, h4, htk⟩⟩ := h.row
  · cases h1; exact RowIn.nil _ _ _ _
  · cases h1
    exact ⟨⟨rfl, .inr ⟨g, cap, cur, rfl, hB, hg, Nat.zero_le _, h3, h4, by simp⟩⟩, h.own⟩

/-- what a line does -/
def LineR (w : World) (p : Nat) (S : Nat → Prop) (r : Nat × TSt) (e : Ending) (w' : World) : Prop :=
  e = .returned (.int .i64 (r.1 : Int)) ∧ Kept S w w' ∧ (r.1 = 0 → TextIs w' p (plus S w w') [] r.2)

end Go.Proofs.YthdcceackfdbbaaGreatDoor
/- Own text: the reader of texts: endLine. -/
namespace Go.Proofs.YthdcceackfdbbaaGreatDoor
open Go Go.RowKit

theorem grown_bytes {w w2 : World} {S : Nat → Prop} {n : Nat} {v : Value} {xs : List Value} (hg : w.grownBy w2 v.ownBlock) (hr : RowIn w S 5 1 v n xs) (q : Nat) (o : Obj) (hq : w.heap[q]? = some o) (ho : ∀ c, o ≠ .cells c 5 (0, 0)) : w2.heap[q]? = some o := by
  refine (hg.block q (Array.getElem?_eq_some_iff.1 hq).1 (fun e => ?_)).trans hq
  obtain ⟨_, c, hc⟩ := hr.lt q e.symm
  rw [hc] at hq
  cases hq
  exact ho c rfl

theorem wordsGo_bd : ∀ (l cur : List UInt8), (wordsGo cur l).length ≤ cur.length + l.length ∧ ∀ x ∈ wordsGo cur l, x.length ≤ cur.length + l.length
  | [], cur => by
    rw [wordsGo]
    split
    · exact ⟨by simp, fun x hx => by simp at hx⟩
    · rename_i h
      refine ⟨?_, fun x hx => by simp at hx; rw [hx]; simp⟩
      cases cur with
      | nil => exact (h rfl).elim
      | cons a r => simp
  | b :: r, cur => by
    rw [wordsGo]
    have ih0 := wordsGo_bd r []
    have ih1 := wordsGo_bd r (cur ++ [b])
    simp only [List.length_nil, List.length_append, List.length_cons, Nat.zero_add] at ih0 ih1 ⊢
    split
    · split
      · exact ⟨by omega, fun x hx => by have := ih0.2 x hx; omega⟩
      · rename_i h
        have hc : 1 ≤ cur.length := by
          cases cur with
          | nil => exact (h rfl).elim
          | cons a r => simp
        refine ⟨by simp only [List.length_cons]; omega, fun x hx => ?_⟩
        rcases List.mem_cons.1 hx with rfl | hx
        · omega
        · have := ih0.2 x hx; omega
    · exact ⟨by omega, fun x hx => by have := ih1.2 x hx; omega⟩

theorem wordsL_bd (l : List UInt8) : (wordsL l).length ≤ l.length ∧ ∀ x ∈ wordsL l, x.length ≤ l.length := by
  have := wordsGo_bd l []
  simp only [List.length_nil, Nat.zero_add] at this
  exact this

theorem Value.slice_cut0 {w : World} {S : Nat → Prop} {v : Value} {n : Nat} {xs : List Value} (h : RowIn w S 5 1 v n xs) : (v = .slice none 0 0 ∧ n = 0) ∨ ∃ g cap, v = .slice (some ⟨g, 0, none⟩) n cap ∧ n ≤ cap := by
  obtain ⟨_, ⟨h1, h0⟩ | ⟨g, cap, cur, h1, _, _, h2, _⟩⟩ := h.row
  · exact .inl ⟨h1, h0⟩
  · exact .inr ⟨g, cap, h1, h2⟩

set_option maxRecDepth 20000 in
set_option maxHeartbeats 2000000 in
theorem endLine_any (w : World) (p : Nat) (S : Nat → Prop) (cur : List UInt8) (t : TSt) (hcur : cur.length ≤ 200) (hSb : ∀ q, S q → q < w.heap.size) (h : TextIs w p S cur t) :
    Calls Tryz.prog 274 #[.pointer (some ⟨p, 0, none⟩)] w fun e w' => LineR w p S (lineT t cur) e w' := by
  have hmix : Tryz.prog.follows .mixedOrders = true := by kernel_rfl
  obtain ⟨hS, bytes, rest, ha, hrl, hr⟩ := h.open
  have hcv := row_conv hr
  have c1 := ha.cell (i := 1) rfl
  obtain ⟨ao, cap, rfl, hcap, _⟩ := hr.shape
  have hcut : ∀ V : World, RowIn V S 5 1 (.slice ao cur.length cap) cur.length (u8s cur) → Hid (RowIn V S 5 1 (.slice ao 0 cap) 0 (u8s [])) := fun V h => h.cut0
  have hsh := Value.slice_cut0 hr
  have HA := hid ha
  have HR := hid hr
  have H := hid h
  have hwb := wordsL_bd cur
  have HSP := hid (fun w => split_any w ⟨cur.toArray⟩ (by show cur.toArray.size ≤ _; simp; omega))
  simp only at HSP
  obtain ⟨n, hn⟩ : ∃ n, cur.length = n := ⟨_, rfl⟩
  rw [hn] at c1 hcv hcap hwb hsh hcut hcur
  have HN := hid hn
  have HCUT := hid hcut
  obtain ⟨cm, hcm⟩ : ∃ cm, decide (cur.head? = some 37) = cm := ⟨_, rfl⟩
  rw [hcm] at HSP
  obtain ⟨res, hres⟩ : ∃ res, lineT t cur = res := ⟨_, rfl⟩
  rw [hres]
  have HRES : Hid (res = if wordsL cur = [] then (0, t) else stepT cm (wordsL cur) t) := by show _ = _; rw [← hres, ← hcm]; rfl
  clear ha hr h hn hres hcut hcm
  go_enter Tryz.func274, Tryz.ntmps274
  go_wp2_with fail
  refine (HSP.out w).mono ?_
  rintro e W1 ⟨A, ws, rfl, hws, hline, b1⟩
  clear HSP hcv c1
  have hwl : ws.length = (wordsL cur).length := by rw [← hws, List.length_map]
  have hwn : ws.length ≤ 1000000 := by have := hwb.1; omega
  have hwsz : ∀ x ∈ ws, x.size ≤ 1000000 := fun x hx => by
    have h1 : x.data.toList ∈ wordsL cur := by rw [← hws]; exact List.mem_map_of_mem hx
    have h2 := hwb.2 _ h1
    have h3 : x.size = x.data.toList.length := by rw [Array.length_toList]; rfl
    omega
  have hw0 : wordsL cur = [] ↔ ws.length = 0 := by rw [hwl, List.length_eq_zero_iff]
  have bV : Below w.heap.size w (W1.alloc (.cells #[.slice (some ⟨A, 0, none⟩) ws.length ws.length, .bool cm] 213)) := b1.alloc b1.size _
  have aL : Arr (W1.alloc (.cells #[.slice (some ⟨A, 0, none⟩) ws.length ws.length, .bool cm] 213)) W1.heap.size 213 [.slice (some ⟨A, 0, none⟩) ws.length ws.length, .bool cm] := Arr.newL _ _ _
  have sV : StrsAt (W1.alloc (.cells #[.slice (some ⟨A, 0, none⟩) ws.length ws.length, .bool cm] 213)) (some ⟨A, 0, none⟩) ws := hline.strs.below (Below.refl' _ _)
  obtain ⟨V, hV⟩ : ∃ V, W1.alloc (.cells #[.slice (some ⟨A, 0, none⟩) ws.length ws.length, .bool cm] 213) = V := ⟨_, rfl⟩
  obtain ⟨d, hd⟩ : ∃ d, W1.heap.size = d := ⟨_, rfl⟩
  have hpw := HA.out.lt
  have hpd : p ≠ d := by have := b1.size; omega
  have hAlo : w.heap.size ≤ A := hline.lo
  have hdS : ¬ S d := fun h => by have := hSb d h; have := b1.size; omega
  rw [hV] at bV aL sV
  rw [hd] at aL
  have aP : Arr V p 167 _ := HA.out.belowAll bV
  have c1 := aP.cell (i := 1) rfl
  have f1 := aP.frozen 1
  rw [HN.out] at c1
  have HBV := hid bV
  have HAL := hid aL
  have HSV := hid sV
  have HWS := hid hws
  have HAP := hid aP
  have HWSZ := hid hwsz
  have HW0 := hid hw0
  have HWL := hid hwl
  clear bV aL sV hws hline b1 aP hwsz hw0 hwl hwb
  unfold lineV
  obtain ⟨nw, hnw⟩ : ∃ nw, ws.length = nw := ⟨_, rfl⟩
  rw [hnw] at HAL HW0 HWL hwn hV ⊢
  have HNW := hid hnw
  clear hnw
  -- the bytes of the line are let go
  have hreset : Hid (TextIs (V.setCell ⟨p, 1, none⟩ (.slice ao 0 cap)) p S [] t) :=
    (H.out.below HBV.out).setBytes (fun q h => h) (fun q o _ hq _ => hq) (HCUT.out V (by have := HR.out.below HBV.out; rw [HN.out] at this; exact this)).out
  have hkr : Hid (Kept S w (V.setCell ⟨p, 1, none⟩ (.slice ao 0 cap))) := (Kept.ofBelow HBV.out).trans (Kept.set (S := S) hS _) (fun q h => .inl h)
  have alr : Hid (Arr (V.setCell ⟨p, 1, none⟩ (.slice ao 0 cap)) d 213 [.slice (some ⟨A, 0, none⟩) nw nw, .bool cm]) := HAL.out.other _ (Ne.symm hpd)
  have svr : Hid (StrsAt (V.setCell ⟨p, 1, none⟩ (.slice ao 0 cap)) (some ⟨A, 0, none⟩) ws) := fun k x hk => by
    obtain ⟨g, off, h1, h2, h3⟩ := HSV.out k x hk
    cases h1
    refine ⟨_, _, rfl, by simpa [World.setCell] using h2, ?_⟩
    have hne : A ≠ p := by omega
    exact (World.cell?_of_block (w := V) (Below.heap_setCell _ _ _ _ hne)).trans h3
  have l0 := alr.out.cell (i := 0) rfl
  have hcap0 : 0 ≤ cap := Nat.zero_le _
  rcases hsh with ⟨he, hn0⟩ | ⟨g, cap', he, hnc⟩
  · obtain ⟨rfl, _, rfl⟩ : ao = none ∧ n = 0 ∧ cap = 0 := by simpa using he
    subst hn0
    clear he
    by_cases hz : nw = 0
    · have hr0 : res = (0, t) := by rw [HRES.out, if_pos (HW0.out.2 hz)]
      have hfin : Hid (LineR w p S res (.returned (.int .i64 0)) (V.setCell ⟨p, 1, none⟩ (.slice none 0 0))) := by
        rw [hr0]; exact ⟨rfl, hkr.out, fun _ => hreset.out.mono (fun q h => .inl h)⟩
      have hz2 : (nw : Int) = 0 := by omega
      clear hz
      go_wp2
      go_ret
      exact hfin.out
    · have hr1 : res = stepT cm (ws.map (·.data.toList)) t := by rw [HRES.out, if_neg (fun h => hz (HW0.out.1 h)), HWS.out]
      have hz' : ((nw : Int) == 0) = false := by simp; omega
      have hz2 : ¬ (nw : Int) = 0 := by omega
      go_wp2_with fail
      clear l0 c1 f1
      generalize V.setCell ⟨p, 1, none⟩ (.slice none 0 0) = V2 at *
      refine wp_region_held (S := fun W' => Arr W' d 213 [.slice (some ⟨A, 0, none⟩) nw nw, .bool cm]) hmix ?_
      change wpAnyH _ _ _ _ _ _ _ _ V2.drew
      have hSS : Arr V2.drew d 213 [.slice (some ⟨A, 0, none⟩) nw nw, .bool cm] := alr.out.drew
      have htx : TextIs V2.drew p S [] t := hreset.out.frame (fun _ _ => rfl) (Nat.le_refl _)
      have hst2 : StrsAt V2.drew (some ⟨A, 0, none⟩) ws := svr.out
      have hkw : Kept S w V2.drew := hkr.out.trans (Kept.drewN (S := S) 1) (fun q h => .inl h)
      clear hreset alr svr hkr
      generalize V2.drew = Vd at *
      obtain ⟨_, by2, rest2, aX, _, _⟩ := htx.open
      have x0 := aX.cell (i := 0) rfl
      have hstep := step_any Vd p S t A nw ws cm HNW.out hwn HWSZ.out hst2 htx
      have hen := step_enters t
      rw [← hr1] at hstep
      unfold lineV at hstep
      unfold stV at x0
      have hcall : Hid (Calls Tryz.prog (tF t) #[.pointer (some ⟨p, 0, none⟩), .agg #[.slice (some ⟨A, 0, none⟩) nw nw, .bool cm]] Vd fun e w' => StepT Vd p S res e w') := hstep
      clear hstep htx hst2 aX hr1
      generalize tF t = F at *
      refine wpAnyH_take (i := 0) (v := .pointer (some ⟨p, 0, none⟩)) rfl (by kernel_rfl) (by kernel_rfl) (by kernel_rfl) (fun _ _ _ h => h) (Or.inl ⟨by rfl, fun W' hS => ?_⟩) hSS ?_
      · clear hS
        go_simp
      simp only [Act.put]
      refine wpAnyH_take (i := 1) (v := .pointer (some ⟨p, 0, none⟩)) rfl (by kernel_rfl) (by kernel_rfl) (by kernel_rfl) (fun _ _ _ h => h) (Or.inl ⟨by rfl, fun W' hS => ?_⟩) hSS ?_
      · clear hS
        go_simp
      simp only [Act.put]
      refine wpAnyH_take (i := 2) (v := .pointer (some ⟨p, 0, none⟩)) rfl (by kernel_rfl) (by kernel_rfl) (by kernel_rfl) (fun _ _ _ h => h) (Or.inl ⟨by rfl, fun W' hS => ?_⟩) hSS ?_
      · clear hS
        go_simp
      simp only [Act.put]
      refine wpAnyH_take (i := 4) (v := .agg #[.slice (some ⟨A, 0, none⟩) nw nw, .bool cm]) rfl (by kernel_rfl) (by kernel_rfl) (by kernel_rfl) (fun _ _ _ h => h) (Or.inl ⟨by rfl, fun W' hS => ?_⟩) hSS ?_
      · have q0 := hS.cell (i := 0) rfl
        have q1 := hS.cell (i := 1) rfl
        clear hS
        go_simp
      simp only [Act.put]
      refine wpAnyH_ready (rs := [3]) (by kernel_rfl) (by simp) ?_
      refine AllReadyH.cons rfl (fun K hKK => ?_) AllReadyH.nil
      go_simp
      refine hKK.out _ _ hSS (fun hHeld => ?_)
      clear hKK hHeld x0
      refine wpAnyH_ready (rs := [5]) (by kernel_rfl) (by simp) ?_
      refine AllReadyH.cons rfl (fun K hKK => ?_) AllReadyH.nil
      go_simp
      refine hcall.out.mono ?_
      rintro e W3 ⟨st, rfl, hst, hk3, ⟨c3, ac3, hc3⟩, htx3⟩
      have hSS3 : Arr W3 d 213 [.slice (some ⟨A, 0, none⟩) nw nw, .bool cm] := hk3.arr hSS hdS
      refine hKK.out _ _ hSS3 (fun hHeld => ?_)
      clear hKK hHeld hcall
      obtain ⟨y, hy⟩ : ∃ y, c3[0]? = some y := ⟨c3[0]'(by omega), by simp⟩
      have z0 := ac3.cell hy
      have zf := ac3.frozen 0
      have hfin : Hid (LineR w p S res (.returned (.int .i64 (res.1 : Int))) (W3.setCell ⟨p, 0, none⟩ st)) := by
        refine ⟨rfl, (hkw.trans hk3 (fun q h => .inl h)).trans (Kept.set (S := S) hS _) (fun q h => .inl h), fun h0 => (htx3 h0).mono (fun q hq => hq.imp id (fun h => ⟨Nat.le_trans hkw.size h.1, by simpa [World.setCell] using h.2⟩))⟩
      clear hk3 htx3 ac3 hc3 hSS hkw
      generalize res.1 = er at *
      refine wpAnyH_take (i := 6) (v := .tuple #[st, .int .i64 (er : Int)]) rfl (by kernel_rfl) (by kernel_rfl) (by kernel_rfl) (fun _ _ _ h => h) (Or.inl ⟨by rfl, fun W' hS => ?_⟩) hSS3 ?_
      · clear hS
        go_simp
      simp only [Act.put]
      refine wpAnyH_take (i := 7) (v := st) rfl (by kernel_rfl) (by kernel_rfl) (by kernel_rfl) (fun _ _ _ h => h) (Or.inl ⟨by rfl, fun W' hS => ?_⟩) hSS3 ?_
      · clear hS
        go_simp
      simp only [Act.put]
      refine wpAnyH_take (i := 8) (v := .int .i64 (er : Int)) rfl (by kernel_rfl) (by kernel_rfl) (by kernel_rfl) (fun _ _ _ h => h) (Or.inl ⟨by rfl, fun W' hS => ?_⟩) hSS3 ?_
      · clear hS
        go_simp
      simp only [Act.put]
      refine wpAnyH_take (i := 9) (v := st) rfl (by kernel_rfl) (by kernel_rfl) (by kernel_rfl) (fun _ _ _ h => h) (Or.inl ⟨by rfl, fun W' hS => ?_⟩) hSS3 ?_
      · clear hS
        go_simp
      simp only [Act.put]
      refine wpAnyH_take (i := 10) (v := .int .i64 (er : Int)) rfl (by kernel_rfl) (by kernel_rfl) (by kernel_rfl) (fun _ _ _ h => h) (Or.inl ⟨by rfl, fun W' hS => ?_⟩) hSS3 ?_
      · clear hS
        go_simp
      simp only [Act.put, List.getElem_toArray, List.getElem_cons_succ, List.getElem_cons_zero, List.setIfInBounds_toArray, List.set_cons_succ, List.set_cons_zero]
      refine wpAnyH_done (by kernel_rfl) ?_ _
      obtain ⟨F', a', b', rfl | rfl⟩ := hst
      · go_wp2
        go_ret
        exact hfin.out
      · go_wp2
        go_ret
        exact hfin.out
  · cases he
    by_cases hz : nw = 0
    · have hr0 : res = (0, t) := by rw [HRES.out, if_pos (HW0.out.2 hz)]
      have hfin : Hid (LineR w p S res (.returned (.int .i64 0)) (V.setCell ⟨p, 1, none⟩ (.slice (some ⟨g, 0, none⟩) 0 cap))) := by
        rw [hr0]; exact ⟨rfl, hkr.out, fun _ => hreset.out.mono (fun q h => .inl h)⟩
      have hz2 : (nw : Int) = 0 := by omega
      clear hz
      go_wp2
      go_ret
      exact hfin.out
    · have hr1 : res = stepT cm (ws.map (·.data.toList)) t := by rw [HRES.out, if_neg (fun h => hz (HW0.out.1 h)), HWS.out]
      have hz' : ((nw : Int) == 0) = false := by simp; omega
      have hz2 : ¬ (nw : Int) = 0 := by omega
      go_wp2_with fail
      clear l0 c1 f1
      generalize V.setCell ⟨p, 1, none⟩ (.slice (some ⟨g, 0, none⟩) 0 cap) = V2 at *
      refine wp_region_held (S := fun W' => Arr W' d 213 [.slice (some ⟨A, 0, none⟩) nw nw, .bool cm]) hmix ?_
      change wpAnyH _ _ _ _ _ _ _ _ V2.drew
      have hSS : Arr V2.drew d 213 [.slice (some ⟨A, 0, none⟩) nw nw, .bool cm] := alr.out.drew
      have htx : TextIs V2.drew p S [] t := hreset.out.frame (fun _ _ => rfl) (Nat.le_refl _)
      have hst2 : StrsAt V2.drew (some ⟨A, 0, none⟩) ws := svr.out
      have hkw : Kept S w V2.drew := hkr.out.trans (Kept.drewN (S := S) 1) (fun q h => .inl h)
      clear hreset alr svr hkr
      generalize V2.drew = Vd at *
      obtain ⟨_, by2, rest2, aX, _, _⟩ := htx.open
      have x0 := aX.cell (i := 0) rfl
      have hstep := step_any Vd p S t A nw ws cm HNW.out hwn HWSZ.out hst2 htx
      have hen := step_enters t
      rw [← hr1] at hstep
      unfold lineV at hstep
      unfold stV at x0
      have hcall : Hid (Calls Tryz.prog (tF t) #[.pointer (some ⟨p, 0, none⟩), .agg #[.slice (some ⟨A, 0, none⟩) nw nw, .bool cm]] Vd fun e w' => StepT Vd p S res e w') := hstep
      clear hstep htx hst2 aX hr1
      generalize tF t = F at *
      refine wpAnyH_take (i := 0) (v := .pointer (some ⟨p, 0, none⟩)) rfl (by kernel_rfl) (by kernel_rfl) (by kernel_rfl) (fun _ _ _ h => h) (Or.inl ⟨by rfl, fun W' hS => ?_⟩) hSS ?_
      · clear hS
        go_simp
      simp only [Act.put]
      refine wpAnyH_take (i := 1) (v := .pointer (some ⟨p, 0, none⟩)) rfl (by kernel_rfl) (by kernel_rfl) (by kernel_rfl) (fun _ _ _ h => h) (Or.inl ⟨by rfl, fun W' hS => ?_⟩) hSS ?_
      · clear hS
        go_simp
      simp only [Act.put]
      refine wpAnyH_take (i := 2) (v := .pointer (some ⟨p, 0, none⟩)) rfl (by kernel_rfl) (by kernel_rfl) (by kernel_rfl) (fun _ _ _ h => h) (Or.inl ⟨by rfl, fun W' hS => ?_⟩) hSS ?_
      · clear hS
        go_simp
      simp only [Act.put]
      refine wpAnyH_take (i := 4) (v := .agg #[.slice (some ⟨A, 0, none⟩) nw nw, .bool cm]) rfl (by kernel_rfl) (by kernel_rfl) (by kernel_rfl) (fun _ _ _ h => h) (Or.inl ⟨by rfl, fun W' hS => ?_⟩) hSS ?_
      · have q0 := hS.cell (i := 0) rfl
        have q1 := hS.cell (i := 1) rfl
        clear hS
        go_simp
      simp only [Act.put]
      refine wpAnyH_ready (rs := [3]) (by kernel_rfl) (by simp) ?_
      refine AllReadyH.cons rfl (fun K hKK => ?_) AllReadyH.nil
      go_simp
      refine hKK.out _ _ hSS (fun hHeld => ?_)
      clear hKK hHeld x0
      refine wpAnyH_ready (rs := [5]) (by kernel_rfl) (by simp) ?_
      refine AllReadyH.cons rfl (fun K hKK => ?_) AllReadyH.nil
      go_simp
      refine hcall.out.mono ?_
      rintro e W3 ⟨st, rfl, hst, hk3, ⟨c3, ac3, hc3⟩, htx3⟩
      have hSS3 : Arr W3 d 213 [.slice (some ⟨A, 0, none⟩) nw nw, .bool cm] := hk3.arr hSS hdS
      refine hKK.out _ _ hSS3 (fun hHeld => ?_)
      clear hKK hHeld hcall
      obtain ⟨y, hy⟩ : ∃ y, c3[0]? = some y := ⟨c3[0]'(by omega), by simp⟩
      have z0 := ac3.cell hy
      have zf := ac3.frozen 0
      have hfin : Hid (LineR w p S res (.returned (.int .i64 (res.1 : Int))) (W3.setCell ⟨p, 0, none⟩ st)) := by
        refine ⟨rfl, (hkw.trans hk3 (fun q h => .inl h)).trans (Kept.set (S := S) hS _) (fun q h => .inl h), fun h0 => (htx3 h0).mono (fun q hq => hq.imp id (fun h => ⟨Nat.le_trans hkw.size h.1, by simpa [World.setCell] using h.2⟩))⟩
      clear hk3 htx3 ac3 hc3 hSS hkw
      generalize res.1 = er at *
      refine wpAnyH_take (i := 6) (v := .tuple #[st, .int .i64 (er : Int)]) rfl (by kernel_rfl) (by kernel_rfl) (by kernel_rfl) (fun _ _ _ h => h) (Or.inl ⟨by rfl, fun W' hS => ?_⟩) hSS3 ?_
      · clear hS
        go_simp
      simp only [Act.put]
      refine wpAnyH_take (i := 7) (v := st) rfl (by kernel_rfl) (by kernel_rfl) (by kernel_rfl) (fun _ _ _ h => h) (Or.inl ⟨by rfl, fun W' hS => ?_⟩) hSS3 ?_
      · clear hS
        go_simp
      simp only [Act.put]
      refine wpAnyH_take (i := 8) (v := .int .i64 (er : Int)) rfl (by kernel_rfl) (by kernel_rfl) (by kernel_rfl) (fun _ _ _ h => h) (Or.inl ⟨by rfl, fun W' hS => ?_⟩) hSS3 ?_
      · clear hS
        go_simp
      simp only [Act.put]
      refine wpAnyH_take (i := 9) (v := st) rfl (by kernel_rfl) (by kernel_rfl) (by kernel_rfl) (fun _ _ _ h => h) (Or.inl ⟨by rfl, fun W' hS => ?_⟩) hSS3 ?_
      · clear hS
        go_simp
      simp only [Act.put]
      refine wpAnyH_take (i := 10) (v := .int .i64 (er : Int)) rfl (by kernel_rfl) (by kernel_rfl) (by kernel_rfl) (fun _ _ _ h => h) (Or.inl ⟨by rfl, fun W' hS => ?_⟩) hSS3 ?_
      · clear hS
        go_simp
      simp only [Act.put, List.getElem_toArray, List.getElem_cons_succ, List.getElem_cons_zero, List.setIfInBounds_toArray, List.set_cons_succ, List.set_cons_zero]
      refine wpAnyH_done (by kernel_rfl) ?_ _
      obtain ⟨F', a', b', rfl | rfl⟩ := hst
      · go_wp2
        go_ret
        exact hfin.out
      · go_wp2
        go_ret
        exact hfin.out

end Go.Proofs.YthdcceackfdbbaaGreatDoor
