import Derived.Test.YthdcceackfdbbaaGreatDoorZcQR
import Derived.Test.YthdcceackfdbbaaGreatDoorM30R
import Derived.Test.YthdcceackfdbbaaGreatDoorM20R
import Derived.Laws.AppendOwnNone
import Derived.Deep.QuietTactic
import Derived.BigQuiet
namespace Go.Proofs.YthdcceackfdbbaaGreatDoor
open Go Go.RowKit
def setN (off rs cs : Int) (l : List Nat) (x : Nat × Nat × Nat) : List Nat := l.set (off + x.1 * rs + x.2.1 * cs).toNat x.2.2
theorem setN_len (off rs cs : Int) : ∀ (ys : List (Nat × Nat × Nat)) (l : List Nat), (ys.foldl (setN off rs cs) l).length = l.length
  | [], l => rfl
  | y :: r, l => by rw [List.foldl_cons, setN_len off rs cs r]; simp [setN]
theorem put_setN (off rs cs : Int) : ∀ (ys : List (Nat × Nat × Nat)) (l : List Nat), ys.foldl (putStep off rs cs) (u64L l) = u64L (ys.foldl (setN off rs cs) l)
  | [], l => rfl
  | y :: r, l => by
    rw [List.foldl_cons, List.foldl_cons, ← put_setN off rs cs r]
    congr 1
    unfold putStep setN u64L
    rw [List.map_set]
theorem setN_app (off rs cs : Int) (t : List Nat) : ∀ (ys : List (Nat × Nat × Nat)) (l : List Nat), (∀ y ∈ ys, (off + y.1 * rs + y.2.1 * cs).toNat < l.length) → ys.foldl (setN off rs cs) (l ++ t) = ys.foldl (setN off rs cs) l ++ t
  | [], l, _ => rfl
  | y :: r, l, h => by
    rw [List.foldl_cons, List.foldl_cons, ← setN_app off rs cs t r _ (fun z hz => by simp only [setN, List.length_set]; exact h z (by simp [hz]))]
    congr 1
    unfold setN
    rw [List.set_append_left _ _ (h y (by simp))]
def NumsAt (w : World) (ao : Option Addr) (xs : List Nat) : Prop := ∀ (k x : Nat), xs[k]? = some x → ∃ ad : Addr, ao = some ad ∧ ad.block < w.heap.size ∧ w.cell? (ad.add k) = some (.int .u64 (x : Int))
theorem own_nums {w : World} {B n : Nat} {v : Value} {xs : List Nat} (hn : xs.length = n) (h : w.ownsRow B 65 1 v n (u64L xs)) : ∃ vo cap, v = .slice vo n cap ∧ NumsAt w vo xs := by
  have h0 := h
  rcases h.2 with ⟨e, h3⟩ | ⟨g, cap, cur, e, _, hg, _⟩
  · subst h3
    refine ⟨none, 0, e, fun k x hk => ?_⟩
    obtain rfl : xs = [] := List.eq_nil_of_length_eq_zero hn
    simp at hk
  · subst e
    refine ⟨_, cap, rfl, fun k x hk => ⟨⟨g, 0, none⟩, rfl, (Array.getElem?_eq_some_iff.1 hg).1, ?_⟩⟩
    have hkl : k < xs.length := (List.getElem?_eq_some_iff.1 hk).1
    have h4 := h0.cellAt k (by omega)
    have h5 : (u64L xs)[k]? = some (.int .u64 (x : Int)) := by simp [u64L, hk]
    rw [h5] at h4
    have e0 : (⟨g, 0, none⟩ : Addr).add k = ⟨g, k, none⟩ := by simp [Addr.add]; exact fun h => h.symm
    rw [e0]
    exact h4
theorem lstill_any (w : World) (g : Nat) (ao : Option Addr) (n cap : Nat) (xs : List Nat) (hn : xs.length = n) (hn1 : n ≤ 20000000000000) (hbuf : NumsAt w ao xs) (ha : Arr w g 65 (u64L (xs ++ [77, 78]))) :
    Calls Tryz.prog 26 #[.slice (some ⟨g, 0, none⟩) (n + 2) (n + 2), .slice ao n cap] w fun e w' => e = .returned (.bool true) ∧ ∃ m, w' = w.drewN m := by
  have hmix : Tryz.prog.follows .mixedOrders = true := by kernel_rfl
  obtain ⟨N, hN⟩ : ∃ N, n + 2 = N := ⟨_, rfl⟩
  rw [hN]
  have HA : Hid (∀ (k x : Nat), (xs ++ [77, 78])[k]? = some x → w.cell? ⟨g, k, none⟩ = some (.int .u64 (x : Int))) := fun k x hk => ha.cell (by unfold u64L; rw [List.getElem?_map, hk]; rfl)
  have HBUF := hid hbuf
  clear hbuf ha
  go_enter Tryz.func26, Tryz.ntmps26
  go_wp2
  go_loopw [6] (fun vi wr => ∃ i m : Nat, vi = .int .i64 (i : Int) ∧ i ≤ n ∧ wr = w.drewN m) (fun vi _ => n - (intOf vi).toNat)
  case atStart => exact ⟨0, 0, rfl, by omega, (World.drewN_zero w).symm⟩
  case round =>
    obtain ⟨i, m, rfl, hi, rfl⟩ := hrel
    by_cases hlt : i < n
    · have hlt' : (i : Int) < n := by omega
      have hlt2 : (i : Int) < N := by omega
      obtain ⟨x, hx⟩ : ∃ x, xs[i]? = some x := ⟨xs[i]'(by omega), by simp [hn, hlt]⟩
      obtain ⟨ad, rfl, had, hc1⟩ := HBUF.out i x hx
      have hc2 := HA.out i x (by rw [List.getElem?_append_left (by omega)]; exact hx)
      go_wp2
      go_quiet (fail)
      go_wp2
      go_round
      case rel => exact ⟨i + 1, _, by simp, by omega, rfl⟩
      case measure => simp [intOf]; omega
    · have hlt' : ¬ (i : Int) < n := by omega
      obtain rfl : i = n := by omega
      have hlt2 : (i : Int) < N := by omega
      have hlt3 : (i : Int) + 1 < N := by omega
      have c1 := HA.out i 77 (by rw [List.getElem?_append_right (by omega), hn]; simp)
      have c2 := HA.out (i + 1) 78 (by rw [List.getElem?_append_right (by omega), hn]; simp)
      go_wp2
      go_ret
      exact ⟨rfl, m, rfl⟩
theorem wpList_appendU {w : World} {ops : Array Oper} {rest : List Oper} {o : Oper} {a : Act} {Q : Exit → Act → World → Prop} (hgd : o.guard = none) (s x : Operand)
    (ho : o.op = .call { callee := .builtin .append, args := #[s, x], argTypes := #[22, 22] }) (base : Nat) (ao : Option Addr) (n cap : Nat) (xs : List Nat)
    (hs : a.eval s = .slice none 0 0) (hx : a.eval x = .slice ao n cap) (hbuf : BufIs w ao xs) (hn : xs.length = n) (hao : ao = none → cap = 0) (hn1 : n ≤ 10000000) (hb : base ≤ w.heap.size)
    (h : ∀ v' w', w'.ownsRow base 65 1 v' n (u64L xs) → w.grownBy w' none → wpList Tryz.prog ops Q rest (a.put o.dst v') w') : wpList Tryz.prog ops Q (o :: rest) a w := by
  obtain ⟨i0, hi, hz0, hz1, hz2⟩ := info_parts Tryz.infoU64
  have h0 : w.ownsRow base 65 1 (.slice none 0 0) 0 [] := World.ownsRow_nil _ _ _ _
  cases ao with
  | none =>
    have hc := hao rfl
    subst hc
    have hn0 : n = 0 := by
      cases xs with
      | nil => exact hn.symm
      | cons y r => obtain ⟨_, ad, e, _⟩ := hbuf 0 y rfl; cases e
    subst hn0
    have hx0 : xs = [] := List.eq_nil_of_length_eq_zero hn
    subst hx0
    refine wpList_append_own_none hgd s x 22 ho base 65 i0 1 Tryz.underlying22 hi _ 0 [] hs h0 hx ?_
    exact h _ w h0 (grown_refl _ _)
  | some ad =>
    refine wpList_append_own w hgd s x 22 ho base 65 i0 (.int .u64 0) 1 8 Tryz.underlying22 hi hz0 hz1 hz2 rfl (by decide) _ 0 [] hs h0 ad n cap (u64L xs) hx ?_ ?_ ?_ ?_ ?_ hb ?_
    · simp [u64L, hn]
    · intro j u hu
      unfold u64L at hu
      rw [List.getElem?_map] at hu
      cases hj : xs[j]? with
      | none => rw [hj] at hu; cases hu
      | some y =>
        rw [hj] at hu
        obtain ⟨_, ad', e, _, hc⟩ := hbuf j y hj
        cases e
        rw [hc]; exact hu
    · intro u hu
      obtain ⟨y, _, rfl⟩ := List.mem_map.1 hu
      rfl
    · unfold maxLen; omega
    · omega
    · intro v' w' h1 h2 _
      rw [Nat.zero_add, List.nil_append] at h1
      exact h v' w' h1 h2
theorem lat_any (w : World) (q g R C i j N cap x : Nat) (hR : R ≤ 40) (hC : C ≤ 40) (hi : i < R) (hj : j < C) (hN : R * C = N) (c5 : w.cell? ⟨q, 5, none⟩ = some (.int .i64 (C : Int))) (c6 : w.cell? ⟨q, 6, none⟩ = some (.slice (some ⟨g, 0, none⟩) N cap)) (hx : w.cell? ⟨g, i * C + j, none⟩ = some (.int .u64 (x : Int))) :
    Calls Tryz.prog 32 #[.pointer (some ⟨q, 4, none⟩), .int .i64 (i : Int), .int .i64 (j : Int)] w fun e w' => e = .returned (.int .u64 (x : Int)) ∧ ∃ n, w' = w.drewN n := by
  obtain ⟨k, hk, hk2, hk3, hk4, hk5, hk6⟩ := idx_int hR hC hi hj
  rw [← hk2] at hx
  rw [hN] at hk3 hk4
  clear hk2 hN
  go_enter Tryz.func32, Tryz.ntmps32
  go_wp2
  go_quiet (fail)
  go_wp2
  go_ret
  exact ⟨rfl, _, rfl⟩
set_option maxRecDepth 20000 in
set_option maxHeartbeats 8000000 in
theorem linto_any (w : World) (q m : Nat) (S : Nat → Prop) (h : LecIs w q S m) (R C off rs cs : Int) (ao : Option Addr) (n cap : Nat) (xs : List Nat) (hn : xs.length = n) (hn1 : n ≤ 10000000) (hao : ao = none → cap = 0) (hbuf : BufIs w ao xs) :
    Calls Tryz.prog 12 #[.pointer (some ⟨q, 0, none⟩), .slice ao n cap, viewV R C off rs cs] w fun e w' => e = .returned (.bool true) ∧ Below w.heap.size w w' := by
  have hmix : Tryz.prog.follows .mixedOrders = true := by kernel_rfl
  obtain ⟨p, Sf, s, x, ended, er, RR, CC, bo, bn, bcap, kind, er2, h, hxm⟩ := h
  obtain ⟨b, hb⟩ : ∃ b, w.heap.size = b := ⟨_, rfl⟩
  rw [hb]
  unfold viewV
  obtain ⟨V, hV⟩ : ∃ V, w.alloc (.cells #[.int .i64 R, .int .i64 C, .int .i64 off, .int .i64 rs, .int .i64 cs] 24) = V := ⟨_, rfl⟩
  have bV : Below w.heap.size w V := by rw [← hV]; exact Below.refl' _ _
  have mV : Arr V b 24 [.int .i64 R, .int .i64 C, .int .i64 off, .int .i64 rs, .int .i64 cs] := by rw [← hV, ← hb]; exact Arr.newL w _ _
  have zV : V.heap.size = b + 1 := by rw [← hV]; simp [hb]
  have HC := hid (copied_any V ao n cap xs hn (by omega) (hbuf.below bV))
  rw [zV] at HC
  have HV := hid hV
  have HMV := hid mV
  have HBV := hid bV
  have HZV := hid zV
  have H := hid h
  have HBUF := hid hbuf
  have hqb : q < b := by have := h.arr.lt; omega
  have hpb : p < b := by have := h.rd.ptr_lt; omega
  clear hV mV bV zV h hbuf
  go_enter Tryz.func12, Tryz.ntmps12
  go_wp2_with fail
  rw [HV.out]
  refine HC.out.mono ?_
  rintro e W1 ⟨rfl, a1, b1⟩
  have bw1 : Below b w W1 := (hb ▸ HBV.out).trans (b1.mono (by omega))
  have hbw1 : Below w.heap.size w W1 := by rw [hb]; exact bw1
  have H1 := hid (H.out.below hbw1)
  have v1 := HMV.out.below b1 (by omega)
  have HA1 := hid a1
  have HV1 := hid v1
  have HB1 := hid bw1
  have HU1 := hid (HBUF.out.below hbw1)
  clear a1 b1 bw1 hbw1 v1 HC HV HMV HBV
  obtain ⟨N, hN⟩ : ∃ N, n + 2 = N := ⟨_, rfl⟩
  rw [hN]
  have hNi : (n : Int) ≤ N := by omega
  have hNn : n ≤ N := by omega
  go_wp2_with fail
  refine wp_region_held (S := fun W' => Arr W' q 41 (lecC p x ended er RR CC (.slice bo bn bcap) kind er2) ∧ Arr W' b 24 [.int .i64 R, .int .i64 C, .int .i64 off, .int .i64 rs, .int .i64 cs]) hmix ?_
  change wpAnyH _ _ _ _ _ _ _ _ W1.drew
  have hSS : Arr W1.drew q 41 (lecC p x ended er RR CC (.slice bo bn bcap) kind er2) ∧ Arr W1.drew b 24 [.int .i64 R, .int .i64 C, .int .i64 off, .int .i64 rs, .int .i64 cs] := ⟨H1.out.arr, HV1.out⟩
  have HA2 : Hid (Arr W1.drew (b + 1) 65 (u64L (xs ++ [77, 78]))) := HA1.out
  have HB2 : Hid (Below b w W1.drew) := below_dn HB1.out 1
  have HU2 : Hid (BufIs W1.drew ao xs) := HU1.out
  have H2 : Hid (LecAt W1.drew q p S Sf s x ended er RR CC bo bn bcap kind er2) := H1.out.frame (fun _ _ => rfl) (Nat.le_refl _)
  clear HA1 HB1 HU1 H1 HV1
  generalize W1.drew = W2 at *
  refine wpAnyH_take (i := 0) (v := .pointer (some ⟨q, 0, none⟩)) rfl (by kernel_rfl) (by kernel_rfl) (by kernel_rfl) (fun _ _ _ h => h) (Or.inl ⟨by rfl, fun W' hS => ?_⟩) hSS ?_
  · clear hS
    go_simp
  simp only [Act.put]
  refine wpAnyH_take (i := 1) (v := .pointer (some ⟨q, 0, none⟩)) rfl (by kernel_rfl) (by kernel_rfl) (by kernel_rfl) (fun _ _ _ h => h) (Or.inl ⟨by rfl, fun W' hS => ?_⟩) hSS ?_
  · clear hS
    go_simp
  simp only [Act.put]
  refine wpAnyH_take (i := 2) (v := .pointer (some ⟨q, 0, none⟩)) rfl (by kernel_rfl) (by kernel_rfl) (by kernel_rfl) (fun _ _ _ h => h) (Or.inl ⟨by rfl, fun W' hS => ?_⟩) hSS ?_
  · clear hS
    go_simp
  simp only [Act.put]
  refine wpAnyH_take (i := 3) (v := .pointer (some ⟨p, 0, none⟩)) rfl (by kernel_rfl) (by kernel_rfl) (by kernel_rfl) (fun _ _ _ h => h) (Or.inl ⟨by rfl, fun W' hS => ?_⟩) hSS ?_
  · have q0 := hS.1.cell (i := 0) rfl
    clear hS
    go_simp
  simp only [Act.put]
  refine wpAnyH_take (i := 4) (v := .slice (some ⟨b + 1, 0, none⟩) N N) rfl (by kernel_rfl) (by kernel_rfl) (by kernel_rfl) (fun _ _ _ h => h) (Or.inl ⟨by rfl, fun W' hS => ?_⟩) hSS ?_
  · clear hS
    go_simp
  simp only [Act.put]
  refine wpAnyH_take (i := 5) (v := .int .i64 (n : Int)) rfl (by kernel_rfl) (by kernel_rfl) (by kernel_rfl) (fun _ _ _ h => h) (Or.inl ⟨by rfl, fun W' hS => ?_⟩) hSS ?_
  · clear hS
    go_simp
  simp only [Act.put]
  refine wpAnyH_take (i := 6) (v := .slice (some ⟨b + 1, 0, none⟩) n N) rfl (by kernel_rfl) (by kernel_rfl) (by kernel_rfl) (fun _ _ _ h => h) (Or.inl ⟨by rfl, fun W' hS => ?_⟩) hSS ?_
  · clear hS
    go_simp
  simp only [Act.put]
  refine wpAnyH_take (i := 7) (v := .agg #[.int .i64 R, .int .i64 C, .int .i64 off, .int .i64 rs, .int .i64 cs]) rfl (by kernel_rfl) (by kernel_rfl) (by kernel_rfl) (fun _ _ _ h => h) (Or.inl ⟨by rfl, fun W' hS => ?_⟩) hSS ?_
  · have q0 := hS.2.cell (i := 0) rfl
    have q1 := hS.2.cell (i := 1) rfl
    have q2 := hS.2.cell (i := 2) rfl
    have q3 := hS.2.cell (i := 3) rfl
    have q4 := hS.2.cell (i := 4) rfl
    clear hS
    go_simp
  simp only [Act.put]
  have HIN := hid (into_any W2 p Sf s n N (b + 1) (u64L (xs ++ [77, 78])) R C off rs cs H2.out.rd HA2.out (by simp [u64L]; omega) (by unfold maxLen; omega) (by omega) (fun h => by have := H2.out.hs _ h; have := H.out.lt _ this; omega))
  unfold viewV at HIN
  refine wpAnyH_ready (rs := [8]) (by kernel_rfl) (by simp) ?_
  refine AllReadyH.cons rfl (fun K hKK => ?_) AllReadyH.nil
  go_simp
  refine HIN.out.mono ?_
  rintro e W3 ⟨rfl, k3, a3, r3⟩
  have hS3 : Arr W3 q 41 (lecC p x ended er RR CC (.slice bo bn bcap) kind er2) ∧ Arr W3 b 24 [.int .i64 R, .int .i64 C, .int .i64 off, .int .i64 rs, .int .i64 cs] := ⟨k3.arr hSS.1 (by show ¬ q = b + 1; omega), k3.arr hSS.2 (by show ¬ b = b + 1; omega)⟩
  refine hKK.out _ _ hS3 (fun hHeld => ?_)
  clear hKK hHeld
  obtain ⟨E, hE⟩ : ∃ E, intoE s R C off rs cs n = E := ⟨_, rfl⟩
  obtain ⟨L, hL⟩ : ∃ L, intoL s R C off rs cs n (u64L (xs ++ [77, 78])) = L := ⟨_, rfl⟩
  rw [hE]
  rw [hL] at a3
  refine wpAnyH_take (i := 9) (v := .int .i64 E) rfl (by kernel_rfl) (by kernel_rfl) (by kernel_rfl) (fun _ _ _ h => h) (Or.inl ⟨by rfl, fun W' hS => ?_⟩) hS3 ?_
  · clear hS
    go_simp
  simp only [Act.put, List.getElem_toArray, List.getElem_cons_succ, List.getElem_cons_zero, List.setIfInBounds_toArray, List.set_cons_succ, List.set_cons_zero]
  refine wpAnyH_done (by kernel_rfl) ?_ _
  have HB3 : Hid (Below b w W3) := HB2.out.trans (k3.below (fun z hz => by show b ≤ z; have : z = b + 1 := hz; omega) (by have := HA2.out.lt; omega))
  have H3 : Hid (LecAt W3 q p S Sf s x ended er RR CC bo bn bcap kind er2) := H2.out.frame (fun z hz => k3.block z (H2.out.lt z hz) (fun e => by have e' : z = b + 1 := e; have := H.out.lt z hz; omega)) k3.size
  have HA3 := hid a3
  have HV3 := hid hS3.2
  have HE := hid hE
  have HL := hid hL
  have k0 := hS3.2.cell (i := 0) rfl
  have k1 := hS3.2.cell (i := 1) rfl
  have k2 := hS3.2.cell (i := 2) rfl
  have k3' := hS3.2.cell (i := 3) rfl
  have k4 := hS3.2.cell (i := 4) rfl
  have HFT := hid (refFits_any W3 R C off rs cs n (by omega))
  unfold viewV at HFT
  have HZ3 : Hid (b + 1 < W3.heap.size) := a3.lt
  clear k3 a3 r3 hS3 hE hL HIN hSS HA2 HB2 HU2 H2
  go_wp2_with fail
  refine HFT.out.mono ?_
  rintro e W4 ⟨⟨fb, rfl, hfb⟩, b4⟩
  have HB4 : Hid (Below b w W4) := HB3.out.trans (b4.mono (by have := HZ3.out; omega))
  have H4 := hid (H3.out.below b4)
  have HA4 := hid (HA3.out.belowAll b4)
  have v4 := HV3.out.belowAll b4
  have HV4 := hid v4
  have HFB := hid hfb
  have c0 := v4.cell (i := 0) rfl
  have c1 := v4.cell (i := 1) rfl
  have c2 := H4.out.arr.cell (i := 2) rfl
  have c3 := H4.out.arr.cell (i := 3) rfl
  have c4 := H4.out.arr.cell (i := 4) rfl
  have c5 := H4.out.arr.cell (i := 5) rfl
  clear hfb b4 k0 k1 k2 k3' k4 HFT HB3 H3 HA3 HV3 v4
  rcases H.out.st with ⟨hen, her, hs⟩ | ⟨her, hs⟩ | ⟨hen, her, k, R', C', f, hs, hRR, hCC, hkk, hR40, hC40, hbits, hown⟩
  · subst hen
    have hs2 : s = .begin ∨ ∃ t, s = .file t := by
      have := feedS_ok (s := .begin) (l := x.data.toList) (.inl rfl) (by rw [hs])
      rw [hs] at this
      exact this
    have hE11 : E = 11 := by
      rw [← HE.out]
      rcases hs2 with rfl | ⟨t, rfl⟩ <;> rfl
    have hLx : L = u64L (xs ++ [77, 78]) := by
      rw [← HL.out]
      rcases hs2 with rfl | ⟨t, rfl⟩ <;> rfl
    subst hE11
    rw [hLx] at HA4
    have HAL4 := HA4
    clear HE HL HA4 H4 HV4 HFB hs hs2 hLx
    have HU5 : Hid (BufIs W4 ao xs) := HBUF.out.below (by rw [hb]; exact HB4.out)
    have HAL5 : Hid (Arr W4 (b + 1) 65 (u64L (xs ++ [77, 78]))) := HAL4.out
    have HB5 : Hid (Below b w W4) := HB4.out
    have HZ5 : Hid (b ≤ W4.heap.size) := (by show b ≤ _; have := HB4.out.size; omega)
    clear HAL4
    generalize W4 = W5 at *
    go_wp2_with (at_builtin; refine wpList_appendU rfl _ _ rfl W5.heap.size ao n cap xs rfl rfl HU5.out hn hao hn1 (Nat.le_refl _) ?_)
    intro v' W6 hown6 hgrow6
    have b6 : Below W5.heap.size W5 W6 := (Below.refl _ _).grown hgrow6 (Nat.le_refl _) (fun k hk => by cases hk)
    obtain ⟨vo, vcap, rfl, hnm⟩ := own_nums hn hown6
    have HST := hid (lstill_any W6 (b + 1) vo n vcap xs hn (by omega) hnm (HAL5.out.belowAll b6))
    rw [hN] at HST
    have HB6 := hid (HB5.out.trans (b6.mono HZ5.out))
    clear hown6 hgrow6 hnm b6
    go_wp2_with fail
    go_loopw [13] (fun vi wr => vi = .int .i64 0 ∧ wr = W6) (fun _ _ => 0)
    case atStart => exact ⟨rfl, rfl⟩
    case round =>
      obtain ⟨rfl, rfl⟩ := hrel
      go_wp2_with fail
      refine HST.out.mono ?_
      rintro e W7 ⟨rfl, m7, hW7⟩
      subst W7
      go_wp2
      go_ret
      exact ⟨by simp, below_dn HB6.out m7⟩
  · subst hs
    have hE11 : E = 11 := by rw [← HE.out]; rfl
    have hLx : L = u64L (xs ++ [77, 78]) := by rw [← HL.out]; rfl
    subst hE11
    rw [hLx] at HA4
    have HAL4 := HA4
    have her1 : (er == 0) = false := by simpa using her
    have her2 : (er != 0) = true := by simpa using her
    clear HE HL HA4 H4 HV4 HFB hLx
    cases ended
    · skip
      have HU5 : Hid (BufIs W4 ao xs) := HBUF.out.below (by rw [hb]; exact HB4.out)
      have HAL5 : Hid (Arr W4 (b + 1) 65 (u64L (xs ++ [77, 78]))) := HAL4.out
      have HB5 : Hid (Below b w W4) := HB4.out
      have HZ5 : Hid (b ≤ W4.heap.size) := (by show b ≤ _; have := HB4.out.size; omega)
      clear HAL4
      generalize W4 = W5 at *
      go_wp2_with (at_builtin; refine wpList_appendU rfl _ _ rfl W5.heap.size ao n cap xs rfl rfl HU5.out hn hao hn1 (Nat.le_refl _) ?_)
      intro v' W6 hown6 hgrow6
      have b6 : Below W5.heap.size W5 W6 := (Below.refl _ _).grown hgrow6 (Nat.le_refl _) (fun k hk => by cases hk)
      obtain ⟨vo, vcap, rfl, hnm⟩ := own_nums hn hown6
      have HST := hid (lstill_any W6 (b + 1) vo n vcap xs hn (by omega) hnm (HAL5.out.belowAll b6))
      rw [hN] at HST
      have HB6 := hid (HB5.out.trans (b6.mono HZ5.out))
      clear hown6 hgrow6 hnm b6
      go_wp2_with fail
      go_loopw [13] (fun vi wr => vi = .int .i64 0 ∧ wr = W6) (fun _ _ => 0)
      case atStart => exact ⟨rfl, rfl⟩
      case round =>
        obtain ⟨rfl, rfl⟩ := hrel
        go_wp2_with fail
        refine HST.out.mono ?_
        rintro e W7 ⟨rfl, m7, hW7⟩
        subst W7
        go_wp2
        go_ret
        exact ⟨by simp, below_dn HB6.out m7⟩
    · skip
      have HU5 : Hid (BufIs W4 ao xs) := HBUF.out.below (by rw [hb]; exact HB4.out)
      have HAL5 : Hid (Arr W4 (b + 1) 65 (u64L (xs ++ [77, 78]))) := HAL4.out
      have HB5 : Hid (Below b w W4) := HB4.out
      have HZ5 : Hid (b ≤ W4.heap.size) := (by show b ≤ _; have := HB4.out.size; omega)
      clear HAL4
      generalize W4 = W5 at *
      go_wp2_with (at_builtin; refine wpList_appendU rfl _ _ rfl W5.heap.size ao n cap xs rfl rfl HU5.out hn hao hn1 (Nat.le_refl _) ?_)
      intro v' W6 hown6 hgrow6
      have b6 : Below W5.heap.size W5 W6 := (Below.refl _ _).grown hgrow6 (Nat.le_refl _) (fun k hk => by cases hk)
      obtain ⟨vo, vcap, rfl, hnm⟩ := own_nums hn hown6
      have HST := hid (lstill_any W6 (b + 1) vo n vcap xs hn (by omega) hnm (HAL5.out.belowAll b6))
      rw [hN] at HST
      have HB6 := hid (HB5.out.trans (b6.mono HZ5.out))
      clear hown6 hgrow6 hnm b6
      go_wp2_with fail
      go_loopw [13] (fun vi wr => vi = .int .i64 0 ∧ wr = W6) (fun _ _ => 0)
      case atStart => exact ⟨rfl, rfl⟩
      case round =>
        obtain ⟨rfl, rfl⟩ := hrel
        go_wp2_with fail
        refine HST.out.mono ?_
        rintro e W7 ⟨rfl, m7, hW7⟩
        subst W7
        go_wp2
        go_ret
        exact ⟨by simp, below_dn HB6.out m7⟩
  · subst hen her hs
    have HRR := hid hRR
    have HCC := hid hCC
    subst hRR hCC hkk
    cases fb with
    | false =>
      have hfit : ¬ FitV R C off rs cs n := fun h => by have := HFB.out.2 h; cases this
      have hE2 : E = 2 := by rw [← HE.out]; exact intoE_2 hfit
      have hLx : L = u64L (xs ++ [77, 78]) := by
        rw [← HL.out]
        unfold intoL
        simp only
        rw [if_neg (by rw [intoE_2 hfit]; decide)]
      subst hE2
      rw [hLx] at HA4
      have HAL4 := HA4
      clear HE HL HA4 H4 HV4 HFB hLx
      have HU5 : Hid (BufIs W4 ao xs) := HBUF.out.below (by rw [hb]; exact HB4.out)
      have HAL5 : Hid (Arr W4 (b + 1) 65 (u64L (xs ++ [77, 78]))) := HAL4.out
      have HB5 : Hid (Below b w W4) := HB4.out
      have HZ5 : Hid (b ≤ W4.heap.size) := (by show b ≤ _; have := HB4.out.size; omega)
      clear HAL4
      generalize W4 = W5 at *
      go_wp2_with (at_builtin; refine wpList_appendU rfl _ _ rfl W5.heap.size ao n cap xs rfl rfl HU5.out hn hao hn1 (Nat.le_refl _) ?_)
      intro v' W6 hown6 hgrow6
      have b6 : Below W5.heap.size W5 W6 := (Below.refl _ _).grown hgrow6 (Nat.le_refl _) (fun k hk => by cases hk)
      obtain ⟨vo, vcap, rfl, hnm⟩ := own_nums hn hown6
      have HST := hid (lstill_any W6 (b + 1) vo n vcap xs hn (by omega) hnm (HAL5.out.belowAll b6))
      rw [hN] at HST
      have HB6 := hid (HB5.out.trans (b6.mono HZ5.out))
      clear hown6 hgrow6 hnm b6
      go_wp2_with fail
      go_loopw [13] (fun vi wr => vi = .int .i64 0 ∧ wr = W6) (fun _ _ => 0)
      case atStart => exact ⟨rfl, rfl⟩
      case round =>
        obtain ⟨rfl, rfl⟩ := hrel
        go_wp2_with fail
        refine HST.out.mono ?_
        rintro e W7 ⟨rfl, m7, hW7⟩
        subst W7
        go_wp2
        go_ret
        exact ⟨by simp, below_dn HB6.out m7⟩
    | true =>
      have hfit : FitV R C off rs cs n := HFB.out.1 rfl
      by_cases hdim : R = R' ∧ C = C'
      · obtain ⟨rfl, rfl⟩ := hdim
        have hE0 : E = 0 := by rw [← HE.out]; exact intoE_0 hfit ⟨rfl, rfl⟩
        have hLx : L = u64L ((rowsL R' C' f).foldl (setN off rs cs) xs ++ [77, 78]) := by
          rw [← HL.out]
          unfold intoL
          simp only
          rw [if_pos (intoE_0 hfit ⟨rfl, rfl⟩)]
          unfold putL
          rw [put_setN, setN_app]
          intro y hy
          have hm := rowsL_mem hy
          obtain ⟨_, _, _, h3⟩ := hfit
          rcases h3 with h3 | h3 | h3
          · omega
          · omega
          · have := h3.1 y.1 y.2.1 (by simpa using hm.1) (by simpa using hm.2.1)
            omega
        subst hE0
        rw [hLx] at HA4
        have HFIT := hid hfit
        have HBITS := hid hbits
        clear HE HL HFB hLx hfit hbits
        go_wp2_with fail
        go_quiet (fail)
        clear c0 c1 c2 c3 c4 c5
        have HU5 : Hid (BufIs (W4.drewN nq) ao xs) := HBUF.out.below (by rw [hb]; exact (below_dn HB4.out nq))
        have HAL5 : Hid (Arr (W4.drewN nq) (b + 1) 65 (u64L ((rowsL R' C' f).foldl (setN off rs cs) xs ++ [77, 78]))) := HA4.out
        have HB5 : Hid (Below b w (W4.drewN nq)) := (below_dn HB4.out nq)
        have HZ5 : Hid (b ≤ (W4.drewN nq).heap.size) := (by show b ≤ W4.heap.size; have := HB4.out.size; omega)
        have HV5 : Hid (Arr (W4.drewN nq) b 24 [.int .i64 (R' : Int), .int .i64 (C' : Int), .int .i64 off, .int .i64 rs, .int .i64 cs]) := HV4.out
        have H5 : Hid (LecAt (W4.drewN nq) q p S Sf (.ended k R' C' f) x true 0 R' C' bo bn bcap k er2) := H4.out.frame (fun _ _ => rfl) (Nat.le_refl _)
        clear HA4 HB4 HV4 H4
        generalize W4.drewN nq = W5 at *
        go_wp2_with (at_builtin; refine wpList_appendU rfl _ _ rfl W5.heap.size ao n cap xs rfl rfl HU5.out hn hao hn1 (Nat.le_refl _) ?_)
        intro v' W6 hown6 hgrow6
        have b6 : Below W5.heap.size W5 W6 := (Below.refl _ _).grown hgrow6 (Nat.le_refl _) (fun k hk => by cases hk)
        have HB6 := hid (HB5.out.trans (b6.mono HZ5.out))
        have HOW6 := hid hown6
        have HV6 := hid (HV5.out.belowAll b6)
        have HAL6 := hid (HAL5.out.belowAll b6)
        have HGb : Hid (b + 1 < W5.heap.size) := HAL5.out.lt
        obtain ⟨vo, vcap, hv', _⟩ := own_nums hn hown6
        subst hv'
        have hz56 := b6.size
        clear hown6 hgrow6 b6
        generalize hG : W5.heap.size = G at *
        have HG := hid hG
        clear hG
        go_wp2_with fail
        go_loopw [13] (fun vi wr => ∃ i : Nat, vi = .int .i64 (i : Int) ∧ i ≤ R' ∧ Hid (wr.ownsRow G 65 1 (.slice vo n vcap) n (u64L (((rowsL R' C' f).take (i * C')).foldl (setN off rs cs) xs))) ∧ Hid (Below G W6 wr)) (fun vi _ => R' - (intOf vi).toNat)
        case atStart => exact ⟨0, rfl, by omega, by rw [Nat.zero_mul]; exact HOW6.out, Below.refl _ _⟩
        case round =>
          obtain ⟨i, rfl, hi, HO, HBL⟩ := hrel
          have v5 := (HV6.out.below HBL.out (by have := HGb.out; omega))
          have m0 := v5.cell (i := 0) rfl
          by_cases hlt : i < R'
          · have hlt' : (i : Int) < R' := by omega
            go_wp2_with fail
            go_loopw [14] (fun vj wx => ∃ j : Nat, vj = .int .i64 (j : Int) ∧ j ≤ C' ∧ Hid (wx.ownsRow G 65 1 (.slice vo n vcap) n (u64L (((rowsL R' C' f).take (i * C' + j)).foldl (setN off rs cs) xs))) ∧ Hid (Below G W6 wx)) (fun vj _ => C' - (intOf vj).toNat)
            case atStart => exact ⟨0, rfl, by omega, HO.out, HBL.out⟩
            case round =>
              clear m0 v5 HO HBL
              obtain ⟨j, rfl, hj, HO, HBL⟩ := hrel
              have v5 := (HV6.out.below HBL.out (by have := HGb.out; omega))
              have m0 := v5.cell (i := 0) rfl
              have m1 := v5.cell (i := 1) rfl
              have m2 := v5.cell (i := 2) rfl
              have m3 := v5.cell (i := 3) rfl
              have m4 := v5.cell (i := 4) rfl
              by_cases hjt : j < C'
              · have hjt' : (j : Int) < C' := by omega
                obtain ⟨h100, _, _, h3⟩ := HFIT.out
                have hfit' : Fit R' C' off rs cs n := by
                  rcases h3 with h | h | h
                  · omega
                  · omega
                  · simpa using h
                have hin := hfit'.1 i j hlt hjt
                have hin0 := hfit'.1 0 0 (by omega) (by omega)
                have hst := fit_step (by omega) (by omega) hfit'
                obtain ⟨pq, hpq⟩ : ∃ pq : Nat, off + i * rs + j * cs = (pq : Int) := ⟨_, (Int.toNat_of_nonneg hin.1).symm⟩
                have hpn : pq < n := by omega
                have hpn' : (pq : Int) < n := by omega
                have HPL := hid (place_p wr R' C' off rs cs i j (pq : Int) (by omega) (by omega) (by simp at hin0; omega) (by omega) (by omega) hpq)
                unfold viewV at HPL
                obtain ⟨g, rfl, hGg⟩ : ∃ g, vo = some ⟨g, 0, none⟩ ∧ G ≤ g := by
                  rcases HO.out.2 with ⟨_, h0⟩ | ⟨g, cap2, cur, e, hbg, _⟩
                  · omega
                  · injection e with e _ _; exact ⟨g, e, hbg⟩
                obtain ⟨ao', cap', e', hh⟩ := HBITS.out
                injection e' with e1 e2 e3
                rcases hh with h0 | ⟨gg, hgo, _, hgg, hcell⟩
                · rcases Nat.mul_eq_zero.1 h0 with h0 | h0 <;> omega
                have hcx := hcell i j hlt hjt
                have hcells : (u64L (((rowsL R' C' f).take (i * C' + j)).foldl (setN off rs cs) xs)).length = n := by simp [u64L, setN_len, hn]
                have HPQ := hid hpq
                have HCX := hid hcx
                have HE1 := hid e1
                have HE2 := hid e2
                have HGO := hid hgo
                have HCL := hid hcells
                have HFT2 := hid hfit'
                clear hin hin0 hst hpq h3 h100 hcell e1 e2 e3 hgo hcx hcells hfit'
                go_wp2_with fail
                refine HPL.out.mono ?_
                rintro e w1 ⟨rfl, hw1⟩
                have hGw : G ≤ wr.heap.size := by have := HBL.out.size; omega
                have b1 : Below G wr w1 := by rw [hw1]; exact (Below.refl _ _).alloc hGw _
                have hz1 : wr.heap.size ≤ w1.heap.size := b1.size
                have bw : Below b w w1 := HB6.out.trans ((HBL.out.trans b1).mono (by have := HGb.out; omega))
                have aq := (H.out.below (by rw [hb]; exact bw)).arr
                have d5 := aq.cell (i := 5) rfl
                have d6 : w1.cell? ⟨q, 6, none⟩ = some (.slice (some ⟨gg, 0, none⟩) (R' * C') bcap) := by
                  have := aq.cell (i := 6) rfl
                  rw [this, HE1.out, HE2.out, HGO.out]
                have hx1 : w1.cell? ⟨gg, i * C' + j, none⟩ = some (.int .u64 (f i j : Int)) := (bw.cell (p := ⟨gg, i * C' + j, none⟩) (by show gg < b; omega)).trans HCX.out
                have HAT := hid (lat_any w1 q gg R' C' i j (R' * C') bcap (f i j) hR40 hC40 hlt hjt rfl d5 d6 hx1)
                have own1 : w1.ownsRow G 65 1 (.slice (some ⟨g, 0, none⟩) n vcap) n (u64L (((rowsL R' C' f).take (i * C' + j)).foldl (setN off rs cs) xs)) := by rw [hw1]; exact HO.out.alloc _
                have HOW1 := hid own1
                have HBL1 := hid (HBL.out.trans b1)
                clear hw1 b1 bw aq d5 d6 hx1 own1 HO HBL m0 m1 m2 m3 m4 v5 HPL HE1 HE2 HGO
                go_wp2_with fail
                refine HAT.out.mono ?_
                rintro e w2 ⟨rfl, n2, hw2⟩
                have own2 : w2.ownsRow G 65 1 (.slice (some ⟨g, 0, none⟩) n vcap) n (u64L (((rowsL R' C' f).take (i * C' + j)).foldl (setN off rs cs) xs)) := by rw [hw2]; exact HOW1.out
                have hb2 : Below G W6 w2 := by rw [hw2]; exact below_dn HBL1.out n2
                obtain ⟨v0, hv0⟩ : ∃ v0, (u64L (((rowsL R' C' f).take (i * C' + j)).foldl (setN off rs cs) xs))[pq]? = some v0 := ⟨_, List.getElem?_eq_getElem (by rw [HCL.out]; exact hpn)⟩
                have x0 : w2.cell? ⟨g, pq, none⟩ = some v0 := by rw [own2.cellAt pq (by omega)]; exact hv0
                have y0 : w2.frozen? ⟨g, pq, none⟩ = false := own2.frozenAt pq
                have HOW2 := hid own2
                have HBL2 := hid hb2
                clear hw2 own2 hb2 hv0 HAT HOW1 HBL1
                go_wp2
                go_round
                case rel =>
                  refine ⟨j + 1, by simp, by omega, ?_, HBL2.out.setCell (p := ⟨g, pq, none⟩) hGg _⟩
                  have h1 := (HOW2.out.stored pq (.int .u64 (f i j : Int))).1
                  have e2 : ((rowsL R' C' f).take (i * C' + (j + 1))).foldl (setN off rs cs) xs = (((rowsL R' C' f).take (i * C' + j)).foldl (setN off rs cs) xs).set pq (f i j) := by
                    rw [show i * C' + (j + 1) = i * C' + j + 1 by omega, take_snoc_get (rowsL_at f hlt hjt), List.foldl_append]
                    simp only [List.foldl_cons, List.foldl_nil, setN]
                    rw [HPQ.out, Int.toNat_natCast]
                  show World.ownsRow _ _ _ _ _ _ _
                  rw [e2]
                  have e3 : u64L ((((rowsL R' C' f).take (i * C' + j)).foldl (setN off rs cs) xs).set pq (f i j)) = (u64L (((rowsL R' C' f).take (i * C' + j)).foldl (setN off rs cs) xs)).set pq (.int .u64 (f i j : Int)) := by unfold u64L; rw [List.map_set]
                  rw [e3]
                  exact h1
                case measure => simp [intOf]; omega
              · have hjt' : ¬ (j : Int) < C' := by omega
                obtain rfl : j = C' := by omega
                go_wp2
                go_round
                case rel => exact ⟨i + 1, by simp, by omega, by have := HO.out; rw [Nat.succ_mul]; exact this, HBL.out⟩
                case measure => simp [intOf]; omega
          · have hlt' : ¬ (i : Int) < R' := by omega
            obtain rfl : i = R' := by omega
            have hys : ((rowsL i C' f).take (i * C')).foldl (setN off rs cs) xs = (rowsL i C' f).foldl (setN off rs cs) xs := by rw [List.take_of_length_le (by rw [rowsL_len]; omega)]
            have how := HO.out
            rw [hys] at how
            obtain ⟨vo2, vcap2, hve, hnm⟩ := own_nums (by rw [setN_len]; exact hn) how
            injection hve with hv1 hv2 hv3
            subst hv1 hv3
            have HST := hid (lstill_any wr (b + 1) vo n vcap _ (by rw [setN_len]; exact hn) (by omega) hnm (HAL6.out.below HBL.out (by have := HGb.out; omega)))
            rw [hN] at HST
            have HB7 := hid (HB6.out.trans (HBL.out.mono (by have := HGb.out; omega)))
            clear hys how hnm HO HBL
            go_wp2_with fail
            refine HST.out.mono ?_
            rintro e W7 ⟨rfl, m7, hW7⟩
            subst W7
            go_wp2
            go_ret
            exact ⟨by simp, below_dn HB7.out m7⟩
      · have hE4 : E = 4 := by rw [← HE.out]; exact intoE_4 hfit hdim
        have hLx : L = u64L (xs ++ [77, 78]) := by
          rw [← HL.out]
          unfold intoL
          simp only
          rw [if_neg (by rw [intoE_4 hfit hdim]; decide)]
        subst hE4
        rw [hLx] at HA4
        have HAL4 := HA4
        clear HE HL HA4 H4 HV4 HFB hLx
        by_cases hRe : R = R'
        · have hCe : (C != (C' : Int)) = true := by rw [bne_iff_ne]; exact fun h => hdim ⟨hRe, h⟩
          have hRe2 : (R != (R' : Int)) = false := by rw [hRe]; simp
          clear hdim hfit
          go_wp2_with fail
          go_quiet (fail)
          clear c0 c1 c2 c3 c4 c5
          have HU5 : Hid (BufIs (W4.drewN nq) ao xs) := HBUF.out.below (by rw [hb]; exact (below_dn HB4.out nq))
          have HAL5 : Hid (Arr (W4.drewN nq) (b + 1) 65 (u64L (xs ++ [77, 78]))) := HAL4.out
          have HB5 : Hid (Below b w (W4.drewN nq)) := (below_dn HB4.out nq)
          have HZ5 : Hid (b ≤ (W4.drewN nq).heap.size) := (by show b ≤ W4.heap.size; have := HB4.out.size; omega)
          clear HAL4 HB4
          generalize W4.drewN nq = W5 at *
          go_wp2_with (at_builtin; refine wpList_appendU rfl _ _ rfl W5.heap.size ao n cap xs rfl rfl HU5.out hn hao hn1 (Nat.le_refl _) ?_)
          intro v' W6 hown6 hgrow6
          have b6 : Below W5.heap.size W5 W6 := (Below.refl _ _).grown hgrow6 (Nat.le_refl _) (fun k hk => by cases hk)
          obtain ⟨vo, vcap, rfl, hnm⟩ := own_nums hn hown6
          have HST := hid (lstill_any W6 (b + 1) vo n vcap xs hn (by omega) hnm (HAL5.out.belowAll b6))
          rw [hN] at HST
          have HB6 := hid (HB5.out.trans (b6.mono HZ5.out))
          clear hown6 hgrow6 hnm b6
          go_wp2_with fail
          go_loopw [13] (fun vi wr => vi = .int .i64 0 ∧ wr = W6) (fun _ _ => 0)
          case atStart => exact ⟨rfl, rfl⟩
          case round =>
            obtain ⟨rfl, rfl⟩ := hrel
            go_wp2_with fail
            refine HST.out.mono ?_
            rintro e W7 ⟨rfl, m7, hW7⟩
            subst W7
            go_wp2
            go_ret
            exact ⟨by simp, below_dn HB6.out m7⟩
        · have hRe2 : (R != (R' : Int)) = true := by rw [bne_iff_ne]; exact hRe
          clear hdim hfit
          go_wp2_with fail
          go_quiet (fail)
          clear c0 c1 c2 c3 c4 c5
          have HU5 : Hid (BufIs (W4.drewN nq) ao xs) := HBUF.out.below (by rw [hb]; exact (below_dn HB4.out nq))
          have HAL5 : Hid (Arr (W4.drewN nq) (b + 1) 65 (u64L (xs ++ [77, 78]))) := HAL4.out
          have HB5 : Hid (Below b w (W4.drewN nq)) := (below_dn HB4.out nq)
          have HZ5 : Hid (b ≤ (W4.drewN nq).heap.size) := (by show b ≤ W4.heap.size; have := HB4.out.size; omega)
          clear HAL4 HB4
          generalize W4.drewN nq = W5 at *
          go_wp2_with (at_builtin; refine wpList_appendU rfl _ _ rfl W5.heap.size ao n cap xs rfl rfl HU5.out hn hao hn1 (Nat.le_refl _) ?_)
          intro v' W6 hown6 hgrow6
          have b6 : Below W5.heap.size W5 W6 := (Below.refl _ _).grown hgrow6 (Nat.le_refl _) (fun k hk => by cases hk)
          obtain ⟨vo, vcap, rfl, hnm⟩ := own_nums hn hown6
          have HST := hid (lstill_any W6 (b + 1) vo n vcap xs hn (by omega) hnm (HAL5.out.belowAll b6))
          rw [hN] at HST
          have HB6 := hid (HB5.out.trans (b6.mono HZ5.out))
          clear hown6 hgrow6 hnm b6
          go_wp2_with fail
          go_loopw [13] (fun vi wr => vi = .int .i64 0 ∧ wr = W6) (fun _ _ => 0)
          case atStart => exact ⟨rfl, rfl⟩
          case round =>
            obtain ⟨rfl, rfl⟩ := hrel
            go_wp2_with fail
            refine HST.out.mono ?_
            rintro e W7 ⟨rfl, m7, hW7⟩
            subst W7
            go_wp2
            go_ret
            exact ⟨by simp, below_dn HB6.out m7⟩
end Go.Proofs.YthdcceackfdbbaaGreatDoor
