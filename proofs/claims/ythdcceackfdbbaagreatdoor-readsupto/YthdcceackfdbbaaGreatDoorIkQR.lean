import Derived.Test.YthdcceackfdbbaaGreatDoorM21R
import Derived.RegionTactic
import Derived.BigQuiet
namespace Go.Proofs.YthdcceackfdbbaaGreatDoor
open Go Go.RowKit
theorem idx_none {free : List (Nat × Nat)} {x y : Int} (h : ∀ i j : Nat, (i : Int) = x → (j : Int) = y → (i, j) ∉ free) : idxP free x y = none := by
  unfold idxP
  rw [List.findIdx?_eq_none_iff]
  rintro ⟨i, j⟩ hq
  unfold isAt eqB
  simp only [decide_eq_false_iff_not]
  rintro ⟨h1, h2⟩
  exact h i j h1 h2 hq
theorem idx_some {free : List (Nat × Nat)} {i j : Nat} (h : (i, j) ∈ free) : ∃ q, idxP free (i : Int) (j : Int) = some q ∧ free[q]? = some (i, j) := by
  cases hq : idxP free (i : Int) (j : Int) with
  | none =>
    exfalso
    unfold idxP at hq
    rw [List.findIdx?_eq_none_iff] at hq
    have := hq (i, j) h
    simp [isAt, eqB] at this
  | some q =>
    refine ⟨q, rfl, ?_⟩
    unfold idxP at hq
    rw [List.findIdx?_eq_some_iff_getElem] at hq
    obtain ⟨h1, h2, _⟩ := hq
    rw [List.getElem?_eq_getElem h1]
    have h3 : isAt (i : Int) (j : Int) free[q] = true := h2
    unfold isAt eqB at h3
    rw [decide_eq_true_eq] at h3
    have e : free[q] = (i, j) := Prod.ext (by simp only; omega) (by simp only; omega)
    rw [e]
theorem mem_er {free : List (Nat × Nat)} (hnd : free.Nodup) {q : Nat} {i j : Nat} (hq : free[q]? = some (i, j)) (x y : Nat) : (x, y) ∈ free.eraseIdx q ↔ (x, y) ∈ free ∧ ¬ (x = i ∧ y = j) := by
  rw [List.mem_eraseIdx_iff_getElem?]
  have hp := List.pairwise_iff_getElem.1 hnd
  have key : ∀ r : Nat, free[r]? = some (i, j) → r = q := fun r hr => by
    obtain ⟨h1, h2⟩ := List.getElem?_eq_some_iff.1 hr
    obtain ⟨h3, h4⟩ := List.getElem?_eq_some_iff.1 hq
    rcases Nat.lt_trichotomy r q with h | h | h
    · exact (hp r q h1 h3 h (h2.trans h4.symm)).elim
    · exact h
    · exact (hp q r h3 h1 h (h4.trans h2.symm)).elim
  constructor
  · rintro ⟨r, hr, hr2⟩
    exact ⟨List.mem_of_getElem? hr2, fun ⟨a, b⟩ => hr (key r (by rw [hr2, a, b]))⟩
  · rintro ⟨h1, h2⟩
    obtain ⟨r, hr⟩ := List.getElem?_of_mem h1
    exact ⟨r, fun e => h2 (by rw [e, hq] at hr; cases hr; exact ⟨rfl, rfl⟩), hr⟩
theorem nodup_er {free : List (Nat × Nat)} (hnd : free.Nodup) (q : Nat) : (free.eraseIdx q).Nodup := hnd.sublist (List.eraseIdx_sublist _ _)
theorem cell_ne {C i j x y : Nat} (hj : j < C) (hy : y < C) (h : x * C + y = i * C + j) : x = i ∧ y = j := by
  have h1 : (x * C + y) % C = (i * C + j) % C := by rw [h]
  have h2 : (x * C + y) / C = (i * C + j) / C := by rw [h]
  rw [Nat.mul_comm x, Nat.mul_comm i, Nat.mul_add_mod, Nat.mul_add_mod, Nat.mod_eq_of_lt hj, Nat.mod_eq_of_lt hy] at h1
  rw [Nat.mul_comm x, Nat.mul_comm i, Nat.mul_add_div (by omega), Nat.mul_add_div (by omega), Nat.div_eq_of_lt hj, Nat.div_eq_of_lt hy] at h2
  exact ⟨by omega, h1⟩
theorem free_er {R C u v q : Nat} {bl : List Bool} {free : List (Nat × Nat)} {H : Nat → Nat → Prop} (hnd : free.Nodup) (hq : free[q]? = some (u, v)) (hv : v < C) (hl : u * C + v < bl.length)
    (h : ∀ i j, (i, j) ∈ free ↔ (i < R ∧ j < C ∧ H i j ∧ bl[i * C + j]? = some false)) :
    ∀ i j, (i, j) ∈ free.eraseIdx q ↔ (i < R ∧ j < C ∧ H i j ∧ (bl.set (u * C + v) true)[i * C + j]? = some false) := by
  intro i j
  rw [mem_er hnd hq, h i j]
  constructor
  · rintro ⟨⟨h1, h2, h3, h4⟩, h5⟩
    refine ⟨h1, h2, h3, ?_⟩
    rw [List.getElem?_set_ne (fun e => h5 (cell_ne hv h2 e.symm))]; exact h4
  · rintro ⟨h1, h2, h3, h4⟩
    by_cases e : u * C + v = i * C + j
    · rw [e, List.getElem?_set_self (by omega)] at h4; cases h4
    · rw [List.getElem?_set_ne e] at h4
      exact ⟨⟨h1, h2, h3, h4⟩, fun ⟨a, b⟩ => e (by rw [a, b])⟩
theorem Arr.val {w : World} {g : Nat} {t : TypeId} {l : List Value} (h : Arr w g t l) {o : Nat} {v : Value} (hc : w.cell? ⟨g, o, none⟩ = some v) : l[o]? = some v := by
  simpa [World.cell?, show w.heap[g]? = _ from h] using hc
set_option maxRecDepth 20000 in
set_option maxHeartbeats 2000000 in
theorem rentry_2 (w : World) (p B : Nat) (ao : Option Addr) (n cap : Nat) (ws : List ByteArray) (hn : ws.length = n) (hn1 : n ≤ 1000000) (hcap : n ≤ cap) (hsz : ∀ x ∈ ws, x.size ≤ 1000000) (hws : StrsAt w ao ws) (R C left : Nat) (free : List (Nat × Nat)) (f : Nat → Nat → Nat) (h : TxtIs B w p (.ent 2 R C left free f)) (hB : B ≤ p) :
    Calls Tryz.prog 118 #[.pointer (some ⟨p, 0, none⟩), .slice ao n cap] w fun e w' => LineQ B w p (cooE 2 R C left free f false (ws.map (·.data.toList))) e w' := by
  obtain ⟨_, hR, hC, hCR, had, g, hb, bl, aP, hBg, hBh, hgh, hgp, hhp, ⟨L, aG, hLl, hLn⟩, aH, hbl, hle, _, hfr⟩ := h
  obtain ⟨hnd, hfree⟩ := hfr (by omega)
  have HL : Hid (∀ w : World, Calls Tryz.prog 77 #[.int .i64 2] w fun e w' => e = .returned (.bool true) ∧ w' = w) := fun w => by simpa using list_any w 2
  have HH : Hid (∀ w : World, Calls Tryz.prog 44 #[.int .i64 2] w fun e w' => e = .returned (.bool false) ∧ w' = w) := fun w => by simpa using half_any w 2
  have hpl := aP.lt
  have hRC : R * C ≤ 1600 := Nat.mul_le_mul hR hC
  obtain ⟨res, hres⟩ : ∃ res, cooE 2 R C left free f false (ws.map (·.data.toList)) = res := ⟨_, rfl⟩
  rw [hres]
  have HRES := hid hres
  have HP := hid aP
  have HG := hid aG
  have HHB := hid aH
  have HLN := hid hLn
  have HLL := hid hLl
  have HFREE := hid hfree
  have HND := hid hnd
  have HBL := hid hbl
  have HWS := hid hws
  have HSZ := hid hsz
  have p0 := aP.cell (i := 0) rfl
  have hplen : (plsL 2 R C).length ≤ 1600 := by rw [plsL_eq (by omega), List.length_map]; exact Nat.le_trans (List.length_filter_le _ _) (by rw [List.length_range]; exact hRC)
  have HCR : Hid (True) := trivial
  clear hCR hres aP aG aH hLn hLl hfree hnd hbl hws hsz hfr
  go_enter Tryz.func118, Tryz.ntmps118
  go_wp2_with fail
  refine (HL.out w).mono ?_
  rintro e w1 ⟨rfl, rfl⟩
  by_cases h1 : n = 3
  · subst h1
    obtain ⟨x0, x1, x2, rfl⟩ : ∃ x0 x1 x2, ws = [x0, x1, x2] := by
      match ws, hn with
      | [x0, x1, x2], _ => exact ⟨x0, x1, x2, rfl⟩
    obtain ⟨gw, ow, rfl, hgw, _⟩ := HWS.out 0 x0 (by simp)
    obtain ⟨gw', ow', hee, _, hcw⟩ := HWS.out 2 x2 (by simp)
    cases hee
    have hx2s := HSZ.out x2 (by simp)
    have HCN := hid (rcounted_any w1 (some ⟨gw, ow, none⟩) 2 cap [x0, x1] rfl (by omega) (fun x hx => HSZ.out x (by simp at hx; rcases hx with rfl | rfl <;> simp)) (fun k x hk => HWS.out k x (by
      rcases k with _ | _ | k
      · simpa using hk
      · simpa using hk
      · simp at hk)))
    go_wp2_with fail
    refine HCN.out.mono ?_
    rintro e w2 ⟨hr, b2⟩
    clear HCN
    rcases hr with ⟨hno, rfl⟩ | ⟨l, v, hl, rfl, hown⟩
    · obtain rfl : res = (6, .first) := by
        rw [← HRES.out]; unfold cooE
        rw [if_neg (by simp)]
        have : wholesL (([x0, x1, x2].map (·.data.toList)).take 2) = none := hno
        rw [this]
      have HB2 : Hid (Below B w1 w2) := b2.mono (by omega)
      clear HRES b2
      go_wp2
      go_ret
      exact ⟨rfl, HB2.out, fun h => by cases h⟩
    · obtain ⟨a, b, rfl⟩ : ∃ a b, l = [a, b] := by
        have h2 := wholesL_len hl
        match l, h2 with
        | [a, b], _ => exact ⟨a, b, rfl⟩
      have ha9 : a < 1000000000 := wholesL_lt hl a (by simp)
      have hb9 : b < 1000000000 := wholesL_lt hl b (by simp)
      obtain ⟨gn, vc, rfl⟩ : ∃ gn vc, v = .slice (some ⟨gn, 0, none⟩) 2 vc := by
        rcases hown.2 with ⟨_, h3⟩ | ⟨g, cap, cur, e, _⟩
        · cases h3
        · exact ⟨g, _, e⟩
      have n0 := hown.cellAt 0 (by simp)
      have n1 := hown.cellAt 1 (by simp)
      simp [intL] at n0 n1
      have hgn : w1.heap.size ≤ gn := by
        rcases hown.2 with ⟨e, _⟩ | ⟨g, cap, cur, e, hb, _⟩
        · cases e
        · cases e; exact hb
      obtain ⟨wt, hwt⟩ : ∃ wt, had + left = wt := ⟨_, rfl⟩
      rw [hwt] at HP
      have HP2 := hid (HP.out.belowAll b2)
      have HG2 := hid (HG.out.belowAll b2)
      have HHB2 := hid (HHB.out.belowAll b2)
      have HB2 : Hid (Below B w1 w2) := b2.mono (by omega)
      have hcw2 : w2.cell? ⟨gw, ow + 2, none⟩ = some (.string x2) := (b2.cell (p := ⟨gw, ow + 2, none⟩) hgw).trans hcw
      have hpl2 : p < w2.heap.size := Nat.lt_of_lt_of_le hpl b2.size
      have hgp2 : gn ≠ p := by omega
      have hgg2 : gn ≠ g := by have := HG.out.lt; omega
      have hgh2 : gn ≠ hb := by have := HHB.out.lt; omega
      have HRS : Hid ((if left = 0 then (10, .first) else match idxP free ((a : Int) - 1) ((b : Int) - 1) with
          | some q => putT 2 R C left free f q x2.data.toList
          | none => (9, .first)) = res) := by
        have h3 := HRES.out
        unfold cooE at h3
        rw [if_neg (by simp)] at h3
        have : wholesL (([x0, x1, x2].map (·.data.toList)).take 2) = some [a, b] := hl
        rw [this] at h3
        exact h3
      clear HP HG HHB b2 hcw hgw p0 HRES HWS hl hown
      have q2 := HP2.out.cell (i := 2) rfl
      have q3 := HP2.out.cell (i := 3) rfl
      by_cases hl0 : left = 0
      · obtain rfl : res = (10, .first) := by rw [← HRS.out, if_pos hl0]
        have hhw : ((had : Int) == (wt : Int)) = true := by rw [beq_iff_eq]; omega
        clear HRS
        go_wp2_with fail
        go_quiet (fail)
        go_wp2
        go_ret
        exact ⟨rfl, below_dn HB2.out _, fun h => by cases h⟩
      · have hhw : ((had : Int) == (wt : Int)) = false := by rw [beq_eq_false_iff_ne]; omega
        obtain ⟨⟨i, j⟩, hij⟩ : ∃ q, (plsL 2 R C)[had]? = some q := ⟨(plsL 2 R C)[had]'(by omega), by simp⟩
        have HIJ := hid hij
        clear hij
        have HRS2 : Hid ((match idxP free ((a : Int) - 1) ((b : Int) - 1) with
          | some q => putT 2 R C left free f q x2.data.toList
          | none => (9, .first)) = res) := by have := HRS.out; rw [if_neg hl0] at this; exact this
        go_wp2_with fail
        go_quiet (fail)
        have HP3 : Hid (Arr (w2.drewN nq) p 133 (txtC 2 true wt had R C (.slice (some ⟨g, 0, none⟩) (R * C) (R * C)) (.slice (some ⟨hb, 0, none⟩) (R * C) (R * C)))) := HP2.out
        have HG3 : Hid (Arr (w2.drewN nq) g 65 L) := HG2.out
        have HHB3 : Hid (Arr (w2.drewN nq) hb 4 (bl.map Value.bool)) := HHB2.out
        have HB3 : Hid (Below B w1 (w2.drewN nq)) := below_dn HB2.out nq
        have hcw3 : (w2.drewN nq).cell? ⟨gw, ow + 2, none⟩ = some (.string x2) := hcw2
        have n03 : (w2.drewN nq).cell? ⟨gn, 0, none⟩ = some (.int .i64 (a : Int)) := n0
        have n13 : (w2.drewN nq).cell? ⟨gn, 1, none⟩ = some (.int .i64 (b : Int)) := n1
        have hpl3 : p < (w2.drewN nq).heap.size := hpl2
        clear HP2 HG2 HHB2 HB2 hcw2 hpl2 q2 q3 n0 n1 HRS
        generalize w2.drewN nq = Z at *
        have HNX := hid (rnext_any Z p 2 R C wt had i j true _ _ (by omega) hR hC (by omega) HP3.out HIJ.out)
        have p0 := HP3.out.cell (i := 0) rfl
        go_wp2_with fail
        refine HNX.out.mono ?_
        rintro e Z' ⟨rfl, rfl⟩
        clear HNX HIJ
        go_wp2_with fail
        refine (HL.out Z').mono ?_
        rintro e Z'' ⟨rfl, rfl⟩
        obtain ⟨ii, hii⟩ : ∃ ii : Int, (a : Int) - 1 = ii := ⟨_, rfl⟩
        obtain ⟨jj, hjj⟩ : ∃ jj : Int, (b : Int) - 1 = jj := ⟨_, rfl⟩
        have hi1 : -1 ≤ ii := by omega
        have hi2 : ii ≤ 999999999 := by omega
        have hj1 : -1 ≤ jj := by omega
        have hj2 : jj ≤ 999999999 := by omega
        rw [hii, hjj] at HRS2
        obtain ⟨N, hN⟩ : ∃ N, R * C = N := ⟨_, rfl⟩
        rw [hN] at HP3 HLL hRC HBL
        have r0 := HP3.out.cell (i := 0) rfl
        have r4 := HP3.out.cell (i := 4) rfl
        have r5 := HP3.out.cell (i := 5) rfl
        have r7 := HP3.out.cell (i := 7) rfl
        go_wp2_with fail
        have nine : (∀ i j : Nat, (i : Int) = ii → (j : Int) = jj → (i, j) ∉ free) → Hid (res = (9, .first)) := fun h => by
          show _ = _
          rw [← HRS2.out, idx_none h]
        by_cases k1 : ii < 0
        · have t1 : decide (ii < 0) = true := by simpa using k1
          obtain rfl := (nine (fun i j h1 _ _ => by omega)).out
          clear nine HRS2
          go_quiet (first | (go_at_call 44; exact Calls.quiet_of_same (HH.out _)))
          go_wp2
          go_ret
          exact ⟨rfl, below_dn HB3.out _, fun h => by cases h⟩
        have t1 : decide (ii < 0) = false := by simpa using k1
        by_cases k2 : (R : Int) ≤ ii
        · have t2 : decide ((R : Int) ≤ ii) = true := by simpa using k2
          obtain rfl := (nine (fun i j h1 h2 hm => by have := ((HFREE.out i j).1 hm).1; omega)).out
          clear nine HRS2
          go_quiet (first | (go_at_call 44; exact Calls.quiet_of_same (HH.out _)))
          go_wp2
          go_ret
          exact ⟨rfl, below_dn HB3.out _, fun h => by cases h⟩
        have t2 : decide ((R : Int) ≤ ii) = false := by simpa using k2
        by_cases k3 : jj < 0
        · have t3 : decide (jj < 0) = true := by simpa using k3
          obtain rfl := (nine (fun i j h1 h2 _ => by omega)).out
          clear nine HRS2
          go_quiet (first | (go_at_call 44; exact Calls.quiet_of_same (HH.out _)))
          go_wp2
          go_ret
          exact ⟨rfl, below_dn HB3.out _, fun h => by cases h⟩
        have t3 : decide (jj < 0) = false := by simpa using k3
        by_cases k4 : (C : Int) ≤ jj
        · have t4 : decide ((C : Int) ≤ jj) = true := by simpa using k4
          obtain rfl := (nine (fun i j h1 h2 hm => by have := ((HFREE.out i j).1 hm).2.1; omega)).out
          clear nine HRS2
          go_quiet (first | (go_at_call 44; exact Calls.quiet_of_same (HH.out _)))
          go_wp2
          go_ret
          exact ⟨rfl, below_dn HB3.out _, fun h => by cases h⟩
        have t4 : decide ((C : Int) ≤ jj) = false := by simpa using k4
        obtain ⟨u, rfl⟩ : ∃ u : Nat, ii = (u : Int) := ⟨ii.toNat, by omega⟩
        obtain ⟨v, rfl⟩ : ∃ v : Nat, jj = (v : Int) := ⟨jj.toNat, by omega⟩
        have huR : u < R := by omega
        have hvC : v < C := by omega
        have t2' : decide (R ≤ u) = false := by simpa using huR
        have t4' : decide (C ≤ v) = false := by simpa using hvC
        obtain ⟨P, hPi⟩ : ∃ P : Nat, (u : Int) * (C : Int) = (P : Int) := ⟨u * C, by push_cast; rfl⟩
        have eP : u * C = P := by
          have : ((u * C : Nat) : Int) = P := by push_cast; exact hPi
          omega
        have HEP := hid eP
        have hPj : P + v < N := by have := idx_lt huR hvC; omega
        have hPj' : (P : Int) + v < N := by omega
        clear eP
        obtain ⟨bb, hbb⟩ : ∃ x, bl[P + v]? = some x := ⟨bl[P + v]'(by rw [HBL.out]; exact hPj), by simp⟩
        have HBB := hid hbb
        have hc := HHB3.out.cell (i := P + v) (v := .bool bb) (by simp [hbb])
        clear hbb
        cases bb with
        | true =>
          obtain rfl := (nine (fun i j h1 h2 hm => by
            have h3 := ((HFREE.out i j).1 hm).2.2.2
            obtain rfl : i = u := by omega
            obtain rfl : j = v := by omega
            rw [HEP.out, HBB.out] at h3; cases h3)).out
          clear nine HRS2
          go_quiet (first | (go_at_call 44; exact Calls.quiet_of_same (HH.out _)))
          go_wp2
          go_ret
          exact ⟨rfl, below_dn HB3.out _, fun h => by cases h⟩
        | false =>
          obtain ⟨q, hq1, hq2⟩ := idx_some ((HFREE.out u v).2 ⟨huR, hvC, fun h => by omega, by rw [HEP.out]; exact HBB.out⟩)
          have HQ := hid hq2
          have HRS3 : Hid (putT 2 R C left free f q x2.data.toList = res) := by have := HRS2.out; rw [hq1] at this; exact this
          clear hq1 hq2 nine HRS2
          go_quiet (first | (go_at_call 44; exact Calls.quiet_of_same (HH.out _)))
          clear r0 r4 r5 r7 hc n03 n13
          have HP4 : Hid (Arr (Z''.drewN nq) p 133 (txtC 2 true wt had R C (.slice (some ⟨g, 0, none⟩) N N) (.slice (some ⟨hb, 0, none⟩) N N))) := HP3.out
          have HG4 : Hid (Arr (Z''.drewN nq) g 65 L) := HG3.out
          have HHB4 : Hid (Arr (Z''.drewN nq) hb 4 (bl.map Value.bool)) := HHB3.out
          have HB4 : Hid (Below B w1 (Z''.drewN nq)) := below_dn HB3.out nq
          have HCW4 : Hid ((Z''.drewN nq).cell? ⟨gw, ow + 2, none⟩ = some (.string x2)) := hcw3
          clear HP3 HG3 HHB3 HB3 hcw3 hpl3 p0
          generalize Z''.drewN nq = Z4 at *
          have r5 := HP4.out.cell (i := 5) rfl
          have r7 := HP4.out.cell (i := 7) rfl
          have c0 := HHB4.out.cell (i := P + v) (v := .bool false) (by simp [HBB.out])
          have c1 := HHB4.out.frozen (P + v)
          have hgwh : gw ≠ hb := by
            rintro rfl
            have := HHB4.out.val HCW4.out
            simp at this
          have HP5 : Hid (Arr (Z4.setCell ⟨hb, P + v, none⟩ (.bool true)).drew p 133 (txtC 2 true wt had R C (.slice (some ⟨g, 0, none⟩) N N) (.slice (some ⟨hb, 0, none⟩) N N))) := HP4.out.other _ (Ne.symm hhp)
          have HG5 : Hid (Arr (Z4.setCell ⟨hb, P + v, none⟩ (.bool true)).drew g 65 L) := HG4.out.other _ hgh
          have HHB5 : Hid (Arr (Z4.setCell ⟨hb, P + v, none⟩ (.bool true)).drew hb 4 ((bl.set (P + v) true).map Value.bool)) := by
            show Arr _ _ _ _
            rw [List.map_set]; exact HHB4.out.set _ _
          have HB5 : Hid (Below B w1 (Z4.setCell ⟨hb, P + v, none⟩ (.bool true)).drew) := (HB4.out.setCell (p := ⟨hb, P + v, none⟩) hBh _).drew
          have HCW5 : Hid ((Z4.setCell ⟨hb, P + v, none⟩ (.bool true)).drew.cell? ⟨gw, ow + 2, none⟩ = some (.string x2)) := (World.cell?_setCell_far _ _ _ _ (by first | exact hgwh | exact Ne.symm hgwh)).trans HCW4.out
          clear HP4 HG4 HHB4 HB4 HCW4
          go_wp2_with fail
          go_region
          clear r5 r7 c0 c1 hgwh
          generalize (Z4.setCell ⟨hb, P + v, none⟩ (.bool true)).drew = Z5 at *
          have HFR : Hid (∀ i j, (i, j) ∈ free.eraseIdx q ↔ (i < R ∧ j < C ∧ (2 = 3 → j ≤ i) ∧ (bl.set (P + v) true)[i * C + j]? = some false)) := by
            have h8 := free_er (H := fun i j => 2 = 3 → j ≤ i) HND.out HQ.out hvC (by rw [HEP.out, HBL.out]; exact hPj) (by first | exact HFREE.out | (intro i j; have h := HFREE.out i j; simpa using h))
            rw [HEP.out] at h8; exact h8
          have HFG : Hid (free.getD q (0, 0) = (u, v)) := by
            show _ = _
            rw [List.getD_eq_getElem?_getD, HQ.out]; rfl
          have hc5 := HCW5.out
          have HSC := hid (rscan_any Z5 x2 (by unfold maxLen; omega))
          obtain ⟨sx, se, hsc⟩ : ∃ sx se, scanL x2.data.toList = (sx, se) := ⟨_, _, rfl⟩
          rw [hsc] at HSC
          simp only at HSC
          go_wp2_with fail
          refine HSC.out.mono ?_
          rintro e Y ⟨rfl, bY⟩
          have HP4 := hid (HP5.out.belowAll bY)
          have HG4 := hid (HG5.out.belowAll bY)
          have HHB4 := hid (HHB5.out.belowAll bY)
          have HB4 : Hid (Below B w1 Y) := HB5.out.trans (bY.mono (by have := HP5.out.lt; omega))
          clear HSC bY HP5 HG5 HHB5 HB5 HCW5 hc5
          by_cases hse : se = 0
          · subst hse
            obtain ⟨old, hold⟩ : ∃ v', L[P + v]? = some v' := ⟨L[P + v]'(by rw [HLL.out]; exact hPj), by simp⟩
            have q3 := HP4.out.cell (i := 3) rfl
            have e3 := HP4.out.frozen 3
            have a5 := HP4.out.set 3 (.int .i64 ((had : Int) + 1))
            have HP5 : Hid (Arr (Y.setCell ⟨p, 3, none⟩ (.int .i64 ((had : Int) + 1))) p 133 (txtC 2 true wt (had + 1) R C (.slice (some ⟨g, 0, none⟩) N N) (.slice (some ⟨hb, 0, none⟩) N N))) := a5
            have HG5 : Hid (Arr (Y.setCell ⟨p, 3, none⟩ (.int .i64 ((had : Int) + 1))) g 65 L) := HG4.out.other _ hgp
            have HHB5 : Hid (Arr (Y.setCell ⟨p, 3, none⟩ (.int .i64 ((had : Int) + 1))) hb 4 ((bl.set (P + v) true).map Value.bool)) := HHB4.out.other _ hhp
            have HB5 : Hid (Below B w1 (Y.setCell ⟨p, 3, none⟩ (.int .i64 ((had : Int) + 1)))) := HB4.out.setCell (p := ⟨p, 3, none⟩) hB _
            have hhad : (had : Int) ≤ 1600 := by omega
            clear a5 HP4 HG4 HHB4 HB4
            go_wp2_with fail
            clear q3 e3
            generalize Y.setCell ⟨p, 3, none⟩ (.int .i64 ((had : Int) + 1)) = Y5 at *
            have q5 := HP5.out.cell (i := 5) rfl
            have q6 := HP5.out.cell (i := 6) rfl
            have g0 := HG5.out.cell hold
            have g1 := HG5.out.frozen (P + v)
            have HP6 : Hid (Arr (Y5.setCell ⟨g, P + v, none⟩ (.int .u64 (sx : Int))).drew p 133 (txtC 2 true wt (had + 1) R C (.slice (some ⟨g, 0, none⟩) N N) (.slice (some ⟨hb, 0, none⟩) N N))) := HP5.out.other _ (Ne.symm hgp)
            have HG6 : Hid (Arr (Y5.setCell ⟨g, P + v, none⟩ (.int .u64 (sx : Int))).drew g 65 (L.set (P + v) (.int .u64 (sx : Int)))) := HG5.out.set _ _
            have HHB6 : Hid (Arr (Y5.setCell ⟨g, P + v, none⟩ (.int .u64 (sx : Int))).drew hb 4 ((bl.set (P + v) true).map Value.bool)) := HHB5.out.other _ (Ne.symm hgh)
            have HB6 : Hid (Below B w1 (Y5.setCell ⟨g, P + v, none⟩ (.int .u64 (sx : Int))).drew) := (HB5.out.setCell (p := ⟨g, P + v, none⟩) hBg _).drew
            clear HP5 HG5 HHB5 HB5
            go_region
            clear q5 q6 g0 g1
            generalize (Y5.setCell ⟨g, P + v, none⟩ (.int .u64 (sx : Int))).drew = Y6 at *
            have p0 := HP6.out.cell (i := 0) rfl
            go_wp2_with fail
            refine (HH.out Y6).mono ?_
            rintro e Y7 ⟨rfl, rfl⟩
            have hns := nums_set (by rw [HLL.out, hN]) HLN.out huR hvC sx
            rw [HEP.out] at hns
            obtain rfl : res = (0, TSt.ent 2 R C (left - 1) (free.eraseIdx q) (putF 2 f (u, v) sx)) := by
              rw [← HRS3.out]; unfold putT; rw [hsc, if_neg (by simp), HFG.out]
            have HNS := hid hns
            clear hns HRS3 p0
            have hfin : Hid (LineQ B w1 p (0, TSt.ent 2 R C (left - 1) (free.eraseIdx q) (putF 2 f (u, v) sx)) (.returned (.int .i64 0)) Y7) := by
              refine ⟨rfl, HB6.out, fun _ => ⟨by omega, hR, hC, (fun h => by omega), had + 1, g, hb, bl.set (P + v) true, ?_, hBg, hBh, hgh, hgp, hhp, ⟨_, HG6.out, by rw [List.length_set, HLL.out, hN], HNS.out⟩, HHB6.out, by rw [List.length_set, HBL.out, hN], by omega, ⟨fun h => (h (by omega)).elim, fun _ => ⟨nodup_er HND.out q, by first | exact HFR.out | (intro i j; have h := HFR.out i j; simpa using h)⟩⟩⟩⟩
              rw [show had + 1 + (left - 1) = wt by omega, hN]; exact HP6.out
            clear HP6 HG6 HHB6 HB6
            go_wp2
            go_ret
            exact hfin.out
          · have hse' : ((se : Int) != 0) = true := by simp; omega
            obtain rfl : res = (se, .first) := by
              rw [← HRS3.out]; unfold putT; rw [hsc, if_pos hse]
            clear HRS3
            go_wp2
            go_ret
            exact ⟨rfl, HB4.out, fun h => (hse h).elim⟩
  · have h1' : ((n : Int) == 3) = false := by rw [beq_eq_false_iff_ne]; omega
    obtain rfl : res = (6, .first) := by
      rw [← HRES.out]; unfold cooE; rw [if_pos (.inr (by simp; omega))]
    clear HRES
    go_wp2
    go_ret
    exact ⟨rfl, Below.refl _ _, fun h => by cases h⟩
set_option maxRecDepth 20000 in
set_option maxHeartbeats 2000000 in
theorem rentry_3 (w : World) (p B : Nat) (ao : Option Addr) (n cap : Nat) (ws : List ByteArray) (hn : ws.length = n) (hn1 : n ≤ 1000000) (hcap : n ≤ cap) (hsz : ∀ x ∈ ws, x.size ≤ 1000000) (hws : StrsAt w ao ws) (R C left : Nat) (free : List (Nat × Nat)) (f : Nat → Nat → Nat) (h : TxtIs B w p (.ent 3 R C left free f)) (hB : B ≤ p) :
    Calls Tryz.prog 118 #[.pointer (some ⟨p, 0, none⟩), .slice ao n cap] w fun e w' => LineQ B w p (cooE 3 R C left free f false (ws.map (·.data.toList))) e w' := by
  obtain ⟨_, hR, hC, hCR, had, g, hb, bl, aP, hBg, hBh, hgh, hgp, hhp, ⟨L, aG, hLl, hLn⟩, aH, hbl, hle, _, hfr⟩ := h
  obtain ⟨hnd, hfree⟩ := hfr (by omega)
  have HL : Hid (∀ w : World, Calls Tryz.prog 77 #[.int .i64 3] w fun e w' => e = .returned (.bool true) ∧ w' = w) := fun w => by simpa using list_any w 3
  have HH : Hid (∀ w : World, Calls Tryz.prog 44 #[.int .i64 3] w fun e w' => e = .returned (.bool true) ∧ w' = w) := fun w => by simpa using half_any w 3
  have hpl := aP.lt
  have hRC : R * C ≤ 1600 := Nat.mul_le_mul hR hC
  obtain ⟨res, hres⟩ : ∃ res, cooE 3 R C left free f false (ws.map (·.data.toList)) = res := ⟨_, rfl⟩
  rw [hres]
  have HRES := hid hres
  have HP := hid aP
  have HG := hid aG
  have HHB := hid aH
  have HLN := hid hLn
  have HLL := hid hLl
  have HFREE := hid hfree
  have HND := hid hnd
  have HBL := hid hbl
  have HWS := hid hws
  have HSZ := hid hsz
  have p0 := aP.cell (i := 0) rfl
  have hplen : (plsL 3 R C).length ≤ 1600 := by rw [plsL_eq (by omega), List.length_map]; exact Nat.le_trans (List.length_filter_le _ _) (by rw [List.length_range]; exact hRC)
  have HCR : Hid (C = R) := hCR (by omega)
  clear hCR hres aP aG aH hLn hLl hfree hnd hbl hws hsz hfr
  go_enter Tryz.func118, Tryz.ntmps118
  go_wp2_with fail
  refine (HL.out w).mono ?_
  rintro e w1 ⟨rfl, rfl⟩
  by_cases h1 : n = 3
  · subst h1
    obtain ⟨x0, x1, x2, rfl⟩ : ∃ x0 x1 x2, ws = [x0, x1, x2] := by
      match ws, hn with
      | [x0, x1, x2], _ => exact ⟨x0, x1, x2, rfl⟩
    obtain ⟨gw, ow, rfl, hgw, _⟩ := HWS.out 0 x0 (by simp)
    obtain ⟨gw', ow', hee, _, hcw⟩ := HWS.out 2 x2 (by simp)
    cases hee
    have hx2s := HSZ.out x2 (by simp)
    have HCN := hid (rcounted_any w1 (some ⟨gw, ow, none⟩) 2 cap [x0, x1] rfl (by omega) (fun x hx => HSZ.out x (by simp at hx; rcases hx with rfl | rfl <;> simp)) (fun k x hk => HWS.out k x (by
      rcases k with _ | _ | k
      · simpa using hk
      · simpa using hk
      · simp at hk)))
    go_wp2_with fail
    refine HCN.out.mono ?_
    rintro e w2 ⟨hr, b2⟩
    clear HCN
    rcases hr with ⟨hno, rfl⟩ | ⟨l, v, hl, rfl, hown⟩
    · obtain rfl : res = (6, .first) := by
        rw [← HRES.out]; unfold cooE
        rw [if_neg (by simp)]
        have : wholesL (([x0, x1, x2].map (·.data.toList)).take 2) = none := hno
        rw [this]
      have HB2 : Hid (Below B w1 w2) := b2.mono (by omega)
      clear HRES b2
      go_wp2
      go_ret
      exact ⟨rfl, HB2.out, fun h => by cases h⟩
    · obtain ⟨a, b, rfl⟩ : ∃ a b, l = [a, b] := by
        have h2 := wholesL_len hl
        match l, h2 with
        | [a, b], _ => exact ⟨a, b, rfl⟩
      have ha9 : a < 1000000000 := wholesL_lt hl a (by simp)
      have hb9 : b < 1000000000 := wholesL_lt hl b (by simp)
      obtain ⟨gn, vc, rfl⟩ : ∃ gn vc, v = .slice (some ⟨gn, 0, none⟩) 2 vc := by
        rcases hown.2 with ⟨_, h3⟩ | ⟨g, cap, cur, e, _⟩
        · cases h3
        · exact ⟨g, _, e⟩
      have n0 := hown.cellAt 0 (by simp)
      have n1 := hown.cellAt 1 (by simp)
      simp [intL] at n0 n1
      have hgn : w1.heap.size ≤ gn := by
        rcases hown.2 with ⟨e, _⟩ | ⟨g, cap, cur, e, hb, _⟩
        · cases e
        · cases e; exact hb
      obtain ⟨wt, hwt⟩ : ∃ wt, had + left = wt := ⟨_, rfl⟩
      rw [hwt] at HP
      have HP2 := hid (HP.out.belowAll b2)
      have HG2 := hid (HG.out.belowAll b2)
      have HHB2 := hid (HHB.out.belowAll b2)
      have HB2 : Hid (Below B w1 w2) := b2.mono (by omega)
      have hcw2 : w2.cell? ⟨gw, ow + 2, none⟩ = some (.string x2) := (b2.cell (p := ⟨gw, ow + 2, none⟩) hgw).trans hcw
      have hpl2 : p < w2.heap.size := Nat.lt_of_lt_of_le hpl b2.size
      have hgp2 : gn ≠ p := by omega
      have hgg2 : gn ≠ g := by have := HG.out.lt; omega
      have hgh2 : gn ≠ hb := by have := HHB.out.lt; omega
      have HRS : Hid ((if left = 0 then (10, .first) else match idxP free ((a : Int) - 1) ((b : Int) - 1) with
          | some q => putT 3 R C left free f q x2.data.toList
          | none => (9, .first)) = res) := by
        have h3 := HRES.out
        unfold cooE at h3
        rw [if_neg (by simp)] at h3
        have : wholesL (([x0, x1, x2].map (·.data.toList)).take 2) = some [a, b] := hl
        rw [this] at h3
        exact h3
      clear HP HG HHB b2 hcw hgw p0 HRES HWS hl hown
      have q2 := HP2.out.cell (i := 2) rfl
      have q3 := HP2.out.cell (i := 3) rfl
      by_cases hl0 : left = 0
      · obtain rfl : res = (10, .first) := by rw [← HRS.out, if_pos hl0]
        have hhw : ((had : Int) == (wt : Int)) = true := by rw [beq_iff_eq]; omega
        clear HRS
        go_wp2_with fail
        go_quiet (fail)
        go_wp2
        go_ret
        exact ⟨rfl, below_dn HB2.out _, fun h => by cases h⟩
      · have hhw : ((had : Int) == (wt : Int)) = false := by rw [beq_eq_false_iff_ne]; omega
        obtain ⟨⟨i, j⟩, hij⟩ : ∃ q, (plsL 3 R C)[had]? = some q := ⟨(plsL 3 R C)[had]'(by omega), by simp⟩
        have HIJ := hid hij
        clear hij
        have HRS2 : Hid ((match idxP free ((a : Int) - 1) ((b : Int) - 1) with
          | some q => putT 3 R C left free f q x2.data.toList
          | none => (9, .first)) = res) := by have := HRS.out; rw [if_neg hl0] at this; exact this
        go_wp2_with fail
        go_quiet (fail)
        have HP3 : Hid (Arr (w2.drewN nq) p 133 (txtC 3 true wt had R C (.slice (some ⟨g, 0, none⟩) (R * C) (R * C)) (.slice (some ⟨hb, 0, none⟩) (R * C) (R * C)))) := HP2.out
        have HG3 : Hid (Arr (w2.drewN nq) g 65 L) := HG2.out
        have HHB3 : Hid (Arr (w2.drewN nq) hb 4 (bl.map Value.bool)) := HHB2.out
        have HB3 : Hid (Below B w1 (w2.drewN nq)) := below_dn HB2.out nq
        have hcw3 : (w2.drewN nq).cell? ⟨gw, ow + 2, none⟩ = some (.string x2) := hcw2
        have n03 : (w2.drewN nq).cell? ⟨gn, 0, none⟩ = some (.int .i64 (a : Int)) := n0
        have n13 : (w2.drewN nq).cell? ⟨gn, 1, none⟩ = some (.int .i64 (b : Int)) := n1
        have hpl3 : p < (w2.drewN nq).heap.size := hpl2
        clear HP2 HG2 HHB2 HB2 hcw2 hpl2 q2 q3 n0 n1 HRS
        generalize w2.drewN nq = Z at *
        have HNX := hid (rnext_any Z p 3 R C wt had i j true _ _ (by omega) hR hC (by omega) HP3.out HIJ.out)
        have p0 := HP3.out.cell (i := 0) rfl
        go_wp2_with fail
        refine HNX.out.mono ?_
        rintro e Z' ⟨rfl, rfl⟩
        clear HNX HIJ
        go_wp2_with fail
        refine (HL.out Z').mono ?_
        rintro e Z'' ⟨rfl, rfl⟩
        obtain ⟨ii, hii⟩ : ∃ ii : Int, (a : Int) - 1 = ii := ⟨_, rfl⟩
        obtain ⟨jj, hjj⟩ : ∃ jj : Int, (b : Int) - 1 = jj := ⟨_, rfl⟩
        have hi1 : -1 ≤ ii := by omega
        have hi2 : ii ≤ 999999999 := by omega
        have hj1 : -1 ≤ jj := by omega
        have hj2 : jj ≤ 999999999 := by omega
        rw [hii, hjj] at HRS2
        obtain ⟨N, hN⟩ : ∃ N, R * C = N := ⟨_, rfl⟩
        rw [hN] at HP3 HLL hRC HBL
        have r0 := HP3.out.cell (i := 0) rfl
        have r4 := HP3.out.cell (i := 4) rfl
        have r5 := HP3.out.cell (i := 5) rfl
        have r7 := HP3.out.cell (i := 7) rfl
        go_wp2_with fail
        have nine : (∀ i j : Nat, (i : Int) = ii → (j : Int) = jj → (i, j) ∉ free) → Hid (res = (9, .first)) := fun h => by
          show _ = _
          rw [← HRS2.out, idx_none h]
        by_cases k1 : ii < 0
        · have t1 : decide (ii < 0) = true := by simpa using k1
          obtain rfl := (nine (fun i j h1 _ _ => by omega)).out
          clear nine HRS2
          go_quiet (first | (go_at_call 44; exact Calls.quiet_of_same (HH.out _)))
          go_wp2
          go_ret
          exact ⟨rfl, below_dn HB3.out _, fun h => by cases h⟩
        have t1 : decide (ii < 0) = false := by simpa using k1
        by_cases k2 : (R : Int) ≤ ii
        · have t2 : decide ((R : Int) ≤ ii) = true := by simpa using k2
          obtain rfl := (nine (fun i j h1 h2 hm => by have := ((HFREE.out i j).1 hm).1; omega)).out
          clear nine HRS2
          go_quiet (first | (go_at_call 44; exact Calls.quiet_of_same (HH.out _)))
          go_wp2
          go_ret
          exact ⟨rfl, below_dn HB3.out _, fun h => by cases h⟩
        have t2 : decide ((R : Int) ≤ ii) = false := by simpa using k2
        by_cases k3 : jj < 0
        · have t3 : decide (jj < 0) = true := by simpa using k3
          obtain rfl := (nine (fun i j h1 h2 _ => by omega)).out
          clear nine HRS2
          go_quiet (first | (go_at_call 44; exact Calls.quiet_of_same (HH.out _)))
          go_wp2
          go_ret
          exact ⟨rfl, below_dn HB3.out _, fun h => by cases h⟩
        have t3 : decide (jj < 0) = false := by simpa using k3
        by_cases k4 : (C : Int) ≤ jj
        · have t4 : decide ((C : Int) ≤ jj) = true := by simpa using k4
          obtain rfl := (nine (fun i j h1 h2 hm => by have := ((HFREE.out i j).1 hm).2.1; omega)).out
          clear nine HRS2
          go_quiet (first | (go_at_call 44; exact Calls.quiet_of_same (HH.out _)))
          go_wp2
          go_ret
          exact ⟨rfl, below_dn HB3.out _, fun h => by cases h⟩
        have t4 : decide ((C : Int) ≤ jj) = false := by simpa using k4
        obtain ⟨u, rfl⟩ : ∃ u : Nat, ii = (u : Int) := ⟨ii.toNat, by omega⟩
        obtain ⟨v, rfl⟩ : ∃ v : Nat, jj = (v : Int) := ⟨jj.toNat, by omega⟩
        have huR : u < R := by omega
        have hvC : v < C := by omega
        have t2' : decide (R ≤ u) = false := by simpa using huR
        have t4' : decide (C ≤ v) = false := by simpa using hvC
        obtain ⟨P, hPi⟩ : ∃ P : Nat, (u : Int) * (C : Int) = (P : Int) := ⟨u * C, by push_cast; rfl⟩
        have eP : u * C = P := by
          have : ((u * C : Nat) : Int) = P := by push_cast; exact hPi
          omega
        have HEP := hid eP
        have hPj : P + v < N := by have := idx_lt huR hvC; omega
        have hPj' : (P : Int) + v < N := by omega
        clear eP
        by_cases k5 : u < v
        · have t5 : decide ((u : Int) < (v : Int)) = true := by simpa using k5
          have t5' : decide (u < v) = true := by simpa using k5
          obtain rfl := (nine (fun i j h1 h2 hm => by have := ((HFREE.out i j).1 hm).2.2.1 (by first | trivial | rfl); omega)).out
          clear nine HRS2
          go_quiet (first | (go_at_call 44; exact Calls.quiet_of_same (HH.out _)))
          go_wp2
          go_ret
          exact ⟨rfl, below_dn HB3.out _, fun h => by cases h⟩
        have t5 : decide ((u : Int) < (v : Int)) = false := by simpa using k5
        have t5' : decide (u < v) = false := by simpa using k5
        obtain ⟨bb, hbb⟩ : ∃ x, bl[P + v]? = some x := ⟨bl[P + v]'(by rw [HBL.out]; exact hPj), by simp⟩
        have HBB := hid hbb
        have hc := HHB3.out.cell (i := P + v) (v := .bool bb) (by simp [hbb])
        clear hbb
        cases bb with
        | true =>
          obtain rfl := (nine (fun i j h1 h2 hm => by
            have h3 := ((HFREE.out i j).1 hm).2.2.2
            obtain rfl : i = u := by omega
            obtain rfl : j = v := by omega
            rw [HEP.out, HBB.out] at h3; cases h3)).out
          clear nine HRS2
          go_quiet (first | (go_at_call 44; exact Calls.quiet_of_same (HH.out _)))
          go_wp2
          go_ret
          exact ⟨rfl, below_dn HB3.out _, fun h => by cases h⟩
        | false =>
          obtain ⟨q, hq1, hq2⟩ := idx_some ((HFREE.out u v).2 ⟨huR, hvC, fun _ => by omega, by rw [HEP.out]; exact HBB.out⟩)
          have HQ := hid hq2
          have HRS3 : Hid (putT 3 R C left free f q x2.data.toList = res) := by have := HRS2.out; rw [hq1] at this; exact this
          clear hq1 hq2 nine HRS2
          go_quiet (first | (go_at_call 44; exact Calls.quiet_of_same (HH.out _)))
          clear r0 r4 r5 r7 hc n03 n13
          have HP4 : Hid (Arr (Z''.drewN nq) p 133 (txtC 3 true wt had R C (.slice (some ⟨g, 0, none⟩) N N) (.slice (some ⟨hb, 0, none⟩) N N))) := HP3.out
          have HG4 : Hid (Arr (Z''.drewN nq) g 65 L) := HG3.out
          have HHB4 : Hid (Arr (Z''.drewN nq) hb 4 (bl.map Value.bool)) := HHB3.out
          have HB4 : Hid (Below B w1 (Z''.drewN nq)) := below_dn HB3.out nq
          have HCW4 : Hid ((Z''.drewN nq).cell? ⟨gw, ow + 2, none⟩ = some (.string x2)) := hcw3
          clear HP3 HG3 HHB3 HB3 hcw3 hpl3 p0
          generalize Z''.drewN nq = Z4 at *
          have r5 := HP4.out.cell (i := 5) rfl
          have r7 := HP4.out.cell (i := 7) rfl
          have c0 := HHB4.out.cell (i := P + v) (v := .bool false) (by simp [HBB.out])
          have c1 := HHB4.out.frozen (P + v)
          have hgwh : gw ≠ hb := by
            rintro rfl
            have := HHB4.out.val HCW4.out
            simp at this
          have HP5 : Hid (Arr (Z4.setCell ⟨hb, P + v, none⟩ (.bool true)).drew p 133 (txtC 3 true wt had R C (.slice (some ⟨g, 0, none⟩) N N) (.slice (some ⟨hb, 0, none⟩) N N))) := HP4.out.other _ (Ne.symm hhp)
          have HG5 : Hid (Arr (Z4.setCell ⟨hb, P + v, none⟩ (.bool true)).drew g 65 L) := HG4.out.other _ hgh
          have HHB5 : Hid (Arr (Z4.setCell ⟨hb, P + v, none⟩ (.bool true)).drew hb 4 ((bl.set (P + v) true).map Value.bool)) := by
            show Arr _ _ _ _
            rw [List.map_set]; exact HHB4.out.set _ _
          have HB5 : Hid (Below B w1 (Z4.setCell ⟨hb, P + v, none⟩ (.bool true)).drew) := (HB4.out.setCell (p := ⟨hb, P + v, none⟩) hBh _).drew
          have HCW5 : Hid ((Z4.setCell ⟨hb, P + v, none⟩ (.bool true)).drew.cell? ⟨gw, ow + 2, none⟩ = some (.string x2)) := (World.cell?_setCell_far _ _ _ _ (by first | exact hgwh | exact Ne.symm hgwh)).trans HCW4.out
          clear HP4 HG4 HHB4 HB4 HCW4
          go_wp2_with fail
          go_region
          clear r5 r7 c0 c1 hgwh
          generalize (Z4.setCell ⟨hb, P + v, none⟩ (.bool true)).drew = Z5 at *
          have HFR : Hid (∀ i j, (i, j) ∈ free.eraseIdx q ↔ (i < R ∧ j < C ∧ (3 = 3 → j ≤ i) ∧ (bl.set (P + v) true)[i * C + j]? = some false)) := by
            have h8 := free_er (H := fun i j => 3 = 3 → j ≤ i) HND.out HQ.out hvC (by rw [HEP.out, HBL.out]; exact hPj) (by first | exact HFREE.out | (intro i j; have h := HFREE.out i j; simpa using h))
            rw [HEP.out] at h8; exact h8
          have HFG : Hid (free.getD q (0, 0) = (u, v)) := by
            show _ = _
            rw [List.getD_eq_getElem?_getD, HQ.out]; rfl
          have hc5 := HCW5.out
          have HSC := hid (rscan_any Z5 x2 (by unfold maxLen; omega))
          obtain ⟨sx, se, hsc⟩ : ∃ sx se, scanL x2.data.toList = (sx, se) := ⟨_, _, rfl⟩
          rw [hsc] at HSC
          simp only at HSC
          go_wp2_with fail
          refine HSC.out.mono ?_
          rintro e Y ⟨rfl, bY⟩
          have HP4 := hid (HP5.out.belowAll bY)
          have HG4 := hid (HG5.out.belowAll bY)
          have HHB4 := hid (HHB5.out.belowAll bY)
          have HB4 : Hid (Below B w1 Y) := HB5.out.trans (bY.mono (by have := HP5.out.lt; omega))
          clear HSC bY HP5 HG5 HHB5 HB5 HCW5 hc5
          by_cases hse : se = 0
          · subst hse
            obtain ⟨old, hold⟩ : ∃ v', L[P + v]? = some v' := ⟨L[P + v]'(by rw [HLL.out]; exact hPj), by simp⟩
            have q3 := HP4.out.cell (i := 3) rfl
            have e3 := HP4.out.frozen 3
            have a5 := HP4.out.set 3 (.int .i64 ((had : Int) + 1))
            have HP5 : Hid (Arr (Y.setCell ⟨p, 3, none⟩ (.int .i64 ((had : Int) + 1))) p 133 (txtC 3 true wt (had + 1) R C (.slice (some ⟨g, 0, none⟩) N N) (.slice (some ⟨hb, 0, none⟩) N N))) := a5
            have HG5 : Hid (Arr (Y.setCell ⟨p, 3, none⟩ (.int .i64 ((had : Int) + 1))) g 65 L) := HG4.out.other _ hgp
            have HHB5 : Hid (Arr (Y.setCell ⟨p, 3, none⟩ (.int .i64 ((had : Int) + 1))) hb 4 ((bl.set (P + v) true).map Value.bool)) := HHB4.out.other _ hhp
            have HB5 : Hid (Below B w1 (Y.setCell ⟨p, 3, none⟩ (.int .i64 ((had : Int) + 1)))) := HB4.out.setCell (p := ⟨p, 3, none⟩) hB _
            have hhad : (had : Int) ≤ 1600 := by omega
            clear a5 HP4 HG4 HHB4 HB4
            go_wp2_with fail
            clear q3 e3
            generalize Y.setCell ⟨p, 3, none⟩ (.int .i64 ((had : Int) + 1)) = Y5 at *
            have q5 := HP5.out.cell (i := 5) rfl
            have q6 := HP5.out.cell (i := 6) rfl
            have g0 := HG5.out.cell hold
            have g1 := HG5.out.frozen (P + v)
            have HP6 : Hid (Arr (Y5.setCell ⟨g, P + v, none⟩ (.int .u64 (sx : Int))).drew p 133 (txtC 3 true wt (had + 1) R C (.slice (some ⟨g, 0, none⟩) N N) (.slice (some ⟨hb, 0, none⟩) N N))) := HP5.out.other _ (Ne.symm hgp)
            have HG6 : Hid (Arr (Y5.setCell ⟨g, P + v, none⟩ (.int .u64 (sx : Int))).drew g 65 (L.set (P + v) (.int .u64 (sx : Int)))) := HG5.out.set _ _
            have HHB6 : Hid (Arr (Y5.setCell ⟨g, P + v, none⟩ (.int .u64 (sx : Int))).drew hb 4 ((bl.set (P + v) true).map Value.bool)) := HHB5.out.other _ (Ne.symm hgh)
            have HB6 : Hid (Below B w1 (Y5.setCell ⟨g, P + v, none⟩ (.int .u64 (sx : Int))).drew) := (HB5.out.setCell (p := ⟨g, P + v, none⟩) hBg _).drew
            clear HP5 HG5 HHB5 HB5
            go_region
            clear q5 q6 g0 g1
            generalize (Y5.setCell ⟨g, P + v, none⟩ (.int .u64 (sx : Int))).drew = Y6 at *
            have p0 := HP6.out.cell (i := 0) rfl
            go_wp2_with fail
            refine (HH.out Y6).mono ?_
            rintro e Y7 ⟨rfl, rfl⟩
            have hns := nums_set (by rw [HLL.out, hN]) HLN.out huR hvC sx
            rw [HEP.out] at hns
            obtain rfl : res = (0, TSt.ent 3 R C (left - 1) (free.eraseIdx q) (putF 3 f (u, v) sx)) := by
              rw [← HRS3.out]; unfold putT; rw [hsc, if_neg (by simp), HFG.out]
            have HNS := hid hns
            clear hns HRS3 p0
            obtain rfl : C = R := HCR.out
            obtain ⟨Q, hQi⟩ : ∃ Q : Nat, (v : Int) * (C : Int) = (Q : Int) := ⟨v * C, by push_cast; rfl⟩
            have eQ : v * C = Q := by
              have : ((v * C : Nat) : Int) = Q := by push_cast; exact hQi
              omega
            have hQj : Q + u < N := by have := idx_lt (R := C) (C := C) hvC huR; omega
            have hQj' : (Q : Int) + u < N := by omega
            obtain ⟨old2, hold2⟩ : ∃ v', (L.set (P + v) (.int .u64 (sx : Int)))[Q + u]? = some v' := ⟨(L.set (P + v) (.int .u64 (sx : Int)))[Q + u]'(by rw [List.length_set, HLL.out]; exact hQj), by simp⟩
            have q5 := HP6.out.cell (i := 5) rfl
            have q6 := HP6.out.cell (i := 6) rfl
            have g0 := HG6.out.cell hold2
            have g1 := HG6.out.frozen (Q + u)
            have hns2 := nums_set (R := C) (C := C) (by rw [List.length_set, HLL.out, hN]) HNS.out hvC huR sx
            rw [eQ] at hns2
            have hfin : Hid (LineQ B w1 p (0, TSt.ent 3 C C (left - 1) (free.eraseIdx q) (putF 3 f (u, v) sx)) (.returned (.int .i64 0)) (Y7.setCell ⟨g, Q + u, none⟩ (.int .u64 (sx : Int))).drew) := by
              refine ⟨rfl, (HB6.out.setCell (p := ⟨g, Q + u, none⟩) hBg _).drew, fun _ => ⟨by omega, hR, hC, (fun _ => rfl), had + 1, g, hb, bl.set (P + v) true, ?_, hBg, hBh, hgh, hgp, hhp, ⟨_, HG6.out.set _ _, by rw [List.length_set, List.length_set, HLL.out, hN], hns2⟩, HHB6.out.other _ (Ne.symm hgh), by rw [List.length_set, HBL.out, hN], by omega, ⟨fun h => (h (by omega)).elim, fun _ => ⟨nodup_er HND.out q, by first | exact HFR.out | (intro i j; have h := HFR.out i j; simpa using h)⟩⟩⟩⟩
              rw [show had + 1 + (left - 1) = wt by omega, hN]; exact HP6.out.other _ (Ne.symm hgp)
            clear HP6 HG6 HHB6 HB6 hns2
            go_wp2_with fail
            go_region
            clear q5 q6 g0 g1
            go_wp2
            go_ret
            exact hfin.out
          · have hse' : ((se : Int) != 0) = true := by simp; omega
            obtain rfl : res = (se, .first) := by
              rw [← HRS3.out]; unfold putT; rw [hsc, if_pos hse]
            clear HRS3
            go_wp2
            go_ret
            exact ⟨rfl, HB4.out, fun h => (hse h).elim⟩
  · have h1' : ((n : Int) == 3) = false := by rw [beq_eq_false_iff_ne]; omega
    obtain rfl : res = (6, .first) := by
      rw [← HRES.out]; unfold cooE; rw [if_pos (.inr (by simp; omega))]
    clear HRES
    go_wp2
    go_ret
    exact ⟨rfl, Below.refl _ _, fun h => by cases h⟩
end Go.Proofs.YthdcceackfdbbaaGreatDoor
