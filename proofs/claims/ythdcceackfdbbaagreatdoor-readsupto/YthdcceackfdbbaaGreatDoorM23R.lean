import Derived.Test.YthdcceackfdbbaaGreatDoorM18R
import Derived.Test.YthdcceackfdbbaaGreatDoorIkQR
import Derived.Test.YthdcceackfdbbaaGreatDoorM22R
import Derived.RegionTactic
import Derived.BigQuiet
namespace Go.Proofs.YthdcceackfdbbaaGreatDoor
open Go Go.RowKit
set_option maxRecDepth 20000 in
set_option maxHeartbeats 2000000 in
theorem rsizes_3 (w : World) (p B : Nat) (ao : Option Addr) (n cap : Nat) (ws : List ByteArray) (hn : ws.length = n) (hn1 : n ≤ 1000000) (hsz : ∀ x ∈ ws, x.size ≤ 1000000) (hws : StrsAt w ao ws) (h : Arr w p 133 (txtC 3 false 0 0 0 0 (.slice none 0 0) (.slice none 0 0))) (hB : B ≤ p) :
    Calls Tryz.prog 117 #[.pointer (some ⟨p, 0, none⟩), .slice ao n cap] w fun e w' => LineQ B w p (sizesT 3 false (ws.map (·.data.toList))) e w' := by
  obtain ⟨i0, hi, hz0, hz1, hz2⟩ := info_parts Tryz.infoU64
  obtain ⟨j0, hj, hy0, hy1, hy2⟩ := info_parts Tryz.infoBool
  have HMK : Hid (∀ (N : Nat), N ≤ 1600 → ∀ w : World, (Instr.makeSlice 22 (.int .i64 (N : Int)) (.int .i64 (N : Int))).run Tryz.prog w = .ok (.slice (some ⟨w.heap.size, 0, none⟩) N N) (w.alloc (.cells (Array.replicate N (.int .u64 0)) 65))) := fun N hN w => run_make1 (P := Tryz.prog) 22 65 i0 (.int .u64 0) Tryz.underlying22 hi hz0 hz1 rfl N (by rw [hz2]; omega) (by omega) w
  have HMB : Hid (∀ (N : Nat), N ≤ 1600 → ∀ w : World, (Instr.makeSlice 108 (.int .i64 (N : Int)) (.int .i64 (N : Int))).run Tryz.prog w = .ok (.slice (some ⟨w.heap.size, 0, none⟩) N N) (w.alloc (.cells (Array.replicate N (.bool false)) 4))) := fun N hN w => run_make1 (P := Tryz.prog) 108 4 j0 (.bool false) Tryz.underlying108 hj hy0 hy1 rfl N (by rw [hy2]; omega) (by omega) w
  clear hi hz0 hz1 hz2 hj hy0 hy1 hy2
  have hcn := rcounted_any w ao n cap ws hn hn1 hsz hws
  have HCN := hid hcn
  have HA := hid h
  have HL : Hid (∀ w : World, Calls Tryz.prog 77 #[.int .i64 3] w fun e w' => e = .returned (.bool true) ∧ w' = w) := fun w => by simpa using list_any w 3
  have HH : Hid (∀ w : World, Calls Tryz.prog 44 #[.int .i64 3] w fun e w' => e = .returned (.bool true) ∧ w' = w) := fun w => by simpa using half_any w 3
  have hpl := h.lt
  obtain ⟨res, hres⟩ : ∃ res, sizesT 3 false (ws.map (·.data.toList)) = res := ⟨_, rfl⟩
  rw [hres]
  have hres2 : cooT 3 (wholesL (ws.map (·.data.toList))) = res := hres
  have HRES := hid hres2
  clear hcn h hres hres2
  go_enter Tryz.func117, Tryz.ntmps117
  go_wp2_with fail
  refine HCN.out.mono ?_
  rintro e W1 ⟨hr, b1⟩
  have HA1 := hid (HA.out.belowAll b1)
  have HB1 : Hid (Below B w W1) := b1.mono (by omega)
  have hz1 : p < W1.heap.size := HA1.out.lt
  rcases hr with ⟨hno, rfl⟩ | ⟨l, v, hl, rfl, hown⟩
  · rw [hno] at HRES
    clear HA HCN b1
    go_wp2
    go_ret
    exact ⟨by rw [← HRES.out]; rfl, HB1.out, fun h => by rw [← HRES.out] at h; cases h⟩
  · rw [hl] at HRES
    obtain ⟨vo, vn, vc, rfl⟩ : ∃ vo vn vc, v = .slice vo vn vc := by
      rcases hown.2 with ⟨e, _⟩ | ⟨g, cap, cur, e, _⟩
      · exact ⟨_, _, _, e⟩
      · exact ⟨_, _, _, e⟩
    have hvn : vn = l.length := by
      rcases hown.2 with ⟨e, h0⟩ | ⟨g, cap, cur, e, _⟩
      · cases e; exact h0.symm
      · cases e; rfl
    subst hvn
    have p0 := HA1.out.cell (i := 0) rfl
    by_cases hlen : l.length = 3
    · obtain ⟨r, c, m, rfl⟩ : ∃ r c m, l = [r, c, m] := by
        match l, hlen with
        | [r, c, m], _ => exact ⟨r, c, m, rfl⟩
      obtain ⟨gn, rfl⟩ : ∃ gn, vo = some ⟨gn, 0, none⟩ := by
        rcases hown.2 with ⟨_, h3⟩ | ⟨g, cap, cur, e, _⟩
        · cases h3
        · cases e; exact ⟨g, rfl⟩
      have n0 := hown.cellAt 0 (by simp)
      have n1 := hown.cellAt 1 (by simp)
      have n2 := hown.cellAt 2 (by simp)
      simp [intL] at n0 n1 n2
      have hgn : w.heap.size ≤ gn := by
        rcases hown.2 with ⟨e, _⟩ | ⟨g, cap, cur, e, hb, _⟩
        · cases e
        · cases e; exact hb
      have hgnW : gn < W1.heap.size := cell_lt n0
      have hgp : gn ≠ p := by omega
      have HRS : Hid ((if openE 3 r c ≠ 0 then (openE 3 r c, .first) else if (plsL 3 r c).length < m then (10, .first) else (0, TSt.ent 3 r c m (plsL 3 r c) (fun _ _ => 0))) = res) := HRES.out
      simp only [List.length_cons, List.length_nil, Nat.zero_add, Nat.reduceAdd] at hlen ⊢
      clear HRES hlen hl hown HA HCN b1
      by_cases hr40 : 40 < r
      · have hr40' : (40 : Int) < r := by omega
        obtain rfl : res = (8, .first) := by rw [← HRS.out, show openE 3 r c = 8 by unfold openE; rw [if_pos (.inl hr40)]]; rfl
        clear HRS
        go_wp2_with fail
        refine (HL.out W1).mono ?_
        rintro e w2 ⟨rfl, rfl⟩
        go_wp2
        go_ret
        exact ⟨rfl, HB1.out, fun h => by cases h⟩
      have hr40' : ¬ (40 : Int) < r := by omega
      by_cases hc40 : 40 < c
      · have hc40' : (40 : Int) < c := by omega
        obtain rfl : res = (8, .first) := by rw [← HRS.out, show openE 3 r c = 8 by unfold openE; rw [if_pos (.inr hc40)]]; rfl
        clear HRS
        go_wp2_with fail
        refine (HL.out W1).mono ?_
        rintro e w2 ⟨rfl, rfl⟩
        go_wp2
        go_ret
        exact ⟨rfl, HB1.out, fun h => by cases h⟩
      have hc40' : ¬ (40 : Int) < c := by omega
      go_wp2_with fail
      refine (HL.out W1).mono ?_
      rintro e w2 ⟨rfl, rfl⟩
      go_wp2_with fail
      by_cases hrc : r = c
      · subst hrc
        go_quiet (first | (go_at_call 44; exact Calls.quiet_of_same (HH.out _)))
        go_wp2_with fail
        have aZ : Arr (w2.drewN nq) p 133 (txtC 3 false 0 0 0 0 (.slice none 0 0) (.slice none 0 0)) := HA1.out
        have n0Z : (w2.drewN nq).cell? ⟨gn, 0, none⟩ = some (.int .i64 (r : Int)) := n0
        have n1Z : (w2.drewN nq).cell? ⟨gn, 1, none⟩ = some (.int .i64 (r : Int)) := n1
        have n2Z : (w2.drewN nq).cell? ⟨gn, 2, none⟩ = some (.int .i64 (m : Int)) := n2
        have BZ : Below B w (w2.drewN nq) := below_dn HB1.out nq
        have sZ : p < (w2.drewN nq).heap.size := hz1
        have gZ : gn < (w2.drewN nq).heap.size := hgnW
        clear HA1 HB1 n0 n1 n2 p0 hz1 hgnW
        generalize w2.drewN nq = Z at *
        obtain ⟨N, hN⟩ : ∃ N, r * r = N := ⟨_, rfl⟩
        have hNi : (r : Int) * (r : Int) = (N : Int) := by rw [← hN]; push_cast; rfl
        have hN1 : N ≤ 1600 := by rw [← hN]; exact Nat.mul_le_mul (show r ≤ 40 by omega) (show r ≤ 40 by omega)
        have c2 := aZ.cell (i := 2) rfl
        have f2 := aZ.frozen 2
        have a1 : Arr (Z.setCell ⟨p, 2, none⟩ (.int .i64 (N : Int))).drew p 133 (txtC 3 false N 0 0 0 (.slice none 0 0) (.slice none 0 0)) := aZ.set 2 (.int .i64 (N : Int))
        have m0 : (Z.setCell ⟨p, 2, none⟩ (.int .i64 (N : Int))).drew.cell? ⟨gn, 0, none⟩ = some (.int .i64 (r : Int)) := (World.cell?_of_block (a := ⟨gn, 0, none⟩) (Below.heap_setCell _ _ _ _ hgp)).trans n0Z
        have m1 : (Z.setCell ⟨p, 2, none⟩ (.int .i64 (N : Int))).drew.cell? ⟨gn, 1, none⟩ = some (.int .i64 (r : Int)) := (World.cell?_of_block (a := ⟨gn, 1, none⟩) (Below.heap_setCell _ _ _ _ hgp)).trans n1Z
        have mm2 : (Z.setCell ⟨p, 2, none⟩ (.int .i64 (N : Int))).drew.cell? ⟨gn, 2, none⟩ = some (.int .i64 (m : Int)) := (World.cell?_of_block (a := ⟨gn, 2, none⟩) (Below.heap_setCell _ _ _ _ hgp)).trans n2Z
        have B1 : Below B w (Z.setCell ⟨p, 2, none⟩ (.int .i64 (N : Int))).drew := (BZ.setCell (p := ⟨p, 2, none⟩) hB _).drew
        have HA1 := hid a1
        have HM0 := hid m0
        have HM1 := hid m1
        have HM2 := hid mm2
        have HB1 := hid B1
        clear a1 m0 m1 mm2 B1 aZ BZ
        go_region
        clear n0Z n1Z n2Z c2 f2
        generalize (Z.setCell ⟨p, 2, none⟩ (.int .i64 (N : Int))).drew = Z1 at *
        have p0 := HA1.out.cell (i := 0) rfl
        go_wp2_with fail
        refine (HH.out Z1).mono ?_
        rintro e w3 ⟨rfl, rfl⟩
        obtain ⟨M2, hM2⟩ : ∃ M2, r * (r + 1) = M2 := ⟨_, rfl⟩
        have hM2i : (r : Int) * ((r : Int) + 1) = (M2 : Int) := by rw [← hM2]; push_cast; rfl
        have hM21 : M2 ≤ 1640 := by rw [← hM2]; exact Nat.mul_le_mul (show r ≤ 40 by omega) (show r + 1 ≤ 41 by omega)
        obtain ⟨WN, hWN⟩ : ∃ WN, M2 / 2 = WN := ⟨_, rfl⟩
        have hWNi : (M2 : Int) / 2 = (WN : Int) := by omega
        have hWNt : (M2 : Int).tdiv 2 = (WN : Int) := by rw [Int.tdiv_eq_ediv_of_nonneg (by omega)]; exact hWNi
        have HWN : Hid (WN = (plsL 3 r r).length) := by show _ = _; rw [pls_len_half (by omega) (by omega), hM2, hWN]
        have c2 := HA1.out.cell (i := 2) rfl
        have f2 := HA1.out.frozen 2
        have k0 := HM0.out
        have a2 : Arr (w3.setCell ⟨p, 2, none⟩ (.int .i64 (WN : Int))).drew p 133 (txtC 3 false WN 0 0 0 (.slice none 0 0) (.slice none 0 0)) := HA1.out.set 2 (.int .i64 (WN : Int))
        have m0 : (w3.setCell ⟨p, 2, none⟩ (.int .i64 (WN : Int))).drew.cell? ⟨gn, 0, none⟩ = some (.int .i64 (r : Int)) := (World.cell?_of_block (a := ⟨gn, 0, none⟩) (Below.heap_setCell _ _ _ _ hgp)).trans HM0.out
        have m1 : (w3.setCell ⟨p, 2, none⟩ (.int .i64 (WN : Int))).drew.cell? ⟨gn, 1, none⟩ = some (.int .i64 (r : Int)) := (World.cell?_of_block (a := ⟨gn, 1, none⟩) (Below.heap_setCell _ _ _ _ hgp)).trans HM1.out
        have mm2 : (w3.setCell ⟨p, 2, none⟩ (.int .i64 (WN : Int))).drew.cell? ⟨gn, 2, none⟩ = some (.int .i64 (m : Int)) := (World.cell?_of_block (a := ⟨gn, 2, none⟩) (Below.heap_setCell _ _ _ _ hgp)).trans HM2.out
        have B2 : Below B w (w3.setCell ⟨p, 2, none⟩ (.int .i64 (WN : Int))).drew := (HB1.out.setCell (p := ⟨p, 2, none⟩) hB _).drew
        have HA2 := hid a2
        have HN0 := hid m0
        have HN1 := hid m1
        have HN2 := hid mm2
        have HB2 := hid B2
        clear a2 m0 m1 mm2 B2 HA1 HM0 HM1 HM2 HB1
        go_wp2_with fail
        go_region
        clear c2 f2 k0 p0
        generalize (w3.setCell ⟨p, 2, none⟩ (.int .i64 (WN : Int))).drew = Z2 at *
        have p0 := HA2.out.cell (i := 0) rfl
        have p2 := HA2.out.cell (i := 2) rfl
        have n2 := HN2.out
        go_wp2_with fail
        refine (HL.out Z2).mono ?_
        rintro e w4 ⟨rfl, rfl⟩
        go_wp2_with fail
        by_cases hmw : WN < m
        · have hmw' : (WN : Int) < m := by omega
          obtain rfl : res = (10, .first) := by
            rw [← HRS.out, if_neg (by unfold openE; rw [if_neg (by omega), if_neg (by omega)]; simp), if_pos (by rw [← HWN.out]; exact hmw)]
          clear HRS
          go_quiet (fail)
          go_wp2
          go_ret
          exact ⟨rfl, below_dn HB2.out _, fun h => by cases h⟩
        have hmw' : ¬ (WN : Int) < m := by omega
        go_quiet (fail)
        have aQ : Arr (w4.drewN nq) p 133 (txtC 3 false WN 0 0 0 (.slice none 0 0) (.slice none 0 0)) := HA2.out
        have r0 : (w4.drewN nq).cell? ⟨gn, 0, none⟩ = some (.int .i64 (r : Int)) := HN0.out
        have r1 : (w4.drewN nq).cell? ⟨gn, 1, none⟩ = some (.int .i64 (r : Int)) := HN1.out
        have r2 : (w4.drewN nq).cell? ⟨gn, 2, none⟩ = some (.int .i64 (m : Int)) := HN2.out
        have BQ : Below B w (w4.drewN nq) := below_dn HB2.out nq
        clear p0 p2 n2 HA2 HN0 HN1 HN2 HB2
        generalize w4.drewN nq = Z9 at *
        have c2 := aQ.cell (i := 2) rfl
        have f2 := aQ.frozen 2
        have a9 := aQ.set 2 (.int .i64 (m : Int))
        have HA2 : Hid (Arr (Z9.setCell ⟨p, 2, none⟩ (.int .i64 (m : Int))) p 133 (txtC 3 false m 0 0 0 (.slice none 0 0) (.slice none 0 0))) := a9
        have HN0 : Hid ((Z9.setCell ⟨p, 2, none⟩ (.int .i64 (m : Int))).cell? ⟨gn, 0, none⟩ = some (.int .i64 (r : Int))) := (World.cell?_of_block (a := ⟨gn, 0, none⟩) (Below.heap_setCell _ _ _ _ hgp)).trans r0
        have HN1 : Hid ((Z9.setCell ⟨p, 2, none⟩ (.int .i64 (m : Int))).cell? ⟨gn, 1, none⟩ = some (.int .i64 (r : Int))) := (World.cell?_of_block (a := ⟨gn, 1, none⟩) (Below.heap_setCell _ _ _ _ hgp)).trans r1
        have HB2 : Hid (Below B w (Z9.setCell ⟨p, 2, none⟩ (.int .i64 (m : Int)))) := BQ.setCell (p := ⟨p, 2, none⟩) hB _
        have c1 : (Z9.setCell ⟨p, 2, none⟩ (.int .i64 (m : Int))).cell? ⟨p, 1, none⟩ = some (.bool false) := a9.cell (i := 1) rfl
        have f1 : (Z9.setCell ⟨p, 2, none⟩ (.int .i64 (m : Int))).frozen? ⟨p, 1, none⟩ = false := a9.frozen 1
        have a3 := HA2.out.set 1 (.bool true)
        have m0 : ((Z9.setCell ⟨p, 2, none⟩ (.int .i64 (m : Int))).setCell ⟨p, 1, none⟩ (.bool true)).cell? ⟨gn, 0, none⟩ = some (.int .i64 (r : Int)) := (World.cell?_of_block (a := ⟨gn, 0, none⟩) (Below.heap_setCell _ _ _ _ hgp)).trans HN0.out
        have m1 : ((Z9.setCell ⟨p, 2, none⟩ (.int .i64 (m : Int))).setCell ⟨p, 1, none⟩ (.bool true)).cell? ⟨gn, 1, none⟩ = some (.int .i64 (r : Int)) := (World.cell?_of_block (a := ⟨gn, 1, none⟩) (Below.heap_setCell _ _ _ _ hgp)).trans HN1.out
        have B3 : Below B w ((Z9.setCell ⟨p, 2, none⟩ (.int .i64 (m : Int))).setCell ⟨p, 1, none⟩ (.bool true)) := HB2.out.setCell (p := ⟨p, 1, none⟩) hB _
        have HA3 : Hid (Arr ((Z9.setCell ⟨p, 2, none⟩ (.int .i64 (m : Int))).setCell ⟨p, 1, none⟩ (.bool true)) p 133 (txtC 3 true m 0 0 0 (.slice none 0 0) (.slice none 0 0))) := a3
        have HP0 := hid m0
        have HP1 := hid m1
        have HB3 := hid B3
        clear a3 a9 aQ m0 m1 B3 BQ HA2 HN0 HN1 HB2
        have n2q := r2
        clear r0 r1
        go_wp2_with fail
        clear c1 f1 c2 f2 n2q r2
        generalize (Z9.setCell ⟨p, 2, none⟩ (.int .i64 (m : Int))).setCell ⟨p, 1, none⟩ (.bool true) = Z3 at *
        have hmk := HMK.out N hN1
        have n0 := HP0.out
        have n1 := HP1.out
        have c4 := HA3.out.cell (i := 4) rfl
        have c5 := HA3.out.cell (i := 5) rfl
        have c6 := HA3.out.cell (i := 6) rfl
        have f4 := HA3.out.frozen 4
        have f5 := HA3.out.frozen 5
        have f6 := HA3.out.frozen 6
        have hwN : IntKind.i64.wrap (N : Int) = N := by rw [IntKind.wrap_i64]; omega
        have aA := HA3.out.alloc (.cells (Array.replicate N (.int .u64 0)) 65)
        have n0A := (Sim.alloc 0 Z3 (.cells (Array.replicate N (.int .u64 0)) 65)).cell n0
        have n1A := (Sim.alloc 0 Z3 (.cells (Array.replicate N (.int .u64 0)) 65)).cell n1
        have d4 := aA.cell (i := 4) rfl
        have d5 := aA.cell (i := 5) rfl
        have d6 := aA.cell (i := 6) rfl
        have e4 := aA.frozen 4
        have e5 := aA.frozen 5
        have e6 := aA.frozen 6
        have HAA := hid aA
        obtain ⟨g, hg⟩ : ∃ g, Z3.heap.size = g := ⟨_, rfl⟩
        have hgg : p < g ∧ gn < g ∧ B ≤ g := ⟨by have := HA3.out.lt; omega, by have := cell_lt n0; simp only at this; omega, by have := HA3.out.lt; omega⟩
        have HG0 : Hid (Arr (Z3.alloc (.cells (Array.replicate N (.int .u64 0)) 65)) g 65 (List.replicate N (.int .u64 0))) := by
          have h := Arr.newL Z3 65 (List.replicate N (.int .u64 0))
          rw [List.toArray_replicate, hg] at h
          exact h
        have HBA : Hid (Below B w (Z3.alloc (.cells (Array.replicate N (.int .u64 0)) 65))) := HB3.out.alloc (by omega) _
        have HQ0 := hid n0A
        have HQ1 := hid n1A
        have HGE := hid hg
        clear aA hg HB3 HP0 HP1 HA3
        go_region
        rw [HGE.out]
        clear hmk n0 n1 c4 c5 c6 f4 f5 f6 d4 d5 d6 e4 e5 e6 n0A n1A HGE
        generalize Z3.alloc (.cells (Array.replicate N (.int .u64 0)) 65) = Z4 at *
        have HA4 : Hid (Arr (((Z4.setCell ⟨p, 4, none⟩ (.int .i64 (r : Int))).setCell ⟨p, 5, none⟩ (.int .i64 (r : Int))).setCell ⟨p, 6, none⟩ (.slice (some ⟨g, 0, none⟩) N N)).drew p 133 (txtC 3 true m 0 r r (.slice (some ⟨g, 0, none⟩) N N) (.slice none 0 0))) := ((HAA.out.set 4 (.int .i64 (r : Int))).set 5 (.int .i64 (r : Int))).set 6 (.slice (some ⟨g, 0, none⟩) N N)
        have HK4 : Hid (Kept (fun z => z = p) Z4 (((Z4.setCell ⟨p, 4, none⟩ (.int .i64 (r : Int))).setCell ⟨p, 5, none⟩ (.int .i64 (r : Int))).setCell ⟨p, 6, none⟩ (.slice (some ⟨g, 0, none⟩) N N)).drew) := by
          have st : ∀ (W : World) (i : Nat) (v : Value), Kept (fun z => z = p) Z4 W → Kept (fun z => z = p) Z4 (W.setCell ⟨p, i, none⟩ v) := fun W i v h => h.trans (Kept.set (S := fun z => z = p) rfl v) (fun z h => .inl h)
          exact (st _ 6 _ (st _ 5 _ (st _ 4 _ (Kept.refl _ _)))).trans (Kept.drewN (S := fun z => z = p) 1) (fun z h => .inl h)
        go_wp2_with fail
        generalize (((Z4.setCell ⟨p, 4, none⟩ (.int .i64 (r : Int))).setCell ⟨p, 5, none⟩ (.int .i64 (r : Int))).setCell ⟨p, 6, none⟩ (.slice (some ⟨g, 0, none⟩) N N)).drew = Z5 at *
        have HG5 := hid (HK4.out.arr HG0.out (by omega))
        have n0 : Z5.cell? ⟨gn, 0, none⟩ = some (.int .i64 (r : Int)) := (World.cell?_of_block (a := ⟨gn, 0, none⟩) (HK4.out.block gn (cell_lt HQ0.out) hgp)).trans HQ0.out
        have n1 : Z5.cell? ⟨gn, 1, none⟩ = some (.int .i64 (r : Int)) := (World.cell?_of_block (a := ⟨gn, 1, none⟩) (HK4.out.block gn (cell_lt HQ0.out) hgp)).trans HQ1.out
        have HB5 : Hid (Below B w Z5) := HBA.out.trans (HK4.out.below (fun z hz => by rw [hz]; exact hB) (by have := HAA.out.lt; omega))
        clear HAA HG0 HBA HQ0 HQ1 HK4
        have hmb := HMB.out N hN1
        have c7 := HA4.out.cell (i := 7) rfl
        have f7 := HA4.out.frozen 7
        have n0A := (Sim.alloc 0 Z5 (.cells (Array.replicate N (.bool false)) 4)).cell n0
        have n1A := (Sim.alloc 0 Z5 (.cells (Array.replicate N (.bool false)) 4)).cell n1
        have aA := HA4.out.alloc (.cells (Array.replicate N (.bool false)) 4)
        have d7 := aA.cell (i := 7) rfl
        have e7 := aA.frozen 7
        obtain ⟨hb, hhb⟩ : ∃ hb, Z5.heap.size = hb := ⟨_, rfl⟩
        have hhg : g < hb ∧ p < hb ∧ B ≤ hb := ⟨by have := HG5.out.lt; omega, by have := HA4.out.lt; omega, by have := HA4.out.lt; omega⟩
        have HH0 : Hid (Arr (Z5.alloc (.cells (Array.replicate N (.bool false)) 4)) hb 4 (List.replicate N (.bool false))) := by
          have h := Arr.newL Z5 4 (List.replicate N (.bool false))
          rw [List.toArray_replicate, hhb] at h
          exact h
        have HG6 := hid (HG5.out.alloc (.cells (Array.replicate N (.bool false)) 4))
        have HB6 : Hid (Below B w (Z5.alloc (.cells (Array.replicate N (.bool false)) 4))) := HB5.out.alloc (by omega) _
        have HA6 := hid aA
        have HHB := hid hhb
        clear aA hhb HG5 HB5 HA4
        go_region
        rw [HHB.out]
        clear hmb n0 n1 c7 f7 n0A n1A d7 e7 HHB
        generalize Z5.alloc (.cells (Array.replicate N (.bool false)) 4) = Z6 at *
        have a7 : Arr (Z6.setCell ⟨p, 7, none⟩ (.slice (some ⟨hb, 0, none⟩) N N)).drew p 133 (txtC 3 true m 0 r r (.slice (some ⟨g, 0, none⟩) N N) (.slice (some ⟨hb, 0, none⟩) N N)) := HA6.out.set 7 (.slice (some ⟨hb, 0, none⟩) N N)
        have g7 : Arr (Z6.setCell ⟨p, 7, none⟩ (.slice (some ⟨hb, 0, none⟩) N N)).drew g 65 _ := HG6.out.other _ (by omega)
        have h7 : Arr (Z6.setCell ⟨p, 7, none⟩ (.slice (some ⟨hb, 0, none⟩) N N)).drew hb 4 _ := HH0.out.other _ (by omega)
        have B7 : Below B w (Z6.setCell ⟨p, 7, none⟩ (.slice (some ⟨hb, 0, none⟩) N N)).drew := (HB6.out.setCell (p := ⟨p, 7, none⟩) hB _).drew
        obtain rfl : res = (0, TSt.ent 3 r r m (plsL 3 r r) (fun _ _ => 0)) := by
          rw [← HRS.out, if_neg (by unfold openE; rw [if_neg (by omega), if_neg (by omega)]; simp), if_neg (by rw [← HWN.out]; exact hmw)]
        have hfin : Hid (LineQ B w p (0, TSt.ent 3 r r m (plsL 3 r r) (fun _ _ => 0)) (.returned (.int .i64 0)) (Z6.setCell ⟨p, 7, none⟩ (.slice (some ⟨hb, 0, none⟩) N N)).drew) := by
          refine ⟨rfl, B7, fun _ => ⟨by omega, by omega, by omega, by omega, 0, g, hb, List.replicate N false, ?_, by omega, by omega, by omega, by omega, by omega, ⟨_, g7, by rw [List.length_replicate]; exact hN.symm, fun i j hi hj => ?_⟩, by rw [List.map_replicate]; exact h7, by rw [List.length_replicate]; exact hN.symm, by have := HWN.out; omega, ⟨fun h => by omega, fun _ => ⟨pls_nodup (by omega), fun i j => ?_⟩⟩⟩⟩
          · rw [Nat.zero_add, hN]; exact a7
          · rw [List.getElem?_replicate, if_pos (by have := idx_lt hi hj; omega)]; rfl
          · rw [pls_mem (by omega)]
            constructor
            · rintro ⟨h1, h2, h3⟩
              exact ⟨h1, h2, fun h => h3 (.inr h), by rw [List.getElem?_replicate, if_pos (by have := idx_lt h1 h2; omega)]⟩
            · rintro ⟨h1, h2, h3, _⟩
              exact ⟨h1, h2, fun h => h3 (by omega)⟩
        clear a7 g7 h7 B7 HA6 HG6 HH0 HB6 HRS
        go_wp2
        go_ret
        exact hfin.out
      · have hrc' : ((r : Int) == (c : Int)) = false := by rw [beq_eq_false_iff_ne]; omega
        obtain rfl : res = (4, .first) := by rw [← HRS.out, show openE 3 r c = 4 by unfold openE; rw [if_neg (by omega), if_pos ⟨by omega, hrc⟩]]; rfl
        clear HRS
        go_quiet (first | (go_at_call 44; exact Calls.quiet_of_same (HH.out _)))
        go_wp2
        go_ret
        exact ⟨rfl, below_dn HB1.out _, fun h => by cases h⟩
    · have hres6 : res = (6, .first) := by
        rw [← HRES.out]
        unfold cooT
        split
        · rename_i e; cases e; simp at hlen
        · rfl
      subst hres6
      clear HA HCN b1 HRES hl hown
      have hl1 : ((l.length : Int) == 3) = false := by rw [beq_eq_false_iff_ne]; omega
      by_cases hl2 : l.length = 2
      · have hl2' : (l.length : Int) = 2 := by omega
        go_wp2_with fail
        refine (HL.out W1).mono ?_
        rintro e w2 ⟨rfl, rfl⟩
        go_wp2
        go_ret
        exact ⟨rfl, HB1.out, fun h => by cases h⟩
      · have hl2' : ((l.length : Int) == 2) = false := by rw [beq_eq_false_iff_ne]; omega
        go_wp2_with fail
        refine (HL.out W1).mono ?_
        rintro e w2 ⟨rfl, rfl⟩
        go_wp2_with fail
        refine (HL.out w2).mono ?_
        rintro e w3 ⟨rfl, rfl⟩
        go_wp2
        go_ret
        exact ⟨rfl, HB1.out, fun h => by cases h⟩
end Go.Proofs.YthdcceackfdbbaaGreatDoor
namespace Go.Proofs.YthdcceackfdbbaaGreatDoor
open Go Go.RowKit
theorem TxtIs.belowAll {B p : Nat} {w w' : World} {t : TSt} (h : TxtIs B w p t) (b : Below w.heap.size w w') : TxtIs B w' p t := by
  cases t with
  | first => exact Arr.belowAll h b
  | sizes k => exact ⟨h.1, h.2.belowAll b⟩
  | ent k R C left free f =>
    obtain ⟨h1, h2, h3, h4, had, g, hb, bl, aP, hBg, hBh, hgh, hgp, hhp, ⟨L, aG, hLl, hLn⟩, aH, hr⟩ := h
    exact ⟨h1, h2, h3, h4, had, g, hb, bl, aP.belowAll b, hBg, hBh, hgh, hgp, hhp, ⟨L, aG.belowAll b, hLl, hLn⟩, aH.belowAll b, hr⟩
theorem rsizes_any (w : World) (p B : Nat) (ao : Option Addr) (n cap k : Nat) (ws : List ByteArray) (hn : ws.length = n) (hn1 : n ≤ 1000000) (hsz : ∀ x ∈ ws, x.size ≤ 1000000) (hws : StrsAt w ao ws) (h : TxtIs B w p (.sizes k)) (hB : B ≤ p) :
    Calls Tryz.prog 117 #[.pointer (some ⟨p, 0, none⟩), .slice ao n cap] w fun e w' => LineQ B w p (sizesT k false (ws.map (·.data.toList))) e w' := by
  obtain ⟨hk, ha⟩ := h
  match k, hk with
  | 0, _ => exact rsizes_0 w p B ao n cap ws hn hn1 hsz hws ha hB
  | 1, _ => exact rsizes_1 w p B ao n cap ws hn hn1 hsz hws ha hB
  | 2, _ => exact rsizes_2 w p B ao n cap ws hn hn1 hsz hws ha hB
  | 3, _ => exact rsizes_3 w p B ao n cap ws hn hn1 hsz hws ha hB
theorem rentry_any (w : World) (p B : Nat) (ao : Option Addr) (n cap k : Nat) (ws : List ByteArray) (hn : ws.length = n) (hn1 : n ≤ 1000000) (hcap : n ≤ cap) (hsz : ∀ x ∈ ws, x.size ≤ 1000000) (hws : StrsAt w ao ws) (R C left : Nat) (free : List (Nat × Nat)) (f : Nat → Nat → Nat) (h : TxtIs B w p (.ent k R C left free f)) (hB : B ≤ p) :
    Calls Tryz.prog 118 #[.pointer (some ⟨p, 0, none⟩), .slice ao n cap] w fun e w' => LineQ B w p (stepT false (ws.map (·.data.toList)) (.ent k R C left free f)) e w' := by
  have hk : k ≤ 3 := h.1
  match k, hk with
  | 0, _ => exact rentry_0 w p B ao n cap ws hn hn1 hcap hsz hws R C left free f h hB
  | 1, _ => exact rentry_1 w p B ao n cap ws hn hn1 hcap hsz hws R C left free f h hB
  | 2, _ => exact rentry_2 w p B ao n cap ws hn hn1 hcap hsz hws R C left free f h hB
  | 3, _ => exact rentry_3 w p B ao n cap ws hn hn1 hcap hsz hws R C left free f h hB
end Go.Proofs.YthdcceackfdbbaaGreatDoor
