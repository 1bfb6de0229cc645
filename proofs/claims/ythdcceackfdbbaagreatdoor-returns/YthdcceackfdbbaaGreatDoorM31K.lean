import Derived.Test.YthdcceackfdbbaaGreatDoorM30K
import Derived.Test.YthdcceackfdbbaaGreatDoorM28K
import Derived.Test.YthdcceackfdbbaaGreatDoorM18K
import Derived.Test.YthdcceackfdbbaaGreatDoorM09K

/- Own text: the laws' own matrix: square, symmetric. -/
namespace Go.Proofs.YthdcceackfdbbaaGreatDoor
open Go Go.RowKit

/-- symmetric as far as it was made -/
def SymTo (R : Nat) (ys : List Nat) (i j : Nat) : Prop := ∀ a b : Nat, b < a → a < R → (a < i ∨ (a = i ∧ b < j)) → ys[a * R + b]? = ys[b * R + a]?

theorem SymTo.step {R i j y : Nat} {ys : List Nat} (h : SymTo R ys i j) (hi : i < R) (hj : j < i) (hy : ys[j * R + i]? = some y) (hl : R * R ≤ ys.length) : SymTo R (ys.set (i * R + j) y) i (j + 1) := by
  intro a b hb ha hab
  have hp := idx_lt (R := R) (C := R) hi (show j < R by omega)
  have up : i * R + j ≠ b * R + a := fun e => by
    have := rc_inj (C := R) (show j < R by omega) ha e
    omega
  rw [List.getElem?_set_ne up]
  by_cases e : i * R + j = a * R + b
  · obtain ⟨rfl, rfl⟩ := rc_inj (C := R) (show j < R by omega) (show b < R by omega) e
    rw [List.getElem?_set_self (by omega), hy]
  · rw [List.getElem?_set_ne e]
    refine h a b hb ha ?_
    rcases hab with h1 | ⟨h1, h2⟩
    · exact .inl h1
    · refine .inr ⟨h1, ?_⟩
      apply Classical.byContradiction
      intro hn
      have : b = j := by omega
      subst h1
      subst this
      exact e rfl

theorem SymTo.row {R i j : Nat} {ys : List Nat} (h : SymTo R ys i j) (hj : i ≤ j) : SymTo R ys (i + 1) 0 := fun a b hb ha hab => h a b hb ha (by omega)

theorem SymTo.all {R i : Nat} {ys : List Nat} (h : SymTo R ys i 0) (hi : R ≤ i) : ∀ a b, a < R → b < R → ys[a * R + b]? = ys[b * R + a]? := by
  intro a b ha hb
  rcases Nat.lt_trichotomy a b with h1 | h1 | h1
  · exact (h b a h1 hb (.inl (by omega))).symm
  · rw [h1]
  · exact h a b h1 ha (.inl (by omega))

set_option maxRecDepth 20000 in
set_option maxHeartbeats 4000000 in
theorem square_one (w : World) (ao : Option Addr) (n cap : Nat) (xs : List Nat) (hn : xs.length = n) (hn1 : n ≤ 20000000000000) (hbuf : BufIs w ao xs) (R D k : Nat) (hR : R ≤ 40) (h1 : ((k : Int) == 1) = true) :
    Calls Tryz.prog 17 #[.slice ao n cap, .int .i64 (R : Int), .int .i64 (D : Int), .int .i64 (k : Int)] w fun e w' => ∃ v ys, e = .returned (.tuple #[v, .agg (viewC R R).toArray]) ∧ SquareR w.heap.size R R true v ys w w' := by
  obtain ⟨i0, hi, hz0, hz1, hz2⟩ := info_parts Tryz.infoU64
  have HI := hid hi
  obtain ⟨b, hb⟩ : ∃ b, w.heap.size = b := ⟨_, rfl⟩
  rw [hb]
  have HBUF := hid hbuf
  clear hi hbuf
  obtain ⟨N, hN⟩ : ∃ N, R * R = N := ⟨_, rfl⟩
  have hNi : (R : Int) * (R : Int) = (N : Int) := by rw [← hN]; push_cast; rfl
  have hN1 : N ≤ 1600 := by rw [← hN]; exact Nat.mul_le_mul hR hR
  have HN := hid hN
  clear hN
  go_enter Tryz.func17, Tryz.ntmps17
  go_wp2
  go_loopw [11, 12] (fun vb vi wr => ∃ (i : Nat) (ys : List Nat), vi = .int .i64 (i : Int) ∧ i ≤ N ∧ Hid (ys.length = i) ∧ Hid (∀ y ∈ ys, y < 18446744073709551616) ∧ Hid (wr.ownsRow (b + 1) 65 1 vb i (u64s ys)) ∧ Hid (Below b w wr) ∧ Hid (Arr wr b 24 [.int .i64 0, .int .i64 0, .int .i64 0, .int .i64 0, .int .i64 0])) (fun _ vi _ => N - (intOf vi).toNat)
  case atStart =>
    refine ⟨0, [], rfl, by omega, rfl, by intro y hy; simp at hy, World.ownsRow_nil _ _ _ _, ?_, ?_⟩
    · rw [← hb]; exact Below.refl' _ _
    · rw [← hb]; exact Arr.newL w _ _
  case round =>
    obtain ⟨i, ys, rfl, hi, HL, HLT, HO, HB, HV⟩ := hrel
    by_cases hlt : i < N
    · have hlt' : (i : Int) < N := by omega
      have hsz : b + 1 ≤ wr.heap.size := by have := HV.out.lt; omega
      -- the number that is added
      have add : ∀ (v' : Value) (w2 : World) (x : Nat) (ob : Option Nat), (∀ q, ob = some q → b + 1 ≤ q) → x < 18446744073709551616 → w2.ownsRow (b + 1) 65 1 v' (i + 1) (u64s ys ++ [.int .u64 (x : Int)]) → (wr.alloc (.cells #[.int .u64 (x : Int)] 65)).grownBy w2 ob → Hid ((ys ++ [x]).length = i + 1) ∧ Hid (∀ y ∈ ys ++ [x], y < 18446744073709551616) ∧ Hid (w2.ownsRow (b + 1) 65 1 v' (i + 1) (u64s (ys ++ [x]))) ∧ Hid (Below b w w2) ∧ Hid (Arr w2 b 24 [.int .i64 0, .int .i64 0, .int .i64 0, .int .i64 0, .int .i64 0]) := by
        intro v' w2 x ob hob hx hown' hgrow
        have b2 : Below (b + 1) wr w2 := ((Below.refl _ wr).alloc hsz _).grown hgrow (by simp; omega) hob
        refine ⟨by show _ = _; rw [List.length_append, HL.out]; rfl, fun y hy => ?_, ?_, HB.out.trans (b2.mono (by omega)), HV.out.below b2 (by omega)⟩
        · rcases List.mem_append.1 hy with h | h
          · exact HLT.out y h
          · simp at h; omega
        · show World.ownsRow _ _ _ _ _ _ _
          rw [show u64s (ys ++ [x]) = u64s ys ++ [.int .u64 (x : Int)] by simp [u64s]]; exact hown'
      have HADD := hid add
      clear add
      by_cases hn0 : n = 0
      · subst hn0
        go_wp2_with (at_builtin; refine wpList_append_own _ rfl _ _ 22 rfl (b + 1) 65 i0 (.int .u64 0) 1 8 Tryz.underlying22 HI.out hz0 hz1 hz2 rfl (by decide) _ _ _ rfl (HO.out.alloc _) ⟨wr.heap.size, 0, none⟩ 1 1 [.int .u64 ((i : Int) * 4503599627370496)] rfl rfl ?_ ?_ ?_ ?_ ?_ ?_)
        · exact cell_one_new _ _ _
        · first | rfl | (intro u hu; simp at hu; subst hu; rfl)
        · unfold maxLen; omega
        · omega
        · first | omega | (simp; omega)
        · intro v' w2 hown' hgrow _
          have hout := HADD.out v' w2 (i * 4503599627370496) _ (fun q hq => (HO.out.lt q hq).1) (by omega) (by simpa using hown') (by simpa using hgrow)
          have HOUT := hid hout
          clear hout hown' hgrow
          go_wp2
          go_round
          case rel => exact ⟨i + 1, ys ++ [(i * 4503599627370496)], by simp, by omega, HOUT.out.1, HOUT.out.2.1, HOUT.out.2.2.1, HOUT.out.2.2.2.1, HOUT.out.2.2.2.2⟩
          case measure => simp [intOf]; omega
      · have hn0' : (0 : Int) < (n : Int) := by omega
        obtain ⟨q, hq⟩ : ∃ q : Nat, (i : Int) % (n : Int) = (q : Int) := ⟨i % n, by simp⟩
        have hqn : q < n := by have := Int.emod_lt_of_pos (i : Int) hn0'; omega
        obtain ⟨X, hX⟩ : ∃ X, xs[q]? = some X := ⟨xs[q]'(by omega), by simp [hn, hqn]⟩
        obtain ⟨hX64, ad, rfl, hg, hcell⟩ := HBUF.out q X hX
        have hcell1 : wr.cell? (ad.add q) = some (.int .u64 (X : Int)) := (HB.out.cell (p := ad.add q) (by rw [Go.ChangeShapes.block_add]; omega)).trans hcell
        clear hX hcell
        go_wp2_with (at_builtin; refine wpList_append_own _ rfl _ _ 22 rfl (b + 1) 65 i0 (.int .u64 0) 1 8 Tryz.underlying22 HI.out hz0 hz1 hz2 rfl (by decide) _ _ _ rfl (HO.out.alloc _) ⟨wr.heap.size, 0, none⟩ 1 1 [.int .u64 (X : Int)] rfl rfl ?_ ?_ ?_ ?_ ?_ ?_)
        · exact cell_one_new _ _ _
        · first | rfl | (intro u hu; simp at hu; subst hu; rfl)
        · unfold maxLen; omega
        · omega
        · first | omega | (simp; omega)
        · intro v' w2 hown' hgrow _
          have hout := HADD.out v' w2 X _ (fun q hq => (HO.out.lt q hq).1) hX64 (by simpa using hown') (by simpa using hgrow)
          have HOUT := hid hout
          clear hout hown' hgrow
          go_wp2
          go_round
          case rel => exact ⟨i + 1, ys ++ [X], by simp, by omega, HOUT.out.1, HOUT.out.2.1, HOUT.out.2.2.1, HOUT.out.2.2.2.1, HOUT.out.2.2.2.2⟩
          case measure => simp [intOf]; omega
    · have hlt' : ¬ (i : Int) < N := by omega
      have hiN : i = N := by omega
      rw [hiN] at HL HO
      clear hiN
      rcases ownsRow_nums HO.out HL.out with ⟨hu, hN0⟩ | ⟨g, cap', hu, hg, hnums⟩
      · subst hu
        have hR0 : R = 0 := by
          rcases Nat.eq_zero_or_pos R with h | h
          · exact h
          · have := Nat.mul_pos h h; have := HN.out; omega
        have HR0 := hid hR0
        have HFIN := hid (squareR_of (half := true) HN.out HL.out HLT.out (ownsRow_nums HO.out HL.out) (fun _ i j h => by omega) HB.out (.int .i64 (R : Int)) (.int .i64 (R : Int)) (.int .i64 0) (.int .i64 (R : Int)) (.int .i64 1))
        have HO2 := HO
        clear HO hN0 hR0
        go_wp2_with fail
        go_loopw [14] (fun vi wx => ∃ p : Nat, vi = .int .i64 (p : Int) ∧ wx = wr) (fun _ _ => 0)
        case atStart => exact ⟨0, rfl, rfl⟩
        case round =>
          obtain ⟨p, rfl, rfl⟩ := hrel
          have hpt' : ¬ (p : Int) < R := by have := HR0.out; omega
          have v0 := HV.out
          have c0 := v0.cell (i := 0) rfl
          have f0 := v0.frozen 0
          have v1 := v0.set 0 (.int .i64 (R : Int))
          have c1 := v1.cell (i := 1) rfl
          have f1 := v1.frozen 1
          have v2 := v1.set 1 (.int .i64 (R : Int))
          have c2 := v2.cell (i := 2) rfl
          have f2 := v2.frozen 2
          have v3 := v2.set 2 (.int .i64 0)
          have c3 := v3.cell (i := 3) rfl
          have f3 := v3.frozen 3
          have v4 := v3.set 3 (.int .i64 (R : Int))
          have c4 := v4.cell (i := 4) rfl
          have f4 := v4.frozen 4
          have v5 := v4.set 4 (.int .i64 1)
          have d0 := v5.cell (i := 0) rfl
          have d1 := v5.cell (i := 1) rfl
          have d2 := v5.cell (i := 2) rfl
          have d3 := v5.cell (i := 3) rfl
          have d4 := v5.cell (i := 4) rfl
          clear v0 v1 v2 v3 v4 v5
          go_wp2
          refine bodyPost_ret (v := .tuple #[.slice none 0 0, .agg #[.int .i64 (R : Int), .int .i64 (R : Int), .int .i64 0, .int .i64 (R : Int), .int .i64 1]]) ?_ rfl (by first | exact ⟨_, ys, rfl, HFIN.out⟩ | exact ⟨_, rfl, ys, HFIN.out⟩)
          simp [results, Tryz.results17, go_sem, *]
      · subst hu
        have HG := hid hnums
        clear hnums HO
        go_wp2_with fail
        go_loopw [14] (fun vi wx => ∃ (p : Nat) (zs : List Nat), vi = .int .i64 (p : Int) ∧ p ≤ R ∧ Hid (zs.length = N) ∧ Hid (∀ y ∈ zs, y < 18446744073709551616) ∧ Hid (NumsIn wx g zs) ∧ Hid (SymTo R zs p 0) ∧ Hid (Below b w wx) ∧ Hid (Arr wx b 24 [.int .i64 0, .int .i64 0, .int .i64 0, .int .i64 0, .int .i64 0])) (fun vi _ => R - (intOf vi).toNat)
        case atStart => exact ⟨0, ys, rfl, by omega, HL, HLT, HG, fun a b h1 h2 h3 => by omega, HB, HV⟩
        case round =>
          clear HL HLT HG HB HV hlt hlt'
          obtain ⟨p, zs, rfl, hp, HL, HLT, HG, HSY, HB, HV⟩ := hrel
          by_cases hpt : p < R
          · have hpt' : (p : Int) < R := by omega
            go_wp2_with fail
            go_loopw [15] (fun vj wy => ∃ (j : Nat) (us : List Nat), vj = .int .i64 (j : Int) ∧ j ≤ p ∧ Hid (us.length = N) ∧ Hid (∀ y ∈ us, y < 18446744073709551616) ∧ Hid (NumsIn wy g us) ∧ Hid (SymTo R us p j) ∧ Hid (Below b w wy) ∧ Hid (Arr wy b 24 [.int .i64 0, .int .i64 0, .int .i64 0, .int .i64 0, .int .i64 0])) (fun vj _ => p - (intOf vj).toNat)
            case atStart => exact ⟨0, zs, rfl, by omega, HL, HLT, HG, HSY, HB, HV⟩
            case round =>
              clear HL HLT HG HB HV HSY
              obtain ⟨j, us, rfl, hj, HL, HLT, HG, HSY, HB, HV⟩ := hrel
              by_cases hjt : j < p
              · have hjt' : (j : Int) < p := by omega
                obtain ⟨P, hP⟩ : ∃ P : Nat, (p : Int) * (R : Int) = (P : Int) := ⟨p * R, by push_cast; rfl⟩
                obtain ⟨Q, hQ⟩ : ∃ Q : Nat, (j : Int) * (R : Int) = (Q : Int) := ⟨j * R, by push_cast; rfl⟩
                have eP : p * R = P := by have : ((p * R : Nat) : Int) = P := by push_cast; exact hP
                                          omega
                have eQ : j * R = Q := by have : ((j * R : Nat) : Int) = Q := by push_cast; exact hQ
                                          omega
                have lP : P + j < N := by have := idx_lt (R := R) (C := R) hpt (show j < R by omega); have := HN.out; omega
                have lQ : Q + p < N := by have := idx_lt (R := R) (C := R) (show j < R by omega) hpt; have := HN.out; omega
                have lP' : (P : Int) + j < N := by omega
                have lQ' : (Q : Int) + p < N := by omega
                obtain ⟨L, hA, hLs⟩ := HG.out
                obtain ⟨y, hy⟩ : ∃ y, us[Q + p]? = some y := ⟨us[Q + p]'(by rw [HL.out]; omega), by simp⟩
                obtain ⟨z, hz⟩ : ∃ z, us[P + j]? = some z := ⟨us[P + j]'(by rw [HL.out]; omega), by simp⟩
                have k1 := hA.cell (hLs _ _ hy)
                have k2 := hA.cell (hLs _ _ hz)
                have fz := hA.frozen (P + j)
                have hgb : g ≠ b := by omega
                have HNX : Hid ((us.set (P + j) y).length = N) := by show _ = _; rw [List.length_set]; exact HL.out
                have HLX : Hid (∀ q ∈ us.set (P + j) y, q < 18446744073709551616) := fun q hq => by
                  rcases List.mem_or_eq_of_mem_set hq with h | h
                  · exact HLT.out q h
                  · rw [h]; exact HLT.out y (List.mem_of_getElem? hy)
                have HGX : Hid (NumsIn (wr.setCell ⟨g, P + j, none⟩ (.int .u64 (y : Int))) g (us.set (P + j) y)) := by
                  refine ⟨L.set (P + j) (.int .u64 (y : Int)), hA.set _ _, fun q x hq => ?_⟩
                  rw [List.getElem?_set] at hq ⊢
                  by_cases e : P + j = q
                  · subst e
                    have hLl : P + j < L.length := (List.getElem?_eq_some_iff.1 (hLs _ _ hz)).1
                    rw [if_pos rfl, if_pos (by rw [HL.out]; exact lP)] at hq
                    rw [if_pos rfl, if_pos hLl]
                    cases hq; rfl
                  · rw [if_neg e] at hq ⊢
                    exact hLs q x hq
                have HSX : Hid (SymTo R (us.set (P + j) y) p (j + 1)) := by
                  have := HSY.out.step hpt hjt (show us[j * R + p]? = some y by rw [eQ]; exact hy) (by rw [HL.out, ← HN.out]; exact Nat.le_refl _)
                  rw [eP] at this
                  exact this
                have HBX : Hid (Below b w (wr.setCell ⟨g, P + j, none⟩ (.int .u64 (y : Int)))) := HB.out.setCell (p := ⟨g, P + j, none⟩) (by show b ≤ g; omega) _
                have HVX : Hid (Arr (wr.setCell ⟨g, P + j, none⟩ (.int .u64 (y : Int))) b 24 [.int .i64 0, .int .i64 0, .int .i64 0, .int .i64 0, .int .i64 0]) := HV.out.other _ (Ne.symm hgb)
                clear hA hLs hy hz HL HLT HG HSY HB HV eP eQ
                go_wp2
                go_round
                case rel => exact ⟨j + 1, us.set (P + j) y, by simp, by omega, HNX, HLX, HGX, HSX, HBX, HVX⟩
                case measure => simp [intOf]; omega
              · have hjt' : ¬ (j : Int) < p := by omega
                have HSX : Hid (SymTo R us (p + 1) 0) := HSY.out.row (by omega)
                go_wp2
                go_round
                case rel => exact ⟨p + 1, us, by simp, by omega, HL, HLT, HG, HSX, HB, HV⟩
                case measure => simp [intOf]; omega
          · have hpt' : ¬ (p : Int) < R := by omega
            have HFIN := hid (squareR_of (half := true) HN.out HL.out HLT.out (.inr ⟨g, cap', rfl, hg, HG.out⟩) (fun _ => HSY.out.all (by omega)) HB.out (.int .i64 (R : Int)) (.int .i64 (R : Int)) (.int .i64 0) (.int .i64 (R : Int)) (.int .i64 1))
            clear HSY HG HL HLT
            have v0 := HV.out
            have c0 := v0.cell (i := 0) rfl
            have f0 := v0.frozen 0
            have v1 := v0.set 0 (.int .i64 (R : Int))
            have c1 := v1.cell (i := 1) rfl
            have f1 := v1.frozen 1
            have v2 := v1.set 1 (.int .i64 (R : Int))
            have c2 := v2.cell (i := 2) rfl
            have f2 := v2.frozen 2
            have v3 := v2.set 2 (.int .i64 0)
            have c3 := v3.cell (i := 3) rfl
            have f3 := v3.frozen 3
            have v4 := v3.set 3 (.int .i64 (R : Int))
            have c4 := v4.cell (i := 4) rfl
            have f4 := v4.frozen 4
            have v5 := v4.set 4 (.int .i64 1)
            have d0 := v5.cell (i := 0) rfl
            have d1 := v5.cell (i := 1) rfl
            have d2 := v5.cell (i := 2) rfl
            have d3 := v5.cell (i := 3) rfl
            have d4 := v5.cell (i := 4) rfl
            clear v0 v1 v2 v3 v4 v5
            go_wp2
            refine bodyPost_ret (v := .tuple #[.slice (some ⟨g, 0, none⟩) N cap', .agg #[.int .i64 (R : Int), .int .i64 (R : Int), .int .i64 0, .int .i64 (R : Int), .int .i64 1]]) ?_ rfl (by first | exact ⟨_, zs, rfl, HFIN.out⟩ | exact ⟨_, rfl, zs, HFIN.out⟩)
            simp [results, Tryz.results17, go_sem, *]


set_option maxRecDepth 20000 in
set_option maxHeartbeats 4000000 in
theorem square_three (w : World) (ao : Option Addr) (n cap : Nat) (xs : List Nat) (hn : xs.length = n) (hn1 : n ≤ 20000000000000) (hbuf : BufIs w ao xs) (R D k : Nat) (hR : R ≤ 40) (h1 : ((k : Int) == 1) = false) (h3 : ((k : Int) == 3) = true) :
    Calls Tryz.prog 17 #[.slice ao n cap, .int .i64 (R : Int), .int .i64 (D : Int), .int .i64 (k : Int)] w fun e w' => ∃ v ys, e = .returned (.tuple #[v, .agg (viewC R R).toArray]) ∧ SquareR w.heap.size R R true v ys w w' := by
  obtain ⟨i0, hi, hz0, hz1, hz2⟩ := info_parts Tryz.infoU64
  have HI := hid hi
  obtain ⟨b, hb⟩ : ∃ b, w.heap.size = b := ⟨_, rfl⟩
  rw [hb]
  have HBUF := hid hbuf
  clear hi hbuf
  obtain ⟨N, hN⟩ : ∃ N, R * R = N := ⟨_, rfl⟩
  have hNi : (R : Int) * (R : Int) = (N : Int) := by rw [← hN]; push_cast; rfl
  have hN1 : N ≤ 1600 := by rw [← hN]; exact Nat.mul_le_mul hR hR
  have HN := hid hN
  clear hN
  go_enter Tryz.func17, Tryz.ntmps17
  go_wp2
  go_loopw [11, 12] (fun vb vi wr => ∃ (i : Nat) (ys : List Nat), vi = .int .i64 (i : Int) ∧ i ≤ N ∧ Hid (ys.length = i) ∧ Hid (∀ y ∈ ys, y < 18446744073709551616) ∧ Hid (wr.ownsRow (b + 1) 65 1 vb i (u64s ys)) ∧ Hid (Below b w wr) ∧ Hid (Arr wr b 24 [.int .i64 0, .int .i64 0, .int .i64 0, .int .i64 0, .int .i64 0])) (fun _ vi _ => N - (intOf vi).toNat)
  case atStart =>
    refine ⟨0, [], rfl, by omega, rfl, by intro y hy; simp at hy, World.ownsRow_nil _ _ _ _, ?_, ?_⟩
    · rw [← hb]; exact Below.refl' _ _
    · rw [← hb]; exact Arr.newL w _ _
  case round =>
    obtain ⟨i, ys, rfl, hi, HL, HLT, HO, HB, HV⟩ := hrel
    by_cases hlt : i < N
    · have hlt' : (i : Int) < N := by omega
      have hsz : b + 1 ≤ wr.heap.size := by have := HV.out.lt; omega
      -- the number that is added
      have add : ∀ (v' : Value) (w2 : World) (x : Nat) (ob : Option Nat), (∀ q, ob = some q → b + 1 ≤ q) → x < 18446744073709551616 → w2.ownsRow (b + 1) 65 1 v' (i + 1) (u64s ys ++ [.int .u64 (x : Int)]) → (wr.alloc (.cells #[.int .u64 (x : Int)] 65)).grownBy w2 ob → Hid ((ys ++ [x]).length = i + 1) ∧ Hid (∀ y ∈ ys ++ [x], y < 18446744073709551616) ∧ Hid (w2.ownsRow (b + 1) 65 1 v' (i + 1) (u64s (ys ++ [x]))) ∧ Hid (Below b w w2) ∧ Hid (Arr w2 b 24 [.int .i64 0, .int .i64 0, .int .i64 0, .int .i64 0, .int .i64 0]) := by
        intro v' w2 x ob hob hx hown' hgrow
        have b2 : Below (b + 1) wr w2 := ((Below.refl _ wr).alloc hsz _).grown hgrow (by simp; omega) hob
        refine ⟨by show _ = _; rw [List.length_append, HL.out]; rfl, fun y hy => ?_, ?_, HB.out.trans (b2.mono (by omega)), HV.out.below b2 (by omega)⟩
        · rcases List.mem_append.1 hy with h | h
          · exact HLT.out y h
          · simp at h; omega
        · show World.ownsRow _ _ _ _ _ _ _
          rw [show u64s (ys ++ [x]) = u64s ys ++ [.int .u64 (x : Int)] by simp [u64s]]; exact hown'
      have HADD := hid add
      clear add
      by_cases hn0 : n = 0
      · subst hn0
        go_wp2_with (at_builtin; refine wpList_append_own _ rfl _ _ 22 rfl (b + 1) 65 i0 (.int .u64 0) 1 8 Tryz.underlying22 HI.out hz0 hz1 hz2 rfl (by decide) _ _ _ rfl (HO.out.alloc _) ⟨wr.heap.size, 0, none⟩ 1 1 [.int .u64 ((i : Int) * 4503599627370496)] rfl rfl ?_ ?_ ?_ ?_ ?_ ?_)
        · exact cell_one_new _ _ _
        · first | rfl | (intro u hu; simp at hu; subst hu; rfl)
        · unfold maxLen; omega
        · omega
        · first | omega | (simp; omega)
        · intro v' w2 hown' hgrow _
          have hout := HADD.out v' w2 (i * 4503599627370496) _ (fun q hq => (HO.out.lt q hq).1) (by omega) (by simpa using hown') (by simpa using hgrow)
          have HOUT := hid hout
          clear hout hown' hgrow
          go_wp2
          go_round
          case rel => exact ⟨i + 1, ys ++ [(i * 4503599627370496)], by simp, by omega, HOUT.out.1, HOUT.out.2.1, HOUT.out.2.2.1, HOUT.out.2.2.2.1, HOUT.out.2.2.2.2⟩
          case measure => simp [intOf]; omega
      · have hn0' : (0 : Int) < (n : Int) := by omega
        obtain ⟨q, hq⟩ : ∃ q : Nat, (i : Int) % (n : Int) = (q : Int) := ⟨i % n, by simp⟩
        have hqn : q < n := by have := Int.emod_lt_of_pos (i : Int) hn0'; omega
        obtain ⟨X, hX⟩ : ∃ X, xs[q]? = some X := ⟨xs[q]'(by omega), by simp [hn, hqn]⟩
        obtain ⟨hX64, ad, rfl, hg, hcell⟩ := HBUF.out q X hX
        have hcell1 : wr.cell? (ad.add q) = some (.int .u64 (X : Int)) := (HB.out.cell (p := ad.add q) (by rw [Go.ChangeShapes.block_add]; omega)).trans hcell
        clear hX hcell
        go_wp2_with (at_builtin; refine wpList_append_own _ rfl _ _ 22 rfl (b + 1) 65 i0 (.int .u64 0) 1 8 Tryz.underlying22 HI.out hz0 hz1 hz2 rfl (by decide) _ _ _ rfl (HO.out.alloc _) ⟨wr.heap.size, 0, none⟩ 1 1 [.int .u64 (X : Int)] rfl rfl ?_ ?_ ?_ ?_ ?_ ?_)
        · exact cell_one_new _ _ _
        · first | rfl | (intro u hu; simp at hu; subst hu; rfl)
        · unfold maxLen; omega
        · omega
        · first | omega | (simp; omega)
        · intro v' w2 hown' hgrow _
          have hout := HADD.out v' w2 X _ (fun q hq => (HO.out.lt q hq).1) hX64 (by simpa using hown') (by simpa using hgrow)
          have HOUT := hid hout
          clear hout hown' hgrow
          go_wp2
          go_round
          case rel => exact ⟨i + 1, ys ++ [X], by simp, by omega, HOUT.out.1, HOUT.out.2.1, HOUT.out.2.2.1, HOUT.out.2.2.2.1, HOUT.out.2.2.2.2⟩
          case measure => simp [intOf]; omega
    · have hlt' : ¬ (i : Int) < N := by omega
      have hiN : i = N := by omega
      rw [hiN] at HL HO
      clear hiN
      rcases ownsRow_nums HO.out HL.out with ⟨hu, hN0⟩ | ⟨g, cap', hu, hg, hnums⟩
      · subst hu
        have hR0 : R = 0 := by
          rcases Nat.eq_zero_or_pos R with h | h
          · exact h
          · have := Nat.mul_pos h h; have := HN.out; omega
        have HR0 := hid hR0
        have HFIN := hid (squareR_of (half := true) HN.out HL.out HLT.out (ownsRow_nums HO.out HL.out) (fun _ i j h => by omega) HB.out (.int .i64 (R : Int)) (.int .i64 (R : Int)) (.int .i64 0) (.int .i64 (R : Int)) (.int .i64 1))
        have HO2 := HO
        clear HO hN0 hR0
        go_wp2_with fail
        go_loopw [14] (fun vi wx => ∃ p : Nat, vi = .int .i64 (p : Int) ∧ wx = wr) (fun _ _ => 0)
        case atStart => exact ⟨0, rfl, rfl⟩
        case round =>
          obtain ⟨p, rfl, rfl⟩ := hrel
          have hpt' : ¬ (p : Int) < R := by have := HR0.out; omega
          have v0 := HV.out
          have c0 := v0.cell (i := 0) rfl
          have f0 := v0.frozen 0
          have v1 := v0.set 0 (.int .i64 (R : Int))
          have c1 := v1.cell (i := 1) rfl
          have f1 := v1.frozen 1
          have v2 := v1.set 1 (.int .i64 (R : Int))
          have c2 := v2.cell (i := 2) rfl
          have f2 := v2.frozen 2
          have v3 := v2.set 2 (.int .i64 0)
          have c3 := v3.cell (i := 3) rfl
          have f3 := v3.frozen 3
          have v4 := v3.set 3 (.int .i64 (R : Int))
          have c4 := v4.cell (i := 4) rfl
          have f4 := v4.frozen 4
          have v5 := v4.set 4 (.int .i64 1)
          have d0 := v5.cell (i := 0) rfl
          have d1 := v5.cell (i := 1) rfl
          have d2 := v5.cell (i := 2) rfl
          have d3 := v5.cell (i := 3) rfl
          have d4 := v5.cell (i := 4) rfl
          clear v0 v1 v2 v3 v4 v5
          go_wp2
          refine bodyPost_ret (v := .tuple #[.slice none 0 0, .agg #[.int .i64 (R : Int), .int .i64 (R : Int), .int .i64 0, .int .i64 (R : Int), .int .i64 1]]) ?_ rfl (by first | exact ⟨_, ys, rfl, HFIN.out⟩ | exact ⟨_, rfl, ys, HFIN.out⟩)
          simp [results, Tryz.results17, go_sem, *]
      · subst hu
        have HG := hid hnums
        clear hnums HO
        go_wp2_with fail
        go_loopw [14] (fun vi wx => ∃ (p : Nat) (zs : List Nat), vi = .int .i64 (p : Int) ∧ p ≤ R ∧ Hid (zs.length = N) ∧ Hid (∀ y ∈ zs, y < 18446744073709551616) ∧ Hid (NumsIn wx g zs) ∧ Hid (SymTo R zs p 0) ∧ Hid (Below b w wx) ∧ Hid (Arr wx b 24 [.int .i64 0, .int .i64 0, .int .i64 0, .int .i64 0, .int .i64 0])) (fun vi _ => R - (intOf vi).toNat)
        case atStart => exact ⟨0, ys, rfl, by omega, HL, HLT, HG, fun a b h1 h2 h3 => by omega, HB, HV⟩
        case round =>
          clear HL HLT HG HB HV hlt hlt'
          obtain ⟨p, zs, rfl, hp, HL, HLT, HG, HSY, HB, HV⟩ := hrel
          by_cases hpt : p < R
          · have hpt' : (p : Int) < R := by omega
            go_wp2_with fail
            go_loopw [15] (fun vj wy => ∃ (j : Nat) (us : List Nat), vj = .int .i64 (j : Int) ∧ j ≤ p ∧ Hid (us.length = N) ∧ Hid (∀ y ∈ us, y < 18446744073709551616) ∧ Hid (NumsIn wy g us) ∧ Hid (SymTo R us p j) ∧ Hid (Below b w wy) ∧ Hid (Arr wy b 24 [.int .i64 0, .int .i64 0, .int .i64 0, .int .i64 0, .int .i64 0])) (fun vj _ => p - (intOf vj).toNat)
            case atStart => exact ⟨0, zs, rfl, by omega, HL, HLT, HG, HSY, HB, HV⟩
            case round =>
              clear HL HLT HG HB HV HSY
              obtain ⟨j, us, rfl, hj, HL, HLT, HG, HSY, HB, HV⟩ := hrel
              by_cases hjt : j < p
              · have hjt' : (j : Int) < p := by omega
                obtain ⟨P, hP⟩ : ∃ P : Nat, (p : Int) * (R : Int) = (P : Int) := ⟨p * R, by push_cast; rfl⟩
                obtain ⟨Q, hQ⟩ : ∃ Q : Nat, (j : Int) * (R : Int) = (Q : Int) := ⟨j * R, by push_cast; rfl⟩
                have eP : p * R = P := by have : ((p * R : Nat) : Int) = P := by push_cast; exact hP
                                          omega
                have eQ : j * R = Q := by have : ((j * R : Nat) : Int) = Q := by push_cast; exact hQ
                                          omega
                have lP : P + j < N := by have := idx_lt (R := R) (C := R) hpt (show j < R by omega); have := HN.out; omega
                have lQ : Q + p < N := by have := idx_lt (R := R) (C := R) (show j < R by omega) hpt; have := HN.out; omega
                have lP' : (P : Int) + j < N := by omega
                have lQ' : (Q : Int) + p < N := by omega
                obtain ⟨L, hA, hLs⟩ := HG.out
                obtain ⟨y, hy⟩ : ∃ y, us[Q + p]? = some y := ⟨us[Q + p]'(by rw [HL.out]; omega), by simp⟩
                obtain ⟨z, hz⟩ : ∃ z, us[P + j]? = some z := ⟨us[P + j]'(by rw [HL.out]; omega), by simp⟩
                have k1 := hA.cell (hLs _ _ hy)
                have k2 := hA.cell (hLs _ _ hz)
                have fz := hA.frozen (P + j)
                have hgb : g ≠ b := by omega
                have HNX : Hid ((us.set (P + j) y).length = N) := by show _ = _; rw [List.length_set]; exact HL.out
                have HLX : Hid (∀ q ∈ us.set (P + j) y, q < 18446744073709551616) := fun q hq => by
                  rcases List.mem_or_eq_of_mem_set hq with h | h
                  · exact HLT.out q h
                  · rw [h]; exact HLT.out y (List.mem_of_getElem? hy)
                have HGX : Hid (NumsIn (wr.setCell ⟨g, P + j, none⟩ (.int .u64 (y : Int))) g (us.set (P + j) y)) := by
                  refine ⟨L.set (P + j) (.int .u64 (y : Int)), hA.set _ _, fun q x hq => ?_⟩
                  rw [List.getElem?_set] at hq ⊢
                  by_cases e : P + j = q
                  · subst e
                    have hLl : P + j < L.length := (List.getElem?_eq_some_iff.1 (hLs _ _ hz)).1
                    rw [if_pos rfl, if_pos (by rw [HL.out]; exact lP)] at hq
                    rw [if_pos rfl, if_pos hLl]
                    cases hq; rfl
                  · rw [if_neg e] at hq ⊢
                    exact hLs q x hq
                have HSX : Hid (SymTo R (us.set (P + j) y) p (j + 1)) := by
                  have := HSY.out.step hpt hjt (show us[j * R + p]? = some y by rw [eQ]; exact hy) (by rw [HL.out, ← HN.out]; exact Nat.le_refl _)
                  rw [eP] at this
                  exact this
                have HBX : Hid (Below b w (wr.setCell ⟨g, P + j, none⟩ (.int .u64 (y : Int)))) := HB.out.setCell (p := ⟨g, P + j, none⟩) (by show b ≤ g; omega) _
                have HVX : Hid (Arr (wr.setCell ⟨g, P + j, none⟩ (.int .u64 (y : Int))) b 24 [.int .i64 0, .int .i64 0, .int .i64 0, .int .i64 0, .int .i64 0]) := HV.out.other _ (Ne.symm hgb)
                clear hA hLs hy hz HL HLT HG HSY HB HV eP eQ
                go_wp2
                go_round
                case rel => exact ⟨j + 1, us.set (P + j) y, by simp, by omega, HNX, HLX, HGX, HSX, HBX, HVX⟩
                case measure => simp [intOf]; omega
              · have hjt' : ¬ (j : Int) < p := by omega
                have HSX : Hid (SymTo R us (p + 1) 0) := HSY.out.row (by omega)
                go_wp2
                go_round
                case rel => exact ⟨p + 1, us, by simp, by omega, HL, HLT, HG, HSX, HB, HV⟩
                case measure => simp [intOf]; omega
          · have hpt' : ¬ (p : Int) < R := by omega
            have HFIN := hid (squareR_of (half := true) HN.out HL.out HLT.out (.inr ⟨g, cap', rfl, hg, HG.out⟩) (fun _ => HSY.out.all (by omega)) HB.out (.int .i64 (R : Int)) (.int .i64 (R : Int)) (.int .i64 0) (.int .i64 (R : Int)) (.int .i64 1))
            clear HSY HG HL HLT
            have v0 := HV.out
            have c0 := v0.cell (i := 0) rfl
            have f0 := v0.frozen 0
            have v1 := v0.set 0 (.int .i64 (R : Int))
            have c1 := v1.cell (i := 1) rfl
            have f1 := v1.frozen 1
            have v2 := v1.set 1 (.int .i64 (R : Int))
            have c2 := v2.cell (i := 2) rfl
            have f2 := v2.frozen 2
            have v3 := v2.set 2 (.int .i64 0)
            have c3 := v3.cell (i := 3) rfl
            have f3 := v3.frozen 3
            have v4 := v3.set 3 (.int .i64 (R : Int))
            have c4 := v4.cell (i := 4) rfl
            have f4 := v4.frozen 4
            have v5 := v4.set 4 (.int .i64 1)
            have d0 := v5.cell (i := 0) rfl
            have d1 := v5.cell (i := 1) rfl
            have d2 := v5.cell (i := 2) rfl
            have d3 := v5.cell (i := 3) rfl
            have d4 := v5.cell (i := 4) rfl
            clear v0 v1 v2 v3 v4 v5
            go_wp2
            refine bodyPost_ret (v := .tuple #[.slice (some ⟨g, 0, none⟩) N cap', .agg #[.int .i64 (R : Int), .int .i64 (R : Int), .int .i64 0, .int .i64 (R : Int), .int .i64 1]]) ?_ rfl (by first | exact ⟨_, zs, rfl, HFIN.out⟩ | exact ⟨_, rfl, zs, HFIN.out⟩)
            simp [results, Tryz.results17, go_sem, *]


theorem square_half (w : World) (ao : Option Addr) (n cap : Nat) (xs : List Nat) (hn : xs.length = n) (hn1 : n ≤ 20000000000000) (hbuf : BufIs w ao xs) (R D k : Nat) (hR : R ≤ 40) (hk : k = 1 ∨ k = 3) :
    Calls Tryz.prog 17 #[.slice ao n cap, .int .i64 (R : Int), .int .i64 (D : Int), .int .i64 (k : Int)] w fun e w' => ∃ v ys, e = .returned (.tuple #[v, .agg (viewC R R).toArray]) ∧ SquareR w.heap.size R R true v ys w w' := by
  rcases hk with rfl | rfl
  · exact square_one w ao n cap xs hn hn1 hbuf R D 1 hR rfl
  · exact square_three w ao n cap xs hn hn1 hbuf R D 3 hR rfl rfl

end Go.Proofs.YthdcceackfdbbaaGreatDoor
/- Own text: what file gives of a matrix of the laws. -/
namespace Go.Proofs.YthdcceackfdbbaaGreatDoor
open Go Go.RowKit

theorem canon_canon (x : Nat) : canon (canon x) = canon x := by
  unfold canon
  split
  · decide
  · rfl

theorem ent_len2 {kind : Nat} {y : Nat × Nat × Nat} (h1 : y.1 ≤ 40) (h2 : y.2.1 ≤ 40) (h3 : (prL y.2.2).length ≤ 24) : (lineL (entW kind y)).length ≤ 60 := by
  have d1 := dd_small (n := y.1 + 1) (by omega)
  have d2 := dd_small (n := y.2.1 + 1) (by omega)
  unfold lineL entW
  split
  · simp [Lib.join_cons, Lib.joinTail]; omega
  · simp [Lib.join_one]; omega

theorem bodyL_len2 {kind : Nat} {es : List (Nat × Nat × Nat)} (h : ∀ y ∈ es, (lineL (entW kind y)).length ≤ 60) : (bodyL kind es).length ≤ 60 * es.length := by
  induction es with
  | nil => simp [bodyL]
  | cons y r ih =>
    have h1 := h y (by simp)
    have h2 := ih (fun z hz => h z (by simp [hz]))
    simp only [bodyL, List.flatMap_cons, List.length_append, List.length_cons] at h2 ⊢
    omega

theorem textL_len2 {kind R C : Nat} {f : Nat → Nat → Nat} (hR : R ≤ 40) (hC : C ≤ 40) (hf : ∀ i j, (prL (f i j)).length ≤ 24) : 1 ≤ (textL kind R C f).length ∧ (textL kind R C f).length ≤ 100000 := by
  have hRC : R * C ≤ 40 * 40 := Nat.mul_le_mul hR hC
  have h1 := first_len kind
  have h0 := entL_len kind R C f
  have h2 := siz_len (kind := kind) hR hC (n := (entL kind R C f).length) (by omega)
  have h3 := bodyL_len2 (kind := kind) (es := entL kind R C f) (fun y hy => by
    have hm := entL_mem hy
    exact ent_len2 (by omega) (by omega) (by rw [hm.2.2]; exact hf _ _))
  have h4 : 1 ≤ (lineL (firstW kind)).length := by unfold lineL; simp
  unfold textL
  simp only [List.length_append]
  omega

/-- the file of such a matrix -/
theorem file_ok {ys : List Nat} {R C k : Nat} (hlen : ys.length = R * C) (hlt : ∀ y ∈ ys, y < 18446744073709551616) (hR : R ≤ 40) (hC : C ≤ 40) (hk : k ≤ 5) (hh : k = 1 ∨ k = 3 → C = R) (hs : k = 1 ∨ k = 3 → ∀ i j, i < R → j < C → ys[i * C + j]? = ys[j * C + i]?)
    (hpr : ∀ x, x < 18446744073709551616 → PrintOk x (prL x) ∧ (prL x).length ≤ 100) :
    ∃ L, fileL ys (R : Int) (C : Int) 0 (C : Int) 1 (k : Int) = (L, 0) ∧ ReadsTo L k R C (seenF ys 0 (C : Int) 1) ∧ 1 ≤ L.length ∧ L.length ≤ 100000 ∧ (k = 4 ∨ k = 5 → L = boxL k R C (seenF ys 0 (C : Int) 1)) := by
  have hRC : R * C ≤ 40 * 40 := Nat.mul_le_mul hR hC
  have hfit : FitV (R : Int) (C : Int) 0 (C : Int) 1 ys.length := by
    refine ⟨by omega, by omega, by omega, .inr (.inr ?_)⟩
    have := fit_rows (R := R) (C := C) (d := 1) (o := 0) (n := ys.length) (by omega) (by omega)
    simpa using this
  have hf : ∀ i j, seenF ys 0 (C : Int) 1 i j < 18446744073709551616 := seenF_lt hlt 0 C 1
  have hcn : ∀ i j, canon (seenF ys 0 (C : Int) 1 i j) = seenF ys 0 (C : Int) 1 i j := fun i j => by unfold seenF; exact canon_canon _
  have hat : ∀ i j, seenF ys 0 (C : Int) 1 i j = canon (ys.getD (i * C + j) 0) := by
    intro i j
    unfold seenF
    congr 2
    have : (0 : Int) + i * C + j * 1 = ((i * C + j : Nat) : Int) := by push_cast; omega
    rw [this, Int.toNat_natCast]
  have hsym : k = 1 ∨ k = 3 → SymM R (seenF ys 0 (C : Int) 1) := by
    intro h i j hi hj _
    have e := hh h
    subst e
    rw [hat, hat, List.getD_eq_getElem?_getD, List.getD_eq_getElem?_getD, hs h j i hj hi]
  have hpl : ∀ i j, (prL (seenF ys 0 (C : Int) 1 i j)).length ≤ 24 := fun i j => (scan_print (hf i j) (hpr _ (hf i j)).1).2.2
  unfold fileL
  rw [if_neg (fun h => h hfit), if_neg (fun h => h (by omega)), if_neg (by rintro ⟨h1, h2⟩; have := hh (by omega); omega), if_neg (by rintro ⟨h1, h2⟩; exact h2 (by simpa using hsym (by omega)))]
  by_cases hb : k = 4 ∨ k = 5
  · rw [if_pos (by omega)]
    simp only [Int.toNat_natCast]
    have h0 := (boxS_of (f := seenF ys 0 (C : Int) 1) hb hR hC).length
    exact ⟨_, rfl, box_reads hb hR hC hf hcn, by omega, by omega, fun _ => rfl⟩
  · rw [if_neg (by omega)]
    simp only [Int.toNat_natCast]
    have h0 := textL_len2 (kind := k) (f := seenF ys 0 (C : Int) 1) hR hC hpl
    exact ⟨_, rfl, text_reads (by omega) hR hC (fun h => ⟨(hh h).symm, hsym h⟩) hf hcn hpr, h0.1, h0.2, fun h => (hb h).elim⟩

end Go.Proofs.YthdcceackfdbbaaGreatDoor
