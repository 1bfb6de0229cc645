import Derived.Test.YthdcceackfdbbaaGreatDoorM15W

/- Walks over the reference: scaled, magnitude, within. Own text. -/
namespace Go.Proofs.YthdcceackfdbbaaGreatDoor
open Go.RowKit
attribute [local go_sem ↓] Go.wp_at_zero Go.wp_at_succ

theorem smallB_c (a k : Nat) (h : a < 2 ^ k) (hk : k ≤ 8700) : SmallB a := SmallB.of_lt h hk

theorem smallB_shift {a k n : Nat} (h : bl a ≤ k) (hk : k + n ≤ 8700) : SmallB (a * 2 ^ n) := smallB_of_bl (k := k + n) (Nat.le_trans (bl_shift a n) (by omega)) hk

theorem nb_iff {s : Nat} (hs : s < 9218868437227405312) : nbS s = decide (mS s = 4503599627370496 ∧ -1074 < eS s) := by
  rw [(size_eq hs).2.2.2.1]
  congr 1
  apply propext
  have := eS_bd hs
  unfold nS
  constructor <;> rintro ⟨h1, h2⟩ <;> exact ⟨h1, by omega⟩

/-- Four empty slices lie in block g. -/
structure Nil4 (w : World) (g : Nat) : Prop where
  lt : g < w.heap.size
  fr : ∀ i, w.frozen? ⟨g, i, none⟩ = false
  c0 : w.cell? ⟨g, 0, none⟩ = some (.slice none 0 0)
  c1 : w.cell? ⟨g, 1, none⟩ = some (.slice none 0 0)
  c2 : w.cell? ⟨g, 2, none⟩ = some (.slice none 0 0)
  c3 : w.cell? ⟨g, 3, none⟩ = some (.slice none 0 0)

theorem Nil4.below {w w' : World} {g : Nat} (h : Nil4 w g) (hb : Below w.heap.size w w') : Nil4 w' g := by
  obtain ⟨hc, hf⟩ := bcell hb
  exact ⟨Nat.lt_of_lt_of_le h.lt hb.size, fun i => (hf g i h.lt).trans (h.fr i), (hc g 0 h.lt).trans h.c0, (hc g 1 h.lt).trans h.c1, (hc g 2 h.lt).trans h.c2, (hc g 3 h.lt).trans h.c3⟩

theorem Nil4.set {w : World} {g g' : Nat} (h : Nil4 w g) (hne : g ≠ g') (j : Nat) (v : Value) : Nil4 (w.setCell ⟨g', j, none⟩ v) g :=
  ⟨by simpa using h.lt, fun i => by simpa using h.fr i, (World.cell?_setCell_other _ _ _ _ (by intro he; injection he with he; exact hne he.symm)).trans h.c0, (World.cell?_setCell_other _ _ _ _ (by intro he; injection he with he; exact hne he.symm)).trans h.c1, (World.cell?_setCell_other _ _ _ _ (by intro he; injection he with he; exact hne he.symm)).trans h.c2, (World.cell?_setCell_other _ _ _ _ (by intro he; injection he with he; exact hne he.symm)).trans h.c3⟩

/-- The four numbers, laid into block g. -/
theorem laid4 {w : World} {g : Nat} {v0 v1 v2 v3 : Value} {S B A D g' : Nat} (n4 : Nil4 w g) (sp : SpnB w g' v0 v1 v2 v3 S B A D) (h0 : S ≠ 0) (h1 : B ≠ 0) (h2 : A ≠ 0) (h3 : D ≠ 0) :
    RepB ((((w.setCell ⟨g, 0, none⟩ v0).setCell ⟨g, 1, none⟩ v1).setCell ⟨g, 2, none⟩ v2).setCell ⟨g, 3, none⟩ v3) 0 v0 S ∧ RepB ((((w.setCell ⟨g, 0, none⟩ v0).setCell ⟨g, 1, none⟩ v1).setCell ⟨g, 2, none⟩ v2).setCell ⟨g, 3, none⟩ v3) 0 v1 B ∧
    RepB ((((w.setCell ⟨g, 0, none⟩ v0).setCell ⟨g, 1, none⟩ v1).setCell ⟨g, 2, none⟩ v2).setCell ⟨g, 3, none⟩ v3) 0 v2 A ∧ RepB ((((w.setCell ⟨g, 0, none⟩ v0).setCell ⟨g, 1, none⟩ v1).setCell ⟨g, 2, none⟩ v2).setCell ⟨g, 3, none⟩ v3) 0 v3 D :=
  ⟨(((((numB_off sp.n0.1 h0 n4.c0).set 0 _).set 1 _).set 2 _).set 3 _).1, (((((numB_off sp.n1.1 h1 n4.c0).set 0 _).set 1 _).set 2 _).set 3 _).1, (((((numB_off sp.n2.1 h2 n4.c0).set 0 _).set 1 _).set 2 _).set 3 _).1, (((((numB_off sp.n3.1 h3 n4.c0).set 0 _).set 1 _).set 2 _).set 3 _).1⟩

theorem below4 {w w' : World} {g : Nat} (h : Below g w w') (v0 v1 v2 v3 : Value) : Below g w ((((w'.setCell ⟨g, 0, none⟩ v0).setCell ⟨g, 1, none⟩ v1).setCell ⟨g, 2, none⟩ v2).setCell ⟨g, 3, none⟩ v3) :=
  (((h.setCell (p := ⟨g, 0, none⟩) (Nat.le_refl _) _).setCell (p := ⟨g, 1, none⟩) (Nat.le_refl _) _).setCell (p := ⟨g, 2, none⟩) (Nat.le_refl _) _).setCell (p := ⟨g, 3, none⟩) (Nat.le_refl _) _

set_option maxRecDepth 20000 in
set_option maxHeartbeats 3200000 in
theorem scaled_any (w : World) (s : Nat) (h0 : s ≠ 0) (hs : s < 9218868437227405312) :
    Calls Tryz.prog 132 #[.int .u64 (s : Int)] w fun e w' => ∃ a0 k0 p0 a1 k1 p1 a2 k2 p2 a3 k3 p3, e = .returned (.agg #[.slice a0 k0 p0, .slice a1 k1 p1, .slice a2 k2 p2, .slice a3 k3 p3]) ∧
      RepB w' 0 (.slice a0 k0 p0) (sizeS s) ∧ RepB w' 0 (.slice a1 k1 p1) (belowS s) ∧ RepB w' 0 (.slice a2 k2 p2) (aboveS s) ∧ RepB w' 0 (.slice a3 k3 p3) (oneS s) ∧ Below w.heap.size w w' := by
  have hm := mS_lt s
  have hm0 := mS_ne h0
  obtain ⟨he1, he2⟩ := eS_bd hs
  have HS : Hid (sizeS s = mS s * 4 * 2 ^ (eS s).toNat) := by unfold Hid sizeS qS; rw [Nat.mul_assoc]
  have HB : Hid (belowS s = (if nbS s then 1 else 2) * 2 ^ (eS s).toNat) := by unfold Hid belowS qS; split <;> simp
  have HA : Hid (aboveS s = 2 * 2 ^ (eS s).toNat) := rfl
  have HO : Hid (oneS s = 4 * 2 ^ (-eS s).toNat) := rfl
  have HNB : Hid (nbS s = decide (mS s = 4503599627370496 ∧ -1074 < eS s)) := nb_iff hs
  go_enter Tryz.func132, Tryz.ntmps132
  go_wp2_with fail
  refine (refparts_any _ s hs).mono ?_
  rintro e w1 ⟨rfl, rfl⟩
  generalize mS s = m at *
  generalize eS s = ee at *
  go_wp2_with fail
  refine (small_form _ m (by omega)).mono ?_
  rintro e w2 ⟨a2, k2, p2, rfl, r2, b2⟩
  go_wp2_with fail
  refine (times_form _ _ m 4 _ (r2.base (Nat.zero_le _)) (smallB_c m 53 (by omega) (by omega)) (by omega) rfl).mono ?_
  rintro e w3 ⟨a3, k3, p3, rfl, r3, b3⟩
  go_wp2_with fail
  refine (small_form _ 2 (by omega)).mono ?_
  rintro e w4 ⟨a4, k4, p4, rfl, r4, b4⟩
  go_wp2_with fail
  refine (small_form _ 2 (by omega)).mono ?_
  rintro e w5 ⟨a5, k5, p5, rfl, r5, b5⟩
  go_wp2_with fail
  refine (small_form _ 4 (by omega)).mono ?_
  rintro e w6 ⟨a6, k6, p6, rfl, r6, b6⟩
  have z3 := Nat.le_trans b2.size b3.size
  have z4 := Nat.le_trans z3 b4.size
  have z5 := Nat.le_trans z4 b5.size
  have z6 := Nat.le_trans z5 b6.size
  have bAll := ((((b2.trans (b3.mono b2.size)).trans (b4.mono z3)).trans (b5.mono z4)).trans (b6.mono z5))
  have hlt6 : w.heap.size < w6.heap.size := Nat.lt_of_lt_of_le (by simp) z6
  have bel6 : Below w.heap.size w w6 := ((Below.refl _ _).alloc (Nat.le_refl _) _).trans (bAll.mono (by simp))
  have n46 : Nil4 w6 w.heap.size := by
    obtain ⟨hcl, hfr⟩ := bcell bAll
    refine ⟨hlt6, fun i => (hfr w.heap.size i (by simp)).trans (by simp), (hcl w.heap.size 0 (by simp)).trans (by simp), (hcl w.heap.size 1 (by simp)).trans (by simp), (hcl w.heap.size 2 (by simp)).trans (by simp), (hcl w.heap.size 3 (by simp)).trans (by simp)⟩
  go_upto_region 3 with fail
  have hb7 := (Below.refl w6.heap.size w6).alloc (Nat.le_refl _) (.cells #[.slice a3 k3 p3, .slice a4 k4 p4, .slice a5 k5 p5, .slice a6 k6 p6] 190)
  have sp : SpnB (w6.alloc (.cells #[.slice a3 k3 p3, .slice a4 k4 p4, .slice a5 k5 p5, .slice a6 k6 p6] 190)) w6.heap.size (.slice a3 k3 p3) (.slice a4 k4 p4) (.slice a5 k5 p5) (.slice a6 k6 p6) (m * 4) 2 2 4 :=
    ⟨by simp, by intro i; simp, by simp, by simp, by simp, by simp, (numB_old (((r3.below b4).below b5).below b6) (Nat.le_refl _)).below hb7, (numB_old ((r4.below b5).below b6) (Nat.le_refl _)).below hb7, (numB_old (r5.below b6) (Nat.le_refl _)).below hb7, (numB_old r6 (Nat.le_refl _)).below hb7⟩
  have n4 := n46.below hb7
  have bel : Below w.heap.size w (w6.alloc (.cells #[.slice a3 k3 p3, .slice a4 k4 p4, .slice a5 k5 p5, .slice a6 k6 p6] 190)) := bel6.trans (hb7.mono (Nat.le_of_lt hlt6))
  generalize hW : w6.alloc (.cells #[.slice a3 k3 p3, .slice a4 k4 p4, .slice a5 k5 p5, .slice a6 k6 p6] 190) = W at *
  generalize hgg : w6.heap.size = g at *
  have hgw : w.heap.size < g := hlt6
  obtain ⟨c, hc⟩ : ∃ c : Nat, c = if nbS s then 1 else 2 := ⟨_, rfl⟩
  have hc12 : c = 1 ∨ c = 2 := by rw [hc]; split <;> simp
  have HC : Hid (c = if decide (m = 4503599627370496 ∧ -1074 < ee) then 1 else 2) := by unfold Hid; rw [hc, HNB.out]
  have HB' : Hid (belowS s = c * 2 ^ ee.toNat) := by unfold Hid; rw [HB.out, hc]
  have HSP := Hid.mk' sp
  have HN4 := Hid.mk' n4
  have HBE := Hid.mk' bel
  have hltW := sp.lt
  have y1 := sp.c1
  have f1 := sp.fr 1
  clear HB hc HNB r2 r3 r4 r5 r6 b2 b3 b4 b5 b6 z3 z4 z5 z6 bAll hlt6 bel6 n46 hb7 sp n4 bel hW hgg
  obtain ⟨nb, hnb⟩ : ∃ nb : Bool, nb = decide (m = 4503599627370496 ∧ -1074 < ee) := ⟨_, rfl⟩
  have HC' : Hid (c = if nb then 1 else 2) := by unfold Hid; rw [HC.out, hnb]
  have HNB := Hid.mk' hnb
  clear HC hnb
  go_cut [23] from 18 to 22 (fun t wx => t = .bool nb ∧ wx = W)
  case first =>
    by_cases c1 : m = 4503599627370496
    · have q1 : ((m : Int) == 4503599627370496) = true := by simp; omega
      by_cases c2 : -1074 < ee
      · have q2 : decide (-1074 < ee) = true := by simp; omega
        have C1 := Hid.mk' c1
        clear c1
        go_wp2_with fail
        go_meet
        exact ⟨by rw [HNB.out, decide_eq_true ⟨C1.out, c2⟩], rfl⟩
      · have q2 : decide (-1074 < ee) = false := by simp; omega
        clear c1
        go_wp2_with fail
        go_meet
        exact ⟨by rw [HNB.out, decide_eq_false (by intro h; have := h.2; omega)], rfl⟩
    · have q1 : ((m : Int) == 4503599627370496) = false := by simp; omega
      go_wp2_with fail
      go_meet
      exact ⟨by rw [HNB.out, decide_eq_false (fun h => c1 h.1)], rfl⟩
  case rest =>
  obtain ⟨rfl, rfl⟩ := hcut
  apply_assumption
  go_cut [] from 24 to 25 (fun wx => ∃ a k p, SpnB wx g (.slice a3 k3 p3) (.slice a k p) (.slice a5 k5 p5) (.slice a6 k6 p6) (m * 4) c 2 4 ∧ Nil4 wx w.heap.size ∧ Below w.heap.size w wx)
  case first =>
    cases nb
    · have hcc : c = 2 := HC'.out
      go_wp2_with fail
      go_meet
      exact ⟨_, _, _, by rw [hcc]; exact HSP.out, HN4.out, HBE.out⟩
    · have hcc : c = 1 := HC'.out
      go_wp2_with fail
      refine (small_form _ 1 (by omega)).mono ?_
      rintro e w7 ⟨a7, k7, p7, rfl, r7, b7⟩
      have y1' := (b7.cell (p := ⟨g, 1, none⟩) hltW).trans y1
      have f1' := (b7.frozen (p := ⟨g, 1, none⟩) hltW).trans f1
      go_wp2_with fail
      go_meet
      refine ⟨a7, k7, p7, ?_, ((HN4.out.below b7).set (Nat.ne_of_lt hgw) _ _), (HBE.out.trans (b7.mono (Nat.le_of_lt (Nat.lt_trans hgw hltW)))).setCell (p := ⟨g, 1, none⟩) (Nat.le_of_lt hgw) _⟩
      rw [hcc]
      exact (HSP.out.below b7).set1 (numB_new r7 hltW)
  case rest =>
  clear HSP HN4 HBE hltW y1 f1 HC' HNB
  obtain ⟨a, k, p, sp, n4, bel⟩ := hcut
  have hne := Nat.ne_of_lt hgw
  have hlc := sp.lt
  have HN0 := Hid.mk' sp
  have HN4 := Hid.mk' n4
  have HBE := Hid.mk' bel
  have ne4 : m * 4 ≠ 0 := by omega
  have nec : c ≠ 0 := by omega
  have blm : bl (m * 4) ≤ 55 := bl_le (n := m * 4) (k := 55) (by omega)
  have blc : bl c ≤ 2 := bl_le (n := c) (k := 2) (by omega)
  have bl2 : bl 2 ≤ 2 := bl_le (n := 2) (k := 2) (by omega)
  have bl4 : bl 4 ≤ 3 := bl_le (n := 4) (k := 3) (by omega)
  by_cases hpos : 0 < ee
  · obtain ⟨n, hn⟩ : ∃ n : Nat, ee = (n : Int) := ⟨ee.toNat, by omega⟩
    have hqp : decide (0 < ee) = true := by simp; omega
    have hn2 : n ≤ 971 := by omega
    have HN : Hid (ee.toNat = n ∧ (-ee).toNat = 0) := ⟨by omega, by omega⟩
    have HE : Hid (ee = (n : Int)) := hn
    have y0 := sp.c0
    clear sp n4 bel hn
    go_wp2_with fail
    refine (power2_num wc g (.slice a3 k3 p3) (m * 4) n ee HN0.out.n0 hlc y0 ne4 (by omega) HE.out (smallB_shift blm (by omega))).mono ?_
    rintro e w8 ⟨a8, k8, p8, rfl, r8, b8⟩
    have y0' := (b8.cell (p := ⟨g, 0, none⟩) hlc).trans y0
    have f0' := (b8.frozen (p := ⟨g, 0, none⟩) hlc).trans (HN0.out.fr 0)
    go_upto_region 7 with fail
    have sp1 := (HN0.out.below b8).set0 r8
    have n41 := (HN4.out.below b8).set hne 0 (.slice a8 k8 p8)
    have bel1 := (HBE.out.trans (b8.mono (Nat.le_of_lt (Nat.lt_trans hgw hlc)))).setCell (p := ⟨g, 0, none⟩) (Nat.le_of_lt hgw) (.slice a8 k8 p8)
    clear y0 y0' f0' HN0 HN4 HBE r8 b8 hlc
    generalize w8.setCell ⟨g, 0, none⟩ (.slice a8 k8 p8) = W1 at *
    have y1 := sp1.c1
    have f1 := sp1.fr 1
    have hlc := sp1.lt
    have HN0 := Hid.mk' sp1
    have HN4 := Hid.mk' n41
    have HBE := Hid.mk' bel1
    clear sp1 n41 bel1
    go_wp2_with fail
    refine (power2_num W1 g (.slice a k p) c n ee HN0.out.n1 hlc HN0.out.c0 nec (by omega) HE.out (smallB_shift blc (by omega))).mono ?_
    rintro e w9 ⟨a9, k9, p9, rfl, r9, b9⟩
    have y1' := (b9.cell (p := ⟨g, 1, none⟩) hlc).trans y1
    have f1' := (b9.frozen (p := ⟨g, 1, none⟩) hlc).trans f1
    go_upto_region 8 with fail
    have sp1 := (HN0.out.below b9).set1 r9
    have n41 := (HN4.out.below b9).set hne 1 (.slice a9 k9 p9)
    have bel1 := (HBE.out.trans (b9.mono (Nat.le_of_lt (Nat.lt_trans hgw hlc)))).setCell (p := ⟨g, 1, none⟩) (Nat.le_of_lt hgw) (.slice a9 k9 p9)
    clear y1 y1' f1 f1' HN0 HN4 HBE r9 b9 hlc
    generalize w9.setCell ⟨g, 1, none⟩ (.slice a9 k9 p9) = W2 at *
    have y2 := sp1.c2
    have f2 := sp1.fr 2
    have hlc := sp1.lt
    have HN0 := Hid.mk' sp1
    have HN4 := Hid.mk' n41
    have HBE := Hid.mk' bel1
    clear sp1 n41 bel1
    go_wp2_with fail
    refine (power2_num W2 g (.slice a5 k5 p5) 2 n ee HN0.out.n2 hlc HN0.out.c0 (by omega) (by omega) HE.out (smallB_shift bl2 (by omega))).mono ?_
    rintro e w10 ⟨a10, k10, p10, rfl, r10, b10⟩
    have y2' := (b10.cell (p := ⟨g, 2, none⟩) hlc).trans y2
    have f2' := (b10.frozen (p := ⟨g, 2, none⟩) hlc).trans f2
    go_upto_region 10 with fail
    have sp1 := (HN0.out.below b10).set2 r10
    have n41 := (HN4.out.below b10).set hne 2 (.slice a10 k10 p10)
    have bel1 := (HBE.out.trans (b10.mono (Nat.le_of_lt (Nat.lt_trans hgw hlc)))).setCell (p := ⟨g, 2, none⟩) (Nat.le_of_lt hgw) (.slice a10 k10 p10)
    clear y2 y2' f2 f2' HN0 HN4 HBE r10 b10 hlc
    generalize w10.setCell ⟨g, 2, none⟩ (.slice a10 k10 p10) = W3 at *
    obtain ⟨z0, z1, z2, z3⟩ := laid4 n41 sp1 (Nat.mul_ne_zero ne4 (Nat.ne_of_gt (Nat.pow_pos (by omega)))) (Nat.mul_ne_zero nec (Nat.ne_of_gt (Nat.pow_pos (by omega)))) (Nat.mul_ne_zero (by omega) (Nat.ne_of_gt (Nat.pow_pos (by omega)))) (by omega)
    have hbel := below4 bel1 (.slice a8 k8 p8) (.slice a9 k9 p9) (.slice a10 k10 p10) (.slice a6 k6 p6)
    have e0 : sizeS s = m * 4 * 2 ^ n := by rw [HS.out, HN.out.1]
    have e1 : belowS s = c * 2 ^ n := by rw [HB'.out, HN.out.1]
    have e2 : aboveS s = 2 * 2 ^ n := by rw [HA.out, HN.out.1]
    have e3 : oneS s = 4 := by rw [HO.out, HN.out.2]
    rw [← e0] at z0
    rw [← e1] at z1
    rw [← e2] at z2
    rw [← e3] at z3
    have Z := Hid.mk' (And.intro z0 (And.intro z1 (And.intro z2 (And.intro z3 hbel))))
    have y0 := sp1.c0
    have y1 := sp1.c1
    have y2 := sp1.c2
    have y3 := sp1.c3
    have x0 := n41.c0
    have x1 := n41.c1
    have x2 := n41.c2
    have x3 := n41.c3
    have g0 := n41.fr 0
    have g1 := n41.fr 1
    have g2 := n41.fr 2
    have g3 := n41.fr 3
    clear z0 z1 z2 z3 hbel e0 e1 e2 e3 sp1 n41 bel1 HS HA HO HB' HN
    go_wp2_with fail
    refine bodyPost_ret (v := .agg #[.slice a8 k8 p8, .slice a9 k9 p9, .slice a10 k10 p10, .slice a6 k6 p6]) (by simp [results, Tryz.results132, go_sem, *]) rfl ⟨_, _, _, _, _, _, _, _, _, _, _, _, rfl, ?_⟩
    exact Z.out
  · obtain ⟨n, hn⟩ : ∃ n : Nat, -ee = (n : Int) := ⟨(-ee).toNat, by omega⟩
    have hqp : decide (0 < ee) = false := by simp; omega
    have hn2 : n ≤ 1074 := by omega
    have HN : Hid (ee.toNat = 0 ∧ (-ee).toNat = n) := ⟨by omega, by omega⟩
    have HE : Hid (-ee = (n : Int)) := hn
    have y3 := sp.c3
    clear sp n4 bel hn
    go_wp2_with fail
    refine (power2_num wc g (.slice a6 k6 p6) 4 n (-ee) HN0.out.n3 hlc HN0.out.c0 (by omega) (by omega) HE.out (smallB_shift bl4 (by omega))).mono ?_
    rintro e w8 ⟨a8, k8, p8, rfl, r8, b8⟩
    have y3' := (b8.cell (p := ⟨g, 3, none⟩) hlc).trans y3
    have f3' := (b8.frozen (p := ⟨g, 3, none⟩) hlc).trans (HN0.out.fr 3)
    go_upto_region 10 with fail
    have sp1 := (HN0.out.below b8).set3 r8
    have n41 := (HN4.out.below b8).set hne 3 (.slice a8 k8 p8)
    have bel1 := (HBE.out.trans (b8.mono (Nat.le_of_lt (Nat.lt_trans hgw hlc)))).setCell (p := ⟨g, 3, none⟩) (Nat.le_of_lt hgw) (.slice a8 k8 p8)
    clear y3 y3' f3' HN0 HN4 HBE r8 b8 hlc
    generalize w8.setCell ⟨g, 3, none⟩ (.slice a8 k8 p8) = W3 at *
    obtain ⟨z0, z1, z2, z3⟩ := laid4 n41 sp1 ne4 nec (by omega) (Nat.mul_ne_zero (by omega) (Nat.ne_of_gt (Nat.pow_pos (by omega))))
    have hbel := below4 bel1 (.slice a3 k3 p3) (.slice a k p) (.slice a5 k5 p5) (.slice a8 k8 p8)
    have e0 : sizeS s = m * 4 := by rw [HS.out, HN.out.1]; simp
    have e1 : belowS s = c := by rw [HB'.out, HN.out.1]; simp
    have e2 : aboveS s = 2 := by rw [HA.out, HN.out.1]
    have e3 : oneS s = 4 * 2 ^ n := by rw [HO.out, HN.out.2]
    rw [← e0] at z0
    rw [← e1] at z1
    have z2 : RepB ((((W3.setCell ⟨w.heap.size, 0, none⟩ (.slice a3 k3 p3)).setCell ⟨w.heap.size, 1, none⟩ (.slice a k p)).setCell ⟨w.heap.size, 2, none⟩ (.slice a5 k5 p5)).setCell ⟨w.heap.size, 3, none⟩ (.slice a8 k8 p8)) 0 (.slice a5 k5 p5) (aboveS s) := by rw [e2]; exact z2
    rw [← e3] at z3
    have Z := Hid.mk' (And.intro z0 (And.intro z1 (And.intro z2 (And.intro z3 hbel))))
    have y0 := sp1.c0
    have y1 := sp1.c1
    have y2 := sp1.c2
    have y3 := sp1.c3
    have x0 := n41.c0
    have x1 := n41.c1
    have x2 := n41.c2
    have x3 := n41.c3
    have g0 := n41.fr 0
    have g1 := n41.fr 1
    have g2 := n41.fr 2
    have g3 := n41.fr 3
    clear z0 z1 z2 z3 hbel e0 e1 e2 e3 sp1 n41 bel1 HS HA HO HB' HN
    go_wp2_with fail
    refine bodyPost_ret (v := .agg #[.slice a3 k3 p3, .slice a k p, .slice a5 k5 p5, .slice a8 k8 p8]) (by simp [results, Tryz.results132, go_sem, *]) rfl ⟨_, _, _, _, _, _, _, _, _, _, _, _, rfl, ?_⟩
    exact Z.out


theorem mag_start {s : Nat} {ln lb : List Nat} (hn : valB ln = sizeS s) (hb : valB lb = oneS s) (cn : Canon ln) (cb : WdsB lb) (hne : ln ≠ []) : leT s (9 * ((ln.length : Int) - lb.length) - 10) := by
  have hl : 1 ≤ ln.length := by have := List.length_pos_iff.2 hne; omega
  rw [leT_iff (a := 9 * lb.length + 1) (b := 9 * (ln.length - 1)) (by omega)]
  have h1 := canon_leB cn hne
  have h2 := val_ltB cb
  rw [hn] at h1
  rw [hb] at h2
  have e1 : (10 : Nat) ^ (9 * (ln.length - 1)) = 1000000000 ^ (ln.length - 1) := by rw [Nat.pow_mul]
  have e2 : (10 : Nat) ^ (9 * lb.length + 1) = 1000000000 ^ lb.length * 10 := by rw [Nat.pow_succ, Nat.pow_mul]
  rw [e1, e2]
  refine Nat.le_trans (Nat.mul_le_mul (Nat.le_of_lt h2) h1) ?_
  rw [Nat.mul_comm]
  exact Nat.mul_le_mul_left _ (Nat.le_mul_of_pos_right _ (by omega))

theorem ten_smallB {n : Nat} (h : n ≤ 2000) : SmallB (10 ^ n) := smallB_of_bl (k := 8001) (Nat.le_trans (ten_bl n) (by omega)) (by omega)

theorem ten_mulB {a k n : Nat} (h : bl a ≤ k) (hk : k + 4 * n + 1 ≤ 8700) : SmallB (a * 10 ^ n) := smallB_of_bl (k := k + 4 * n + 1) (by have := bl_mul a (10 ^ n); have := ten_bl n; omega) hk

set_option maxRecDepth 20000 in
set_option maxHeartbeats 3200000 in
theorem magnitude_any (w : World) (s : Nat) (h0 : s ≠ 0) (hs : s < 9218868437227405312) (a0 : Option Addr) (k0 p0 : Nat) (a1 : Option Addr) (k1 p1 : Nat) (a2 : Option Addr) (k2 p2 : Nat) (a3 : Option Addr) (k3 p3 : Nat)
    (r0 : RepB w 0 (.slice a0 k0 p0) (sizeS s)) (r3 : RepB w 0 (.slice a3 k3 p3) (oneS s)) :
    Calls Tryz.prog 134 #[.agg #[.slice a0 k0 p0, .slice a1 k1 p1, .slice a2 k2 p2, .slice a3 k3 p3]] w fun e w' => ∃ k : Int, e = .returned (.int .i64 k) ∧ leT s k ∧ ¬ leT s (k + 1) ∧ Below w.heap.size w w' := by
  obtain ⟨bS, _, _, bO⟩ := size_bl hs
  obtain ⟨l0, o0, c0, e0, _⟩ := r0.own (smallB_of_bl bS (by omega))
  obtain ⟨l3, o3, c3, e3, _⟩ := r3.own (smallB_of_bl bO (by omega))
  have hk0 := o0.lenW
  have hk3 := o3.lenW
  have hl0 : l0.length ≤ 36 := canon_len_bl c0 (by rw [e0]; omega)
  have hl3 : l3.length ≤ 38 := canon_len_bl c3 (by rw [e3]; omega)
  have hn0 : l0 ≠ [] := by intro h; subst h; have := size_ne h0; simp [valB] at e0; omega
  have hn3 : l3 ≠ [] := by intro h; subst h; have := one_ne s; simp [valB] at e3; omega
  have hp0 := List.length_pos_iff.2 hn0
  have hp3 := List.length_pos_iff.2 hn3
  have hst : leT s (9 * ((k0 : Int) - k3) - 10) := by rw [hk0, hk3]; exact mag_start e0 e3 c0 o3.2 hn0
  have f0 : 1 ≤ k0 ∧ k0 ≤ 36 := by omega
  have f3 : 1 ≤ k3 ∧ k3 ≤ 38 := by omega
  have HST : Hid (leT s (9 * ((k0 : Int) - k3) - 10)) := hst
  have hdef : ∀ k, leT s k ↔ oneS s * 10 ^ k.toNat ≤ sizeS s * 10 ^ (-k).toNat := fun k => Iff.rfl
  have hbd : ∀ k, leT s k → k ≤ 400 := fun k h => leT_bd hs h
  generalize leT s = L at *
  generalize sizeS s = S at *
  generalize oneS s = O at *
  have HDEF : Hid (∀ k, L k ↔ O * 10 ^ k.toNat ≤ S * 10 ^ (-k).toNat) := hdef
  have HBD : Hid (∀ k, L k → k ≤ 400) := hbd
  clear o0 o3 c0 c3 e0 e3 hk0 hk3 hl0 hl3 hn0 hn3 hp0 hp3 hst hdef hbd
  obtain ⟨W1, hW1⟩ : ∃ W1, w.alloc (.cells #[.slice a0 k0 p0, .slice a1 k1 p1, .slice a2 k2 p2, .slice a3 k3 p3] 190) = W1 := ⟨_, rfl⟩
  have hsz1 : W1.heap.size = w.heap.size + 1 := by rw [← hW1]; simp
  have hB1 : Below w.heap.size w W1 := by rw [← hW1]; exact (Below.refl _ _).alloc (Nat.le_refl _) _
  have q0 : W1.cell? ⟨w.heap.size, 0, none⟩ = some (.slice a0 k0 p0) := by rw [← hW1]; simp
  have q3 : W1.cell? ⟨w.heap.size, 3, none⟩ = some (.slice a3 k3 p3) := by rw [← hW1]; simp
  go_enter Tryz.func134, Tryz.ntmps134
  go_upto_region 1 with fail
  clear hW1
  have HR0 := Hid.mk' (r0.below hB1)
  have HR3 := Hid.mk' (r3.below hB1)
  have HB1 := Hid.mk' hB1
  have hlt1 : w.heap.size < W1.heap.size := by omega
  have smS := smallB_of_bl bS (by omega)
  have smO := smallB_of_bl bO (by omega)
  clear r0 r3 hB1
  go_wp2_with fail
  go_loopw [3] (fun q wr => ∃ k : Int, q = .int .i64 k ∧ -400 ≤ k ∧ L k ∧ Below W1.heap.size W1 wr) (fun q _ => (401 - intOf q).toNat)
  case atStart => exact ⟨_, rfl, by omega, HST.out, Below.refl _ _⟩
  case round =>
    obtain ⟨k, rfl, hk1, hle, hbel⟩ := hrel
    have hk2 := HBD.out k hle
    have HLE := Hid.mk' hle
    have y0 := (hbel.cell (p := ⟨w.heap.size, 0, none⟩) hlt1).trans q0
    have y3 := (hbel.cell (p := ⟨w.heap.size, 3, none⟩) hlt1).trans q3
    have HBE := Hid.mk' hbel
    have HRR0 := Hid.mk' (HR0.out.below hbel)
    have HRR3 := Hid.mk' (HR3.out.below hbel)
    have hltr : w.heap.size < wr.heap.size := Nat.lt_of_lt_of_le hlt1 hbel.size
    clear hle hbel
    go_wp2_with fail
    refine (small_form _ 1 (by omega)).mono ?_
    rintro e wa ⟨aa, ka, pa, rfl, ra, ba⟩
    have y0a := (ba.cell (p := ⟨w.heap.size, 0, none⟩) hltr).trans y0
    have y3a := (ba.cell (p := ⟨w.heap.size, 3, none⟩) hltr).trans y3
    have HRA := Hid.mk' (ra.base (Nat.zero_le _))
    have HBA := Hid.mk' ba
    have hlta : w.heap.size < wa.heap.size := Nat.lt_of_lt_of_le hltr ba.size
    clear ra ba y0 y3
    by_cases hc : 0 ≤ k + 1
    · obtain ⟨n, hn⟩ : ∃ n : Nat, k + 1 = (n : Int) := ⟨(k + 1).toNat, by omega⟩
      have hcb : decide (0 ≤ k + 1) = true := by simp; omega
      have hn2 : n ≤ 401 := by omega
      have HN : Hid (k + 1 = (n : Int)) := hn
      have HDN : Hid (L (k + 1) ↔ 1 * 10 ^ n * O ≤ S) := by
        unfold Hid
        rw [HDEF.out (k + 1), show (k + 1).toNat = n by omega, show (-(k + 1)).toNat = 0 by omega, Nat.pow_zero, Nat.mul_one, Nat.one_mul, Nat.mul_comm]
      clear hn
      go_wp2_with fail
      refine (power10_form _ _ 1 n _ HRA.out (by omega) HN.out (by rw [Nat.one_mul]; exact ten_smallB (by omega))).mono ?_
      rintro e wb ⟨ab, kb, pb, rfl, rb, bb⟩
      have y3b := (bb.cell (p := ⟨w.heap.size, 3, none⟩) hlta).trans y3a
      have smX : SmallB (1 * 10 ^ n) := by rw [Nat.one_mul]; exact ten_smallB (by omega)
      have smXO : SmallB (1 * 10 ^ n * O) := by
        rw [Nat.one_mul, Nat.mul_comm]; exact ten_mulB bO (by omega)
      generalize hX : 1 * 10 ^ n = X at *
      clear hX
      have HRB := Hid.mk' rb
      have HBB := Hid.mk' bb
      clear rb bb
      go_wp2_with fail
      refine (product_form _ _ _ X O HRB.out ((HRR3.out.below HBA.out).below HBB.out) smX smO).mono ?_
      rintro e wd ⟨ad, kd, pd, rfl, rd, bd⟩
      have HRD := Hid.mk' (rd.base (Nat.zero_le _))
      have HBD2 := Hid.mk' bd
      clear rd bd y0a y3a y3b
      go_wp2_with fail
      refine (compareB_rep _ _ _ (X * O) S HRD.out (((HRR0.out.below HBA.out).below HBB.out).below HBD2.out) smXO).mono ?_
      rintro e we ⟨rfl, nq, rfl⟩
      have HFIN : Hid (Below wr.heap.size wr (wd.drewN nq)) := below_drewN ((HBA.out.trans (HBB.out.mono HBA.out.size)).trans (HBD2.out.mono (Nat.le_trans HBA.out.size HBB.out.size))) nq
      by_cases hgt : S < X * O
      · rw [cmpI_gt (by omega)]
        go_wp2_with fail
        go_ret
        refine ⟨k, rfl, HLE.out, ?_, HB1.out.trans ((HBE.out.trans (HFIN.out.mono HBE.out.size)).mono (by omega))⟩
        rw [HDN.out]
        omega
      · have hcmp : ¬ 0 < cmpI ((X * O : Nat) : Int) (S : Int) := by
          rcases Nat.lt_or_eq_of_le (Nat.le_of_not_lt hgt) with h' | h'
          · rw [cmpI_lt (by omega)]; omega
          · rw [cmpI_eq (by omega)]; omega
        have HGT := Hid.mk' hgt
        clear hgt
        generalize cmpI ((X * O : Nat) : Int) (S : Int) = cc at *
        go_wp2_with fail
        go_roundw
        case rel => exact ⟨k + 1, rfl, by omega, HDN.out.2 (by have := HGT.out; omega), HBE.out.trans (HFIN.out.mono HBE.out.size)⟩
        case measure => simp [intOf]; omega
    · obtain ⟨n, hn⟩ : ∃ n : Nat, -k - 1 = (n : Int) := ⟨(-k - 1).toNat, by omega⟩
      have hcb : decide (0 ≤ k + 1) = false := by simp; omega
      have hn2 : n ≤ 401 := by omega
      have HN : Hid (-k - 1 = (n : Int)) := hn
      have HDN : Hid (L (k + 1) ↔ 1 * O ≤ S * 10 ^ n) := by
        unfold Hid
        rw [HDEF.out (k + 1), show (k + 1).toNat = 0 by omega, show (-(k + 1)).toNat = n by omega, Nat.pow_zero, Nat.mul_one, Nat.one_mul]
      clear hn
      go_wp2_with fail
      refine (power10_form _ _ S n _ (HRR0.out.below HBA.out) (by omega) HN.out (ten_mulB bS (by omega))).mono ?_
      rintro e wb ⟨ab, kb, pb, rfl, rb, bb⟩
      have y3b := (bb.cell (p := ⟨w.heap.size, 3, none⟩) hlta).trans y3a
      have smX : SmallB (1 * O) := by rw [Nat.one_mul]; exact smO
      generalize hX : S * 10 ^ n = X at *
      clear hX
      have HRB := Hid.mk' rb
      have HBB := Hid.mk' bb
      clear rb bb
      go_wp2_with fail
      refine (product_form _ _ _ 1 O (HRA.out.below HBB.out) ((HRR3.out.below HBA.out).below HBB.out) (SmallB.of_lt (k := 1) (by omega) (by omega)) smO).mono ?_
      rintro e wd ⟨ad, kd, pd, rfl, rd, bd⟩
      have HRD := Hid.mk' (rd.base (Nat.zero_le _))
      have HBD2 := Hid.mk' bd
      clear rd bd y0a y3a y3b
      go_wp2_with fail
      refine (compareB_rep _ _ _ (1 * O) X HRD.out (HRB.out.below HBD2.out) smX).mono ?_
      rintro e we ⟨rfl, nq, rfl⟩
      have HFIN : Hid (Below wr.heap.size wr (wd.drewN nq)) := below_drewN ((HBA.out.trans (HBB.out.mono HBA.out.size)).trans (HBD2.out.mono (Nat.le_trans HBA.out.size HBB.out.size))) nq
      by_cases hgt : X < 1 * O
      · rw [cmpI_gt (by omega)]
        go_wp2_with fail
        go_ret
        refine ⟨k, rfl, HLE.out, ?_, HB1.out.trans ((HBE.out.trans (HFIN.out.mono HBE.out.size)).mono (by omega))⟩
        rw [HDN.out]
        omega
      · have hcmp : ¬ 0 < cmpI ((1 * O : Nat) : Int) (X : Int) := by
          rcases Nat.lt_or_eq_of_le (Nat.le_of_not_lt hgt) with h' | h'
          · rw [cmpI_lt (by omega)]; omega
          · rw [cmpI_eq (by omega)]; omega
        have HGT := Hid.mk' hgt
        clear hgt
        generalize cmpI ((1 * O : Nat) : Int) (X : Int) = cc at *
        go_wp2_with fail
        go_roundw
        case rel => exact ⟨k + 1, rfl, by omega, HDN.out.2 (by have := HGT.out; omega), HBE.out.trans (HFIN.out.mono HBE.out.size)⟩
        case measure => simp [intOf]; omega


theorem inS_lt {a b : Nat} (ev : Bool) (h : a < b) : inS a b ev = true := by simp [inS, h]
theorem inS_eq {a b : Nat} (ev : Bool) (h : a = b) : inS a b ev = ev := by simp [inS, h]
theorem inS_gt {a b : Nat} (ev : Bool) (h : b < a) : inS a b ev = false := by simp [inS]; omega

theorem tupW {a b : Bool} {v : Value} (h : a = b) : Ending.returned (.tuple #[.bool a, v]) = .returned (.tuple #[.bool b, v]) := by rw [h]

set_option maxRecDepth 20000 in
set_option maxHeartbeats 3200000 in
theorem within_ref (w : World) (a0 : Option Addr) (k0 p0 : Nat) (a1 : Option Addr) (k1 p1 : Nat) (a2 : Option Addr) (k2 p2 : Nat) (a3 : Option Addr) (k3 p3 : Nat) (ad : Option Addr) (kd pd : Nat) (S B A D d : Nat) (k : Int) (ev : Bool) (V N B1 A1 : Nat)
    (r0 : RepB w 0 (.slice a0 k0 p0) S) (r1 : RepB w 0 (.slice a1 k1 p1) B) (r2 : RepB w 0 (.slice a2 k2 p2) A) (r3 : RepB w 0 (.slice a3 k3 p3) D) (rd : RepB w 0 (.slice ad kd pd) d)
    (hk1 : -450 ≤ k) (hk2 : k ≤ 450) (hS : S ≠ 0) (hB : B ≠ 0) (hA : A ≠ 0) (bS : bl S ≤ 1030) (bB : bl B ≤ 975) (bA : bl A ≤ 975) (bD : bl D ≤ 1080) (bd : bl d ≤ 200)
    (hV : V = d * 10 ^ k.toNat * D) (hN : N = S * 10 ^ (-k).toNat) (hB1 : B1 = B * 10 ^ (-k).toNat) (hA1 : A1 = A * 10 ^ (-k).toNat) :
    Calls Tryz.prog 136 #[.agg #[.slice a0 k0 p0, .slice a1 k1 p1, .slice a2 k2 p2, .slice a3 k3 p3], .slice ad kd pd, .int .i64 k, .bool ev] w fun e w' =>
      ∃ a' k' p', e = .returned (.tuple #[.bool (inS (gap V N) (reach V N B1 A1) ev), .slice a' k' p']) ∧ RepB w' 0 (.slice a' k' p') (gap V N) ∧ SmallB (gap V N) ∧ Below w.heap.size w w' := by
  have HV := Hid.mk' hV
  have HN := Hid.mk' hN
  have HB1 := Hid.mk' hB1
  have HA1 := Hid.mk' hA1
  have smN : SmallB N := by rw [hN]; exact ten_mulB bS (by omega)
  have smB1 : SmallB B1 := by rw [hB1]; exact ten_mulB bB (by omega)
  have smA1 : SmallB A1 := by rw [hA1]; exact ten_mulB bA (by omega)
  have smD : SmallB D := smallB_of_bl bD (by omega)
  have smU : SmallB (d * 10 ^ k.toNat) := ten_mulB bd (by omega)
  have smV : SmallB V := by
    rw [hV]
    have q1 := bl_mul (d * 10 ^ k.toNat) D
    have q2 := bl_mul d (10 ^ k.toNat)
    have q3 := ten_bl k.toNat
    exact smallB_of_bl (k := 5000) (by omega) (by omega)
  clear hV hN hB1 hA1
  obtain ⟨W1, hW1⟩ : ∃ W1, w.alloc (.cells #[.slice a0 k0 p0, .slice a1 k1 p1, .slice a2 k2 p2, .slice a3 k3 p3] 190) = W1 := ⟨_, rfl⟩
  have hsz1 : W1.heap.size = w.heap.size + 1 := by rw [← hW1]; simp
  have hb1 : Below w.heap.size w W1 := by rw [← hW1]; exact (Below.refl _ _).alloc (Nat.le_refl _) _
  have q0 : W1.cell? ⟨w.heap.size, 0, none⟩ = some (.slice a0 k0 p0) := by rw [← hW1]; simp
  have q1 : W1.cell? ⟨w.heap.size, 1, none⟩ = some (.slice a1 k1 p1) := by rw [← hW1]; simp
  have q2 : W1.cell? ⟨w.heap.size, 2, none⟩ = some (.slice a2 k2 p2) := by rw [← hW1]; simp
  have q3 : W1.cell? ⟨w.heap.size, 3, none⟩ = some (.slice a3 k3 p3) := by rw [← hW1]; simp
  go_enter Tryz.func136, Tryz.ntmps136
  go_upto_region 1 with fail
  clear hW1
  go_upto_region 3 with fail
  generalize hg : w.heap.size + 1 = g at *
  have hgw : w.heap.size < g := by omega
  have hle1 : W1.heap.size ≤ g := by omega
  have hb2 := (Below.refl W1.heap.size W1).alloc (Nat.le_refl _) (.cells #[.slice a0 k0 p0, .slice a1 k1 p1, .slice a2 k2 p2, .slice a3 k3 p3] 190)
  have sp : SpnB (W1.alloc (.cells #[.slice a0 k0 p0, .slice a1 k1 p1, .slice a2 k2 p2, .slice a3 k3 p3] 190)) g (.slice a0 k0 p0) (.slice a1 k1 p1) (.slice a2 k2 p2) (.slice a3 k3 p3) S B A D := by
    have e : g = W1.heap.size := by omega
    subst e
    exact ⟨by simp, by intro i; simp, by simp, by simp, by simp, by simp, (numB_old (r0.below hb1) hle1).below hb2, (numB_old (r1.below hb1) hle1).below hb2, (numB_old (r2.below hb1) hle1).below hb2, (numB_old (r3.below hb1) hle1).below hb2⟩
  have rd2 := (numB_old (rd.below hb1) hle1).below hb2
  have bel : Below w.heap.size w (W1.alloc (.cells #[.slice a0 k0 p0, .slice a1 k1 p1, .slice a2 k2 p2, .slice a3 k3 p3] 190)) := hb1.trans (hb2.mono (by omega))
  generalize W1.alloc (.cells #[.slice a0 k0 p0, .slice a1 k1 p1, .slice a2 k2 p2, .slice a3 k3 p3] 190) = W at *
  have HSP := Hid.mk' sp
  have HRD := Hid.mk' rd2
  have HBE := Hid.mk' bel
  have hlt := sp.lt
  clear q0 q1 q2 q3 hb1 hb2 hsz1 hle1 sp rd2 bel r0 r1 r2 r3 rd hg
  obtain ⟨pos, hpos⟩ : ∃ pos : Bool, decide (0 ≤ k) = pos := ⟨_, rfl⟩
  go_cut [19] from 18 to 18 (fun t wx => t = .bool pos ∧ wx = W)
  case first =>
    go_wp2_with fail
    go_meet
    exact ⟨rfl, rfl⟩
  case rest =>
  obtain ⟨rfl, rfl⟩ := hcut
  apply_assumption
  go_cut [11] from 20 to 40 (fun t wx => ∃ at' kt pt x0 y0 z0 x1 y1 z1 x2 y2 z2, t = .slice at' kt pt ∧ RepB wx 0 (.slice at' kt pt) (d * 10 ^ k.toNat) ∧ SpnB wx g (.slice x0 y0 z0) (.slice x1 y1 z1) (.slice x2 y2 z2) (.slice a3 k3 p3) N B1 A1 D ∧ Below w.heap.size w wx)
  case first =>
    cases pos
    · obtain ⟨n, hn⟩ : ∃ n : Nat, -k = (n : Int) := ⟨(-k).toNat, by simp at hpos; omega⟩
      have hn2 : n ≤ 450 := by omega
      have HK : Hid (k.toNat = 0 ∧ (-k).toNat = n) := by simp at hpos; exact ⟨by omega, by omega⟩
      have HE : Hid (-k = (n : Int)) := hn
      have c0 := HSP.out.c0
      have f0 := HSP.out.fr 0
      clear hn hpos
      go_wp2_with fail
      refine (power10_num wc g (.slice a0 k0 p0) S n (-k) HSP.out.n0 hlt c0 hS (by omega) HE.out (ten_mulB bS (by omega))).mono ?_
      rintro e w8 ⟨a8, k8, p8, rfl, r8, b8⟩
      have c0' := (b8.cell (p := ⟨g, 0, none⟩) hlt).trans c0
      have f0' := (b8.frozen (p := ⟨g, 0, none⟩) hlt).trans f0
      go_upto_region 6 with fail
      have sp1 := (HSP.out.below b8).set0 r8
      have rd1 := (HRD.out.below b8).set 0 (.slice a8 k8 p8)
      have bel1 := (HBE.out.trans (b8.mono (Nat.le_of_lt (Nat.lt_trans hgw hlt)))).setCell (p := ⟨g, 0, none⟩) (Nat.le_of_lt hgw) (.slice a8 k8 p8)
      clear c0 c0' f0 f0' HSP HRD HBE r8 b8 hlt
      generalize w8.setCell ⟨g, 0, none⟩ (.slice a8 k8 p8) = W2 at *
      have c1 := sp1.c1
      have f1 := sp1.fr 1
      have hlt := sp1.lt
      have HSP := Hid.mk' sp1
      have HRD := Hid.mk' rd1
      have HBE := Hid.mk' bel1
      clear sp1 rd1 bel1
      go_wp2_with fail
      refine (power10_num W2 g (.slice a1 k1 p1) B n (-k) HSP.out.n1 hlt HSP.out.c0 hB (by omega) HE.out (ten_mulB bB (by omega))).mono ?_
      rintro e w9 ⟨a9, k9, p9, rfl, r9, b9⟩
      have c1' := (b9.cell (p := ⟨g, 1, none⟩) hlt).trans c1
      have f1' := (b9.frozen (p := ⟨g, 1, none⟩) hlt).trans f1
      go_upto_region 7 with fail
      have sp1 := (HSP.out.below b9).set1 r9
      have rd1 := (HRD.out.below b9).set 1 (.slice a9 k9 p9)
      have bel1 := (HBE.out.trans (b9.mono (Nat.le_of_lt (Nat.lt_trans hgw hlt)))).setCell (p := ⟨g, 1, none⟩) (Nat.le_of_lt hgw) (.slice a9 k9 p9)
      clear c1 c1' f1 f1' HSP HRD HBE r9 b9 hlt
      generalize w9.setCell ⟨g, 1, none⟩ (.slice a9 k9 p9) = W3 at *
      have c2 := sp1.c2
      have f2 := sp1.fr 2
      have hlt := sp1.lt
      have HSP := Hid.mk' sp1
      have HRD := Hid.mk' rd1
      have HBE := Hid.mk' bel1
      clear sp1 rd1 bel1
      go_wp2_with fail
      refine (power10_num W3 g (.slice a2 k2 p2) A n (-k) HSP.out.n2 hlt HSP.out.c0 hA (by omega) HE.out (ten_mulB bA (by omega))).mono ?_
      rintro e w10 ⟨a10, k10, p10, rfl, r10, b10⟩
      have c2' := (b10.cell (p := ⟨g, 2, none⟩) hlt).trans c2
      have f2' := (b10.frozen (p := ⟨g, 2, none⟩) hlt).trans f2
      go_wp2_with fail
      go_meet
      have sp1 := (HSP.out.below b10).set2 r10
      have rd1 := (HRD.out.below b10).set 2 (.slice a10 k10 p10)
      have bel1 := (HBE.out.trans (b10.mono (Nat.le_of_lt (Nat.lt_trans hgw hlt)))).setCell (p := ⟨g, 2, none⟩) (Nat.le_of_lt hgw) (.slice a10 k10 p10)
      have e0 : N = S * 10 ^ n := by rw [HN.out, HK.out.2]
      have e1 : B1 = B * 10 ^ n := by rw [HB1.out, HK.out.2]
      have e2 : A1 = A * 10 ^ n := by rw [HA1.out, HK.out.2]
      have e3 : d * 10 ^ k.toNat = d := by rw [HK.out.1]; simp
      rw [e0, e1, e2, e3]
      exact ⟨_, _, _, _, _, _, _, _, _, _, _, _, rfl, rd1.1, sp1, bel1⟩
    · obtain ⟨n, hn⟩ : ∃ n : Nat, k = (n : Int) := ⟨k.toNat, by simp at hpos; omega⟩
      have hn2 : n ≤ 450 := by omega
      have HK : Hid (k.toNat = n ∧ (-k).toNat = 0) := ⟨by omega, by omega⟩
      have HE : Hid (k = (n : Int)) := hn
      have smU' : SmallB (d * 10 ^ n) := by rw [← HK.out.1]; exact smU
      clear hn hpos
      go_wp2_with fail
      refine (power10_form wc (.slice ad kd pd) d n k HRD.out.1 (by omega) HE.out smU').mono ?_
      rintro e w8 ⟨a8, k8, p8, rfl, r8, b8⟩
      go_wp2_with fail
      go_meet
      have e0 : N = S := by rw [HN.out, HK.out.2]; simp
      have e1 : B1 = B := by rw [HB1.out, HK.out.2]; simp
      have e2 : A1 = A := by rw [HA1.out, HK.out.2]; simp
      rw [e0, e1, e2, HK.out.1]
      exact ⟨_, _, _, _, _, _, _, _, _, _, _, _, rfl, r8, HSP.out.below b8, HBE.out.trans (b8.mono (Nat.le_of_lt (Nat.lt_trans hgw hlt)))⟩
  case rest =>
  clear HSP HRD HBE hlt hpos HN HB1 HA1
  obtain ⟨at', kt, pt, x0, y0, z0, x1, y1, z1, x2, y2, z2, rfl, rt, sp, bel⟩ := hcut
  have HV' : Hid (V = d * 10 ^ k.toNat * D) := HV
  generalize d * 10 ^ k.toNat = U at *
  clear HV
  have HSP := Hid.mk' sp
  have HBE := Hid.mk' bel
  have HRT := Hid.mk' rt
  have hlt := sp.lt
  have c3 := sp.c3
  clear sp bel rt
  go_wp2_with fail
  refine (product_form _ (.slice at' kt pt) (.slice a3 k3 p3) U D HRT.out HSP.out.n3.1 smU smD).mono ?_
  rintro e wa ⟨aa, ka, pa, rfl, ra, ba⟩
  rw [← HV'.out] at ra
  have spa := HSP.out.below ba
  have bela := HBE.out.trans (ba.mono (Nat.le_of_lt (Nat.lt_trans hgw hlt)))
  have hlta := spa.lt
  have c0 := spa.c0
  have HSA := Hid.mk' spa
  have HBA := Hid.mk' bela
  have HRA := Hid.mk' (ra.base (Nat.zero_le _))
  clear HSP HBE HRT c3 hlt ra ba spa bela
  go_wp2_with fail
  refine (compareB_rep _ (.slice aa ka pa) (.slice x0 y0 z0) V N HRA.out HSA.out.n0.1 smV).mono ?_
  rintro e wb ⟨rfl, nq, rfl⟩
  have hdr := below_drewN (Below.refl wa.heap.size wa) nq
  have spb := HSA.out.below hdr
  have belb : Below w.heap.size w (wa.drewN nq) := HBA.out.trans (hdr.mono (Nat.le_of_lt (Nat.lt_trans hgw hlta)))
  have rab := HRA.out.below hdr
  clear hdr HSA HBA HRA hlta c0
  generalize wa.drewN nq = wb at *
  have c0 := spb.c0
  have c1 := spb.c1
  have c2 := spb.c2
  have hlt := spb.lt
  have HSB := Hid.mk' spb
  have HBB := Hid.mk' belb
  have HRB := Hid.mk' rab
  clear spb belb rab
  go_wp2_with fail
  refine (minus_form _ (.slice aa ka pa) (.slice x0 y0 z0) V N HRB.out HSB.out.n0.1 smV).mono ?_
  rintro e wc' ⟨am, km, pm, dm, rfl, rm, hdm, smm, bm⟩
  have c0' := (bm.cell (p := ⟨g, 0, none⟩) hlt).trans c0
  have c1' := (bm.cell (p := ⟨g, 1, none⟩) hlt).trans c1
  have HSC := Hid.mk' (HSB.out.below bm)
  have HBC := Hid.mk' (HBB.out.trans (bm.mono (Nat.le_of_lt (Nat.lt_trans hgw hlt))))
  have HRC := Hid.mk' (HRB.out.below bm)
  have HRM := Hid.mk' (rm.base (Nat.zero_le _))
  have HDM := Hid.mk' hdm
  clear HSB HBB HRB c0 c1 c2 bm rm hdm hlt
  have hltc := HSC.out.lt
  by_cases hVN : V < N
  · rw [cmpI_lt (by omega)]
    have hgap : gap V N = N - V := by unfold gap; rw [if_pos hVN]
    have hreach : reach V N B1 A1 = B1 := by unfold reach; rw [if_pos hVN]
    have HG := Hid.mk' (And.intro hgap hreach)
    go_wp2_with fail
    refine (minus_form _ (.slice x0 y0 z0) (.slice aa ka pa) N V HSC.out.n0.1 HRC.out smN).mono ?_
    rintro e wd ⟨an, kn, pn, dn, rfl, rn, hdn, smn, bn⟩
    have hdn' := hdn (Nat.le_of_lt hVN)
    subst hdn'
    have HRN := Hid.mk' (rn.base (Nat.zero_le _))
    have HSD := Hid.mk' (HSC.out.below bn)
    have HBD := Hid.mk' (HBC.out.trans (bn.mono (Nat.le_of_lt (Nat.lt_trans hgw hltc))))
    clear rn bn HSC HBC HRC HRM HDM hdn c0' c1' hltc hgap hreach
    generalize hX : N - V = X at *
    clear hX hVN
    go_wp2_with fail
    refine (compareB_rep _ (.slice an kn pn) (.slice x1 y1 z1) X B1 HRN.out HSD.out.n1.1 smn).mono ?_
    rintro e we ⟨rfl, nq2, rfl⟩
    have HF : Hid (RepB (wd.drewN nq2) 0 (.slice an kn pn) X ∧ SmallB X ∧ Below w.heap.size w (wd.drewN nq2)) := ⟨HRN.out.drewN nq2, smn, below_drewN HBD.out nq2⟩
    clear HRN HSD HBD
    generalize wd.drewN nq2 = we at *
    rcases Nat.lt_trichotomy X B1 with h' | h' | h'
    · have HI := Hid.mk' (inS_lt ev h')
      rw [cmpI_lt (by omega)]
      go_wp2_with fail
      go_ret2
      rw [HG.out.1, HG.out.2, HI.out]
      exact ⟨_, _, _, rfl, HF.out⟩
    · have HI := Hid.mk' (inS_eq ev h')
      rw [cmpI_eq (by omega)]
      have H' := Hid.mk' h'
      clear h'
      go_wp2_with fail
      go_ret2
      rw [HG.out.1, HG.out.2, HI.out]
      exact ⟨_, _, _, rfl, HF.out⟩
    · have HI := Hid.mk' (inS_gt ev h')
      rw [cmpI_gt (by omega)]
      go_wp2_with fail
      go_ret2
      rw [HG.out.1, HG.out.2, HI.out]
      exact ⟨_, _, _, rfl, HF.out⟩
  · have hcmp : ¬ cmpI (V : Int) (N : Int) < 0 := by
      rcases Nat.lt_or_eq_of_le (Nat.le_of_not_lt hVN) with h' | h'
      · rw [cmpI_gt (by omega)]; omega
      · rw [cmpI_eq (by omega)]; omega
    have hgap : gap V N = V - N := by unfold gap; rw [if_neg hVN]
    have hreach : reach V N B1 A1 = A1 := by unfold reach; rw [if_neg hVN]
    have HG := Hid.mk' (And.intro hgap hreach)
    have hdm' := HDM.out (Nat.le_of_not_lt hVN)
    subst hdm'
    generalize cmpI (V : Int) (N : Int) = cc at *
    clear hgap hreach HDM HRC
    generalize hX : V - N = X at *
    clear hX hVN
    go_wp2_with fail
    refine (compareB_rep _ (.slice am km pm) (.slice x2 y2 z2) X A1 HRM.out HSC.out.n2.1 smm).mono ?_
    rintro e we ⟨rfl, nq2, rfl⟩
    have HF : Hid (RepB (wc'.drewN nq2) 0 (.slice am km pm) X ∧ SmallB X ∧ Below w.heap.size w (wc'.drewN nq2)) := ⟨HRM.out.drewN nq2, smm, below_drewN HBC.out nq2⟩
    clear HRM HSC HBC c0' c1' hltc
    generalize wc'.drewN nq2 = we at *
    rcases Nat.lt_trichotomy X A1 with h' | h' | h'
    · have HI := Hid.mk' (inS_lt ev h')
      rw [cmpI_lt (by omega)]
      go_wp2_with fail
      go_ret2
      rw [HG.out.1, HG.out.2, HI.out]
      exact ⟨_, _, _, rfl, HF.out⟩
    · have HI := Hid.mk' (inS_eq ev h')
      rw [cmpI_eq (by omega)]
      have H' := Hid.mk' h'
      clear h'
      go_wp2_with fail
      go_ret2
      rw [HG.out.1, HG.out.2, HI.out]
      exact ⟨_, _, _, rfl, HF.out⟩
    · have HI := Hid.mk' (inS_gt ev h')
      rw [cmpI_gt (by omega)]
      go_wp2_with fail
      go_ret2
      rw [HG.out.1, HG.out.2, HI.out]
      exact ⟨_, _, _, rfl, HF.out⟩

end Go.Proofs.YthdcceackfdbbaaGreatDoor
