import Derived.Test.YthdcceackfdbbaaGreatDoorM03K
import Derived.Deep.DrawnRows
import Derived.Deep.CutRange
import Derived.Deep.RegionWith
/- Walk: spanOf. Own text. -/
namespace Go.Proofs.YthdcceackfdbbaaGreatDoor
open Go.RowKit

def qS (s : Nat) : Nat := 2 ^ (eS s).toNat
/-- The size, its reaches, and what one is, all as whole numbers. -/
def sizeS (s : Nat) : Nat := mS s * (4 * qS s)
def belowS (s : Nat) : Nat := if nbS s then qS s else 2 * qS s
def aboveS (s : Nat) : Nat := 2 * qS s
def oneS (s : Nat) : Nat := 4 * 2 ^ (-eS s).toNat

theorem bl_two (n : Nat) : bl (2 ^ n) ≤ n + 1 := bl_le (Nat.pow_lt_pow_right (by omega) (by omega))

theorem small_shift {a k n : Nat} (h : bl a ≤ k) (hk : k + n ≤ 65536) : Small (a * 2 ^ n) := small_of_bl (k := k + n) (Nat.le_trans (bl_shift a n) (by omega)) hk

theorem bl_const (a k : Nat) (h : a < 2 ^ k) : bl a ≤ k := bl_le h

theorem Rep.form {w : World} {B : Nat} {v : Value} {n : Nat} (h : Rep w B v n) : ∃ ao k cap, v = .slice ao k cap := by
  obtain ⟨l, h1, _⟩ := h
  obtain ⟨ao, cap, rfl, _⟩ := h1.shape1
  exact ⟨ao, _, cap, rfl⟩

theorem Rep.set {w : World} {B : Nat} {v : Value} {n g : Nat} (h : Rep w B v n) (hg : g < B) (i : Nat) (u : Value) : Rep (w.setCell ⟨g, i, none⟩ u) B v n := by
  obtain ⟨l, h1, h2⟩ := h
  exact ⟨l, h1.setOther (a := ⟨g, i, none⟩) u (fun k hk => by have := (h1.1.lt k hk).1; exact Nat.ne_of_gt (Nat.lt_of_lt_of_le hg this)), h2⟩

theorem Rep.alloc {w : World} {B : Nat} {v : Value} {n : Nat} (h : Rep w B v n) (o : Obj) : Rep (w.alloc o) B v n := h.below ((Below.refl _ _).alloc (Nat.le_refl _) o)

theorem small_one : Small 1 := small_of_bl (k := 1) (bl_le (n := 1) (k := 1) (by omega)) (by omega)
theorem small_four : Small 4 := small_of_bl (k := 3) (bl_le (n := 4) (k := 3) (by omega)) (by omega)
theorem small_m {m : Nat} (h : m < 9007199254740992) : Small m := small_of_bl (k := 53) (bl_le (n := m) (k := 53) (by omega)) (by omega)

theorem qS_bl {s : Nat} (h : s < 9218868437227405312) : bl (qS s) ≤ 972 := by
  have := eS_bd h
  exact Nat.le_trans (bl_two _) (by omega)

set_option maxRecDepth 20000 in
set_option maxHeartbeats 1600000 in
theorem spanOf_any (w : World) (s : Nat) (hs : s < 9218868437227405312) :
    Calls Tryz.prog 164 #[.int .u64 (s : Int)] w fun e w' => ∃ v0 v1 v2 v3, e = .returned (.agg #[v0, v1, v2, v3, .bool (decide (s % 2 = 0))]) ∧
      Rep w' 0 v0 (sizeS s) ∧ Rep w' 0 v1 (belowS s) ∧ Rep w' 0 v2 (aboveS s) ∧ Rep w' 0 v3 (oneS s) ∧ Below w.heap.size w w' := by
  have hm := mS_lt s
  obtain ⟨he1, he2⟩ := eS_bd hs
  have hqb := qS_bl hs
  have hodd : (bits BinOp.and IntKind.u64 (s : Int) 1 == 0) = decide (s % 2 = 0) := by
    rw [and_one_u64 _ (by omega) (by omega)]
    by_cases h : s % 2 = 0
    · rw [decide_eq_true h]; simp; omega
    · rw [decide_eq_false h]; simp; omega
  have hodd2 : ((s : Int) % 2 == 0) = decide (s % 2 = 0) := by
    by_cases h : s % 2 = 0
    · rw [decide_eq_true h]; simp; omega
    · rw [decide_eq_false h]; simp; omega
  generalize decide (s % 2 = 0) = ev at *
  have HS : Hid (sizeS s = mS s * (qS s * 2 ^ 2)) := by unfold Hid sizeS; rw [Nat.mul_comm 4]
  have HB : Hid (belowS s = if nbS s then qS s else qS s * 2 ^ 1) := by unfold Hid belowS; simp [Nat.mul_comm]
  have HA : Hid (aboveS s = qS s * 2 ^ 1) := by unfold Hid aboveS; omega
  have HO : Hid (oneS s = 4 * 2 ^ (-eS s).toNat) := rfl
  have HQ : Hid (qS s = 1 * 2 ^ (eS s).toNat) := by unfold Hid qS; omega
  go_enter Tryz.func164, Tryz.ntmps164
  go_wp2_with fail
  refine (parts_any _ s hs).mono ?_
  rintro e w1 ⟨rfl, rfl⟩
  generalize mS s = m at *
  generalize eS s = ee at *
  go_wp2_with fail
  refine (of_any _ 1 (by omega)).mono ?_
  rintro e w2 ⟨v2, rfl, r2, b2⟩
  go_wp2_with fail
  refine (of_any _ 4 (by omega)).mono ?_
  rintro e w3 ⟨v3, rfl, r3, b3⟩
  have s2 : w.heap.size + 1 ≤ w2.heap.size := by have := b2.size; simpa using this
  have s3 : w.heap.size + 1 ≤ w3.heap.size := Nat.le_trans s2 b3.size
  have t2 : Rep w3 (w.heap.size + 1) v2 1 := (r2.base (by simp)).below b3
  have t3 : Rep w3 (w.heap.size + 1) v3 4 := r3.base s2
  clear r2 r3
  by_cases hc : 0 ≤ ee
  · obtain ⟨n, hn⟩ : ∃ n : Nat, ee = (n : Int) := ⟨(ee).toNat, by omega⟩
    have hcb : decide (0 ≤ ee) = true := by simp; omega
    have hn2 : n ≤ 971 := by omega
    have HN : Hid ((ee).toNat = n ∧ (-ee).toNat = 0) := ⟨by omega, by omega⟩
    go_wp2_with fail
    have rr2 : Rep w3 0 v2 1 := t2.base (Nat.zero_le _)
    refine (shift_rep w3 v2 1 n rr2 small_one (by omega)).mono ?_
    rintro e w4 ⟨v4, rfl, r4, b4⟩
    have rq : Rep w4 (w.heap.size + 1) v4 (qS s) := by rw [HQ.out, HN.out.1]; exact r4.base s3
    have ro : Rep w4 (w.heap.size + 1) v3 (oneS s) := by rw [HO.out, HN.out.2]; exact t3.below b4
    generalize hqS : qS s = q at *
    generalize hoS : oneS s = o at *
    go_wp2_with fail
    refine (of_any _ (m) (by omega)).mono ?_
    rintro e w5 ⟨v5, rfl, r5, b5⟩
    go_wp2_with fail
    refine (shift_repI _ v4 q 2 2 ((rq.base (Nat.zero_le _)).below b5) (small_of_bl hqb (by omega)) (by omega) rfl).mono ?_
    rintro e w6 ⟨v6, rfl, r6, b6⟩
    go_wp2_with fail
    refine (mul_rep _ v5 v6 (m) (q * 2 ^ 2) ((r5.base (Nat.zero_le _)).below b6) (r6.base (Nat.zero_le _)) (small_m hm) (small_shift hqb (by omega))).mono ?_
    rintro e w7 ⟨v7, rfl, r7, b7⟩
    go_wp2_with fail
    refine (shift_repI _ v4 q 1 1 ((((rq.base (Nat.zero_le _)).below b5).below b6).below b7) (small_of_bl hqb (by omega)) (by omega) rfl).mono ?_
    rintro e w8 ⟨v8, rfl, r8, b8⟩
    go_wp2_with fail
    refine (shift_repI _ v4 q 1 1 (((((rq.base (Nat.zero_le _)).below b5).below b6).below b7).below b8) (small_of_bl hqb (by omega)) (by omega) rfl).mono ?_
    rintro e w9 ⟨v9, rfl, r9, b9⟩
    have z3 := Nat.le_trans b2.size b3.size
    have z4 := Nat.le_trans z3 b4.size
    have z5 := Nat.le_trans z4 b5.size
    have z6 := Nat.le_trans z5 b6.size
    have z7 := Nat.le_trans z6 b7.size
    have z8 := Nat.le_trans z7 b8.size
    have y6 : w.heap.size + 1 ≤ w6.heap.size := by simpa using z6
    have y7 : w.heap.size + 1 ≤ w7.heap.size := by simpa using z7
    have y8 : w.heap.size + 1 ≤ w8.heap.size := by simpa using z8
    have bAll := (((((((b2.trans (b3.mono b2.size)).trans (b4.mono z3)).trans (b5.mono z4)).trans (b6.mono z5)).trans (b7.mono z6)).trans (b8.mono z7)).trans (b9.mono z8))
    have hsz9 : w.heap.size < w9.heap.size := Nat.lt_of_lt_of_le (by simp) bAll.size
    have hbelow : Below w.heap.size w w9 := ((Below.refl _ _).alloc (Nat.le_refl _) _).trans (bAll.mono (by simp))
    obtain ⟨hcl, hfr⟩ := bcell bAll
    have c0 := hcl w.heap.size 0 (by simp)
    have f0 := hfr w.heap.size 0 (by simp)
    have c1 := hcl w.heap.size 1 (by simp)
    have f1 := hfr w.heap.size 1 (by simp)
    have c2 := hcl w.heap.size 2 (by simp)
    have f2 := hfr w.heap.size 2 (by simp)
    have c3 := hcl w.heap.size 3 (by simp)
    have f3 := hfr w.heap.size 3 (by simp)
    have c4 := hcl w.heap.size 4 (by simp)
    have f4 := hfr w.heap.size 4 (by simp)
    simp at c0 c1 c2 c3 c4 f0 f1 f2 f3 f4
    have R0 : Rep w9 (w.heap.size + 1) v7 (sizeS s) := by rw [HS.out]; exact ((r7.base y6).below b8).below b9
    have R2 : Rep w9 (w.heap.size + 1) v9 (aboveS s) := by rw [HA.out]; exact r9.base y8
    have R3 : Rep w9 (w.heap.size + 1) v3 o := ((((ro.below b5).below b6).below b7).below b8).below b9
    have Rq : Rep w9 (w.heap.size + 1) v4 q := ((((rq.below b5).below b6).below b7).below b8).below b9
    have R1 : Rep w9 (w.heap.size + 1) v8 (q * 2 ^ 1) := (r8.base y7).below b9
    clear hcl hfr b2 b3 b4 b5 b6 b7 b8 b9 t2 t3 r4 r5 r6 r7 r8 r9 s2 s3 z3 z4 z5 z6 z7 z8 y6 y7 y8 rq ro bAll hqb
    obtain ⟨a7, k7, p7, e7⟩ := R0.form
    obtain ⟨a8, k8, p8, e8⟩ := R1.form
    obtain ⟨a9, k9, p9, e9⟩ := R2.form
    obtain ⟨ao, ko, po, eo⟩ := R3.form
    obtain ⟨aq, kq, pq, eq⟩ := Rq.form
    subst e7 e8 e9 eo eq
    go_wp2_with fail
    refine (nearerBelow_any _ s hs).mono ?_
    rintro e w10 ⟨rfl, rfl⟩
    have hne : w9.heap.size ≠ w.heap.size := by omega
    have hne2 : w.heap.size ≠ w9.heap.size := by omega
    cases hnb : nbS s
    · have R1' : Rep w9 (w.heap.size + 1) (.slice a8 k8 p8) (belowS s) := by rw [HB.out, hnb]; simpa using R1
      clear HS HB HA HO HQ HN
      go_wp2
      refine bodyPost_ret (v := .agg #[.slice a7 k7 p7, .slice a8 k8 p8, .slice a9 k9 p9, .slice ao ko po, .bool ev]) (by simp [results, Tryz.results164, go_sem, *]) rfl ⟨_, _, _, _, rfl, ?_⟩
      have hg : w.heap.size < w.heap.size + 1 := by omega
      rw [hoS]
      exact ⟨((((((R0.set hg 0 _).set hg 1 _).set hg 2 _).set hg 3 _).set hg 4 _).alloc _).base (Nat.zero_le _), ((((((R1'.set hg 0 _).set hg 1 _).set hg 2 _).set hg 3 _).set hg 4 _).alloc _).base (Nat.zero_le _), ((((((R2.set hg 0 _).set hg 1 _).set hg 2 _).set hg 3 _).set hg 4 _).alloc _).base (Nat.zero_le _), ((((((R3.set hg 0 _).set hg 1 _).set hg 2 _).set hg 3 _).set hg 4 _).alloc _).base (Nat.zero_le _), (((((hbelow.setCell (p := ⟨w.heap.size, 0, none⟩) (Nat.le_refl _) _).setCell (p := ⟨w.heap.size, 1, none⟩) (Nat.le_refl _) _).setCell (p := ⟨w.heap.size, 2, none⟩) (Nat.le_refl _) _).setCell (p := ⟨w.heap.size, 3, none⟩) (Nat.le_refl _) _).setCell (p := ⟨w.heap.size, 4, none⟩) (Nat.le_refl _) _).alloc (by simp; omega) _⟩
    · have R1' : Rep w9 (w.heap.size + 1) (.slice aq kq pq) (belowS s) := by rw [HB.out, hnb]; simpa using Rq
      clear HS HB HA HO HQ HN
      go_wp2
      refine bodyPost_ret (v := .agg #[.slice a7 k7 p7, .slice aq kq pq, .slice a9 k9 p9, .slice ao ko po, .bool ev]) (by simp [results, Tryz.results164, go_sem, *]) rfl ⟨_, _, _, _, rfl, ?_⟩
      have hg : w.heap.size < w.heap.size + 1 := by omega
      rw [hoS]
      exact ⟨((((((R0.set hg 0 _).set hg 1 _).set hg 2 _).set hg 3 _).set hg 4 _).alloc _).base (Nat.zero_le _), ((((((R1'.set hg 0 _).set hg 1 _).set hg 2 _).set hg 3 _).set hg 4 _).alloc _).base (Nat.zero_le _), ((((((R2.set hg 0 _).set hg 1 _).set hg 2 _).set hg 3 _).set hg 4 _).alloc _).base (Nat.zero_le _), ((((((R3.set hg 0 _).set hg 1 _).set hg 2 _).set hg 3 _).set hg 4 _).alloc _).base (Nat.zero_le _), (((((hbelow.setCell (p := ⟨w.heap.size, 0, none⟩) (Nat.le_refl _) _).setCell (p := ⟨w.heap.size, 1, none⟩) (Nat.le_refl _) _).setCell (p := ⟨w.heap.size, 2, none⟩) (Nat.le_refl _) _).setCell (p := ⟨w.heap.size, 3, none⟩) (Nat.le_refl _) _).setCell (p := ⟨w.heap.size, 4, none⟩) (Nat.le_refl _) _).alloc (by simp; omega) _⟩
  · obtain ⟨n, hn⟩ : ∃ n : Nat, -ee = (n : Int) := ⟨(-ee).toNat, by omega⟩
    have hcb : decide (0 ≤ ee) = false := by simp; omega
    have hn2 : n ≤ 1074 := by omega
    have HN : Hid ((-ee).toNat = n ∧ (ee).toNat = 0) := ⟨by omega, by omega⟩
    go_wp2_with fail
    refine (shift_rep w3 v3 4 n (t3.base (Nat.zero_le _)) small_four (by omega)).mono ?_
    rintro e w4 ⟨v4, rfl, r4, b4⟩
    have rq : Rep w4 (w.heap.size + 1) v2 (qS s) := by rw [HQ.out, HN.out.2]; exact t2.below b4
    have ro : Rep w4 (w.heap.size + 1) v4 (oneS s) := by rw [HO.out, HN.out.1]; exact r4.base s3
    generalize hqS : qS s = q at *
    generalize hoS : oneS s = o at *
    go_wp2_with fail
    refine (of_any _ (m) (by omega)).mono ?_
    rintro e w5 ⟨v5, rfl, r5, b5⟩
    go_wp2_with fail
    refine (shift_repI _ v2 q 2 2 ((rq.base (Nat.zero_le _)).below b5) (small_of_bl hqb (by omega)) (by omega) rfl).mono ?_
    rintro e w6 ⟨v6, rfl, r6, b6⟩
    go_wp2_with fail
    refine (mul_rep _ v5 v6 (m) (q * 2 ^ 2) ((r5.base (Nat.zero_le _)).below b6) (r6.base (Nat.zero_le _)) (small_m hm) (small_shift hqb (by omega))).mono ?_
    rintro e w7 ⟨v7, rfl, r7, b7⟩
    go_wp2_with fail
    refine (shift_repI _ v2 q 1 1 ((((rq.base (Nat.zero_le _)).below b5).below b6).below b7) (small_of_bl hqb (by omega)) (by omega) rfl).mono ?_
    rintro e w8 ⟨v8, rfl, r8, b8⟩
    go_wp2_with fail
    refine (shift_repI _ v2 q 1 1 (((((rq.base (Nat.zero_le _)).below b5).below b6).below b7).below b8) (small_of_bl hqb (by omega)) (by omega) rfl).mono ?_
    rintro e w9 ⟨v9, rfl, r9, b9⟩
    have z3 := Nat.le_trans b2.size b3.size
    have z4 := Nat.le_trans z3 b4.size
    have z5 := Nat.le_trans z4 b5.size
    have z6 := Nat.le_trans z5 b6.size
    have z7 := Nat.le_trans z6 b7.size
    have z8 := Nat.le_trans z7 b8.size
    have y6 : w.heap.size + 1 ≤ w6.heap.size := by simpa using z6
    have y7 : w.heap.size + 1 ≤ w7.heap.size := by simpa using z7
    have y8 : w.heap.size + 1 ≤ w8.heap.size := by simpa using z8
    have bAll := (((((((b2.trans (b3.mono b2.size)).trans (b4.mono z3)).trans (b5.mono z4)).trans (b6.mono z5)).trans (b7.mono z6)).trans (b8.mono z7)).trans (b9.mono z8))
    have hsz9 : w.heap.size < w9.heap.size := Nat.lt_of_lt_of_le (by simp) bAll.size
    have hbelow : Below w.heap.size w w9 := ((Below.refl _ _).alloc (Nat.le_refl _) _).trans (bAll.mono (by simp))
    obtain ⟨hcl, hfr⟩ := bcell bAll
    have c0 := hcl w.heap.size 0 (by simp)
    have f0 := hfr w.heap.size 0 (by simp)
    have c1 := hcl w.heap.size 1 (by simp)
    have f1 := hfr w.heap.size 1 (by simp)
    have c2 := hcl w.heap.size 2 (by simp)
    have f2 := hfr w.heap.size 2 (by simp)
    have c3 := hcl w.heap.size 3 (by simp)
    have f3 := hfr w.heap.size 3 (by simp)
    have c4 := hcl w.heap.size 4 (by simp)
    have f4 := hfr w.heap.size 4 (by simp)
    simp at c0 c1 c2 c3 c4 f0 f1 f2 f3 f4
    have R0 : Rep w9 (w.heap.size + 1) v7 (sizeS s) := by rw [HS.out]; exact ((r7.base y6).below b8).below b9
    have R2 : Rep w9 (w.heap.size + 1) v9 (aboveS s) := by rw [HA.out]; exact r9.base y8
    have R3 : Rep w9 (w.heap.size + 1) v4 o := ((((ro.below b5).below b6).below b7).below b8).below b9
    have Rq : Rep w9 (w.heap.size + 1) v2 q := ((((rq.below b5).below b6).below b7).below b8).below b9
    have R1 : Rep w9 (w.heap.size + 1) v8 (q * 2 ^ 1) := (r8.base y7).below b9
    clear hcl hfr b2 b3 b4 b5 b6 b7 b8 b9 t2 t3 r4 r5 r6 r7 r8 r9 s2 s3 z3 z4 z5 z6 z7 z8 y6 y7 y8 rq ro bAll hqb
    obtain ⟨a7, k7, p7, e7⟩ := R0.form
    obtain ⟨a8, k8, p8, e8⟩ := R1.form
    obtain ⟨a9, k9, p9, e9⟩ := R2.form
    obtain ⟨ao, ko, po, eo⟩ := R3.form
    obtain ⟨aq, kq, pq, eq⟩ := Rq.form
    subst e7 e8 e9 eo eq
    go_wp2_with fail
    refine (nearerBelow_any _ s hs).mono ?_
    rintro e w10 ⟨rfl, rfl⟩
    have hne : w9.heap.size ≠ w.heap.size := by omega
    have hne2 : w.heap.size ≠ w9.heap.size := by omega
    cases hnb : nbS s
    · have R1' : Rep w9 (w.heap.size + 1) (.slice a8 k8 p8) (belowS s) := by rw [HB.out, hnb]; simpa using R1
      clear HS HB HA HO HQ HN
      go_wp2
      refine bodyPost_ret (v := .agg #[.slice a7 k7 p7, .slice a8 k8 p8, .slice a9 k9 p9, .slice ao ko po, .bool ev]) (by simp [results, Tryz.results164, go_sem, *]) rfl ⟨_, _, _, _, rfl, ?_⟩
      have hg : w.heap.size < w.heap.size + 1 := by omega
      rw [hoS]
      exact ⟨((((((R0.set hg 0 _).set hg 1 _).set hg 2 _).set hg 3 _).set hg 4 _).alloc _).base (Nat.zero_le _), ((((((R1'.set hg 0 _).set hg 1 _).set hg 2 _).set hg 3 _).set hg 4 _).alloc _).base (Nat.zero_le _), ((((((R2.set hg 0 _).set hg 1 _).set hg 2 _).set hg 3 _).set hg 4 _).alloc _).base (Nat.zero_le _), ((((((R3.set hg 0 _).set hg 1 _).set hg 2 _).set hg 3 _).set hg 4 _).alloc _).base (Nat.zero_le _), (((((hbelow.setCell (p := ⟨w.heap.size, 0, none⟩) (Nat.le_refl _) _).setCell (p := ⟨w.heap.size, 1, none⟩) (Nat.le_refl _) _).setCell (p := ⟨w.heap.size, 2, none⟩) (Nat.le_refl _) _).setCell (p := ⟨w.heap.size, 3, none⟩) (Nat.le_refl _) _).setCell (p := ⟨w.heap.size, 4, none⟩) (Nat.le_refl _) _).alloc (by simp; omega) _⟩
    · have R1' : Rep w9 (w.heap.size + 1) (.slice aq kq pq) (belowS s) := by rw [HB.out, hnb]; simpa using Rq
      clear HS HB HA HO HQ HN
      go_wp2
      refine bodyPost_ret (v := .agg #[.slice a7 k7 p7, .slice aq kq pq, .slice a9 k9 p9, .slice ao ko po, .bool ev]) (by simp [results, Tryz.results164, go_sem, *]) rfl ⟨_, _, _, _, rfl, ?_⟩
      have hg : w.heap.size < w.heap.size + 1 := by omega
      rw [hoS]
      exact ⟨((((((R0.set hg 0 _).set hg 1 _).set hg 2 _).set hg 3 _).set hg 4 _).alloc _).base (Nat.zero_le _), ((((((R1'.set hg 0 _).set hg 1 _).set hg 2 _).set hg 3 _).set hg 4 _).alloc _).base (Nat.zero_le _), ((((((R2.set hg 0 _).set hg 1 _).set hg 2 _).set hg 3 _).set hg 4 _).alloc _).base (Nat.zero_le _), ((((((R3.set hg 0 _).set hg 1 _).set hg 2 _).set hg 3 _).set hg 4 _).alloc _).base (Nat.zero_le _), (((((hbelow.setCell (p := ⟨w.heap.size, 0, none⟩) (Nat.le_refl _) _).setCell (p := ⟨w.heap.size, 1, none⟩) (Nat.le_refl _) _).setCell (p := ⟨w.heap.size, 2, none⟩) (Nat.le_refl _) _).setCell (p := ⟨w.heap.size, 3, none⟩) (Nat.le_refl _) _).setCell (p := ⟨w.heap.size, 4, none⟩) (Nat.le_refl _) _).alloc (by simp; omega) _⟩

end Go.Proofs.YthdcceackfdbbaaGreatDoor
/- Walk: scale. Own text. -/
namespace Go.Proofs.YthdcceackfdbbaaGreatDoor
open Go.RowKit
attribute [local go_sem ↓] Go.wp_at_zero Go.wp_at_succ

/-- A number whose words lie in another block than g. -/
def Num (w : World) (g : Nat) (v : Value) (n : Nat) : Prop := Rep w 0 v n ∧ ∀ k, v.ownBlock = some k → k ≠ g

theorem Num.below {w w' : World} {g : Nat} {v : Value} {n : Nat} (h : Num w g v n) (hb : Below w.heap.size w w') : Num w' g v n := ⟨h.1.below hb, h.2⟩
theorem Num.drewN {w : World} {g : Nat} {v : Value} {n : Nat} (h : Num w g v n) (k : Nat) : Num (w.drewN k) g v n := ⟨h.1.drewN k, h.2⟩
theorem Num.set {w : World} {g : Nat} {v : Value} {n : Nat} (h : Num w g v n) (i : Nat) (u : Value) : Num (w.setCell ⟨g, i, none⟩ u) g v n := by
  obtain ⟨⟨l, h1, h2⟩, h3⟩ := h
  exact ⟨⟨l, h1.setOther (a := ⟨g, i, none⟩) u h3, h2⟩, h3⟩
theorem num_new {w : World} {B g : Nat} {v : Value} {n : Nat} (h : Rep w B v n) (hg : g < B) : Num w g v n := by
  refine ⟨h.base (Nat.zero_le _), ?_⟩
  obtain ⟨l, h1, _⟩ := h
  intro k hk
  have := (h1.1.lt k hk).1
  omega
theorem num_old {w : World} {B g : Nat} {v : Value} {n : Nat} (h : Rep w B v n) (hg : w.heap.size ≤ g) : Num w g v n := by
  refine ⟨h.base (Nat.zero_le _), ?_⟩
  obtain ⟨l, h1, _⟩ := h
  intro k hk
  have := (h1.1.lt k hk).2
  omega

/-- The span that lies in block g. -/
structure Spn (w : World) (g : Nat) (v0 v1 v2 v3 : Value) (ev : Bool) (S B A D : Nat) : Prop where
  lt : g < w.heap.size
  fr : ∀ i, w.frozen? ⟨g, i, none⟩ = false
  c0 : w.cell? ⟨g, 0, none⟩ = some v0
  c1 : w.cell? ⟨g, 1, none⟩ = some v1
  c2 : w.cell? ⟨g, 2, none⟩ = some v2
  c3 : w.cell? ⟨g, 3, none⟩ = some v3
  c4 : w.cell? ⟨g, 4, none⟩ = some (.bool ev)
  n0 : Num w g v0 S
  n1 : Num w g v1 B
  n2 : Num w g v2 A
  n3 : Num w g v3 D

theorem Spn.below {w w' : World} {g : Nat} {v0 v1 v2 v3 : Value} {ev : Bool} {S B A D : Nat} (h : Spn w g v0 v1 v2 v3 ev S B A D) (hb : Below w.heap.size w w') : Spn w' g v0 v1 v2 v3 ev S B A D := by
  obtain ⟨hc, hf⟩ := bcell hb
  exact ⟨Nat.lt_of_lt_of_le h.lt hb.size, fun i => (hf g i h.lt).trans (h.fr i), (hc g 0 h.lt).trans h.c0, (hc g 1 h.lt).trans h.c1, (hc g 2 h.lt).trans h.c2, (hc g 3 h.lt).trans h.c3, (hc g 4 h.lt).trans h.c4, h.n0.below hb, h.n1.below hb, h.n2.below hb, h.n3.below hb⟩

theorem Spn.drewN {w : World} {g : Nat} {v0 v1 v2 v3 : Value} {ev : Bool} {S B A D : Nat} (h : Spn w g v0 v1 v2 v3 ev S B A D) (n : Nat) : Spn (w.drewN n) g v0 v1 v2 v3 ev S B A D := h.below (below_drewN (Below.refl _ _) n)

section sets
variable {w : World} {g : Nat} {v0 v1 v2 v3 v : Value} {ev : Bool} {S B A D N : Nat}

theorem fr_set (h : ∀ i, w.frozen? ⟨g, i, none⟩ = false) (j : Nat) (v : Value) : ∀ i, (w.setCell ⟨g, j, none⟩ v).frozen? ⟨g, i, none⟩ = false := by
  intro i; simpa using h i

theorem Spn.set0 (h : Spn w g v0 v1 v2 v3 ev S B A D) (hv : Num w g v N) : Spn (w.setCell ⟨g, 0, none⟩ v) g v v1 v2 v3 ev N B A D :=
  ⟨by simpa using h.lt, fr_set h.fr _ _, World.cell?_setCell_same _ _ _ h.c0, (World.cell?_setCell_other _ _ _ _ (by simp)).trans h.c1, (World.cell?_setCell_other _ _ _ _ (by simp)).trans h.c2, (World.cell?_setCell_other _ _ _ _ (by simp)).trans h.c3, (World.cell?_setCell_other _ _ _ _ (by simp)).trans h.c4, hv.set _ _, h.n1.set _ _, h.n2.set _ _, h.n3.set _ _⟩
theorem Spn.set1 (h : Spn w g v0 v1 v2 v3 ev S B A D) (hv : Num w g v N) : Spn (w.setCell ⟨g, 1, none⟩ v) g v0 v v2 v3 ev S N A D :=
  ⟨by simpa using h.lt, fr_set h.fr _ _, (World.cell?_setCell_other _ _ _ _ (by simp)).trans h.c0, World.cell?_setCell_same _ _ _ h.c1, (World.cell?_setCell_other _ _ _ _ (by simp)).trans h.c2, (World.cell?_setCell_other _ _ _ _ (by simp)).trans h.c3, (World.cell?_setCell_other _ _ _ _ (by simp)).trans h.c4, h.n0.set _ _, hv.set _ _, h.n2.set _ _, h.n3.set _ _⟩
theorem Spn.set2 (h : Spn w g v0 v1 v2 v3 ev S B A D) (hv : Num w g v N) : Spn (w.setCell ⟨g, 2, none⟩ v) g v0 v1 v v3 ev S B N D :=
  ⟨by simpa using h.lt, fr_set h.fr _ _, (World.cell?_setCell_other _ _ _ _ (by simp)).trans h.c0, (World.cell?_setCell_other _ _ _ _ (by simp)).trans h.c1, World.cell?_setCell_same _ _ _ h.c2, (World.cell?_setCell_other _ _ _ _ (by simp)).trans h.c3, (World.cell?_setCell_other _ _ _ _ (by simp)).trans h.c4, h.n0.set _ _, h.n1.set _ _, hv.set _ _, h.n3.set _ _⟩
theorem Spn.set3 (h : Spn w g v0 v1 v2 v3 ev S B A D) (hv : Num w g v N) : Spn (w.setCell ⟨g, 3, none⟩ v) g v0 v1 v2 v ev S B A N :=
  ⟨by simpa using h.lt, fr_set h.fr _ _, (World.cell?_setCell_other _ _ _ _ (by simp)).trans h.c0, (World.cell?_setCell_other _ _ _ _ (by simp)).trans h.c1, (World.cell?_setCell_other _ _ _ _ (by simp)).trans h.c2, World.cell?_setCell_same _ _ _ h.c3, (World.cell?_setCell_other _ _ _ _ (by simp)).trans h.c4, h.n0.set _ _, h.n1.set _ _, h.n2.set _ _, hv.set _ _⟩
end sets

theorem ten_le_bl {D S k : Nat} (h0 : D ≠ 0) (h : D * 10 ^ k ≤ S) (hS : bl S ≤ 9000) : k ≤ 9000 := by
  have h1 : 2 ^ k ≤ S := Nat.le_trans (Nat.pow_le_pow_left (by omega : 2 ≤ 10) k) (Nat.le_trans (Nat.le_mul_of_pos_left _ (by omega)) h)
  have h2 := bl_hi S
  have h3 : k < bl S := (Nat.pow_lt_pow_iff_right (by omega : 1 < 2)).1 (Nat.lt_of_le_of_lt h1 h2)
  omega

set_option maxRecDepth 20000 in
set_option maxHeartbeats 1600000 in
theorem scale_up (w : World) (g : Nat) (v0 v1 v2 v3 : Value) (ev : Bool) (S1 B1 A1 D D1 n : Nat) (h : Spn w g v0 v1 v2 v3 ev S1 B1 A1 D) (hn : n ≤ 400) (hD : Small D) (hS : bl S1 ≤ 9000) (hD1 : D1 = D * 10 ^ n) (hlow : D1 ≤ S1) (hD0 : D1 ≠ 0) :
    Calls Tryz.prog 165 #[.pointer (some ⟨g, 0, none⟩), .int .i64 (n : Int)] w fun e w' => ∃ (t : Nat) (v0' v1' v2' v3' : Value), e = .returned (.int .i64 ((n : Int) + t)) ∧ t ≤ 9000 ∧
      Spn w' g v0' v1' v2' v3' ev S1 B1 A1 (D1 * 10 ^ t) ∧ D1 * 10 ^ t ≤ S1 ∧ S1 < 10 * (D1 * 10 ^ t) ∧ Below g w w' := by
  have hn4 : n ≤ 4000 := by omega
  have hpos : decide (0 ≤ (n : Int)) = true := by simp
  have hlt := h.lt
  have h3 := h.c3
  have n3 := h.n3
  have fr := h.fr
  have HSP0 : Hid (Spn w g v0 v1 v2 v3 ev S1 B1 A1 D) := h
  have HD1 : Hid (D1 = D * 10 ^ n) := hD1
  clear h hD1
  go_enter Tryz.func165, Tryz.ntmps165
  go_upto_region 2 with fail
  go_cut [1] from 8 to 17 (fun t wx => t = .int .i64 (n : Int) ∧ ∃ x3, Spn wx g v0 v1 v2 x3 ev S1 B1 A1 D1 ∧ Below g w wx)
  case first =>
    go_region_with
      (first
        | (go_at_call 160; refine (tenTo_any _ n _ hn4 rfl).mono ?_; rintro e wa ⟨va, rfl, ra, ba⟩; have ya := (ba.cell (p := ⟨g, 3, none⟩) hlt).trans h3; have fa : ∀ i, wa.frozen? ⟨g, i, none⟩ = false := (fun i => (ba.frozen (p := ⟨g, i, none⟩) hlt).trans (fr i)))
        | (go_at_call 159; refine (mul_rep _ v3 va D (10 ^ n) ((n3.1.below (Below.refl _ _).drew).below ba) (ra.base (Nat.zero_le _)) hD (ten_small hn4)).mono ?_; rintro e wb ⟨vb, rfl, rb, bb⟩; obtain ⟨ab, kb, pb, eb⟩ := rb.form; subst eb; have yb := (bb.cell (p := ⟨g, 3, none⟩) (Nat.lt_of_lt_of_le hlt ba.size)).trans ya; have fb : ∀ i, wb.frozen? ⟨g, i, none⟩ = false := (fun i => (bb.frozen (p := ⟨g, i, none⟩) (Nat.lt_of_lt_of_le hlt ba.size)).trans (fa i))))
    all_goals
      have bAll : Below w.heap.size w wb := ((Below.refl w.heap.size w).drew.trans ba).trans (bb.mono ba.size)
      have sp1 : Spn (wb.setCell ⟨g, 3, none⟩ (.slice ab kb pb)) g v0 v1 v2 (.slice ab kb pb) ev S1 B1 A1 D1 := by
        rw [HD1.out]; exact (HSP0.out.below bAll).set3 (num_new rb (Nat.lt_of_lt_of_le hlt ba.size))
      have bw1 : Below g w (wb.setCell ⟨g, 3, none⟩ (.slice ab kb pb)) := (bAll.mono (Nat.le_of_lt hlt)).setCell (p := ⟨g, 3, none⟩) (Nat.le_refl _) _
      go_wp2_with fail
      go_meet
      exact ⟨rfl, _, sp1, bw1⟩
  case rest =>
  obtain ⟨rfl, z3, sp1, bw1⟩ := hcut
  go_wp2_with fail
  go_loopw [1] (fun t wr => ∃ (k : Nat) (x0 x1 x2 x3 : Value), t = .int .i64 ((n : Int) + (k : Int)) ∧ Spn wr g x0 x1 x2 x3 ev S1 B1 A1 (D1 * 10 ^ k) ∧ D1 * 10 ^ k ≤ S1 ∧ Below g w wr) (fun t _ => ((n : Int) + 9001 - intOf t).toNat)
  case atStart => exact ⟨0, _, _, _, _, by simp, by simpa using sp1, by simpa using hlow, bw1⟩
  case round =>
    obtain ⟨k, x0, x1, x2, x3, rfl, sp, hle, hbel⟩ := hrel
    have hk := ten_le_bl hD0 hle hS
    have HLE : Hid (D1 * 10 ^ k ≤ S1) := hle
    have HSP : Hid (Spn wr g x0 x1 x2 x3 ev S1 B1 A1 (D1 * 10 ^ k)) := sp
    have HBE : Hid (Below g w wr) := hbel
    have smS : Small S1 := small_of_bl hS (by omega)
    have smD : Small (D1 * 10 ^ k) := smS.le hle
    have hltr := sp.lt
    have y0 := sp.c0
    have y3 := sp.c3
    have m0 := sp.n0
    have m3 := sp.n3
    have frr := sp.fr
    clear hle sp hbel
    generalize hDk : D1 * 10 ^ k = Dk at *
    have HDK : Hid (D1 * 10 ^ k = Dk) := hDk
    clear hDk
    go_wp2_with fail
    go_region_held3 (fun w' => w'.cell? ⟨g, 0, none⟩ = some x0 ∧ w'.cell? ⟨g, 3, none⟩ = some x3) (go_keep)
      (first
        | (go_at_call 171; refine (tenfold_any _ x3 Dk (m3.1.below (Below.refl _ _).drew) smD).mono ?_; rintro e wa ⟨va, rfl, ra, ba⟩; have ya := (ba.cell (p := ⟨g, 0, none⟩) hltr).trans y0; have yb := (ba.cell (p := ⟨g, 3, none⟩) hltr).trans y3)
        | (go_at_call 197; refine (compare_rep _ x0 va S1 (Dk * 10) ((m0.1.below (Below.refl _ _).drew).below ba) (ra.base (Nat.zero_le _)) smS).mono ?_; rintro e wb ⟨rfl, nq, rfl⟩))
    have spa := HSP.out.below ((Below.refl _ _).drew.trans ba)
    have bela : Below g w wa := HBE.out.trans (((Below.refl _ _).drew.trans ba).mono (Nat.le_of_lt hltr))
    clear ba ra y0 y3 m0 m3 frr HSP HBE hltr ya yb
    by_cases hc : Dk * 10 ≤ S1
    · have hcb : ¬ cmpI (S1 : Int) ((Dk : Int) * 10) < 0 := by
        rcases Nat.lt_or_eq_of_le hc with h' | h'
        · rw [cmpI_gt (by omega)]; omega
        · rw [cmpI_eq (by omega)]; omega
      have spb := spa.drewN nq
      have belb : Below g w (wa.drewN nq) := below_drewN bela nq
      have hlb := spb.lt
      have y3 := spb.c3
      have m3 := spb.n3
      have frb := spb.fr
      have HSPB : Hid (Spn (wa.drewN nq) g x0 x1 x2 x3 ev S1 B1 A1 Dk) := spb
      have HBEB : Hid (Below g w (wa.drewN nq)) := belb
      clear spa bela spb belb
      generalize wa.drewN nq = wd at *
      go_wp2_with fail
      refine (tenfold_any _ x3 Dk m3.1 smD).mono ?_
      rintro e we ⟨ve, rfl, re, be⟩
      obtain ⟨ae, ke, pe, ee⟩ := re.form
      subst ee
      have ye := (be.cell (p := ⟨g, 3, none⟩) hlb).trans y3
      have fe : we.frozen? ⟨g, 3, none⟩ = false := (be.frozen (p := ⟨g, 3, none⟩) hlb).trans (frb 3)
      go_wp2
      go_roundw
      case rel =>
        refine ⟨k + 1, x0, x1, x2, .slice ae ke pe, by go_num, ?_, ?_, ?_⟩
        · rw [Nat.pow_succ, ← Nat.mul_assoc, HDK.out]
          exact (HSPB.out.below be).set3 (num_new re hlb)
        · rw [Nat.pow_succ, ← Nat.mul_assoc, HDK.out]; exact hc
        · exact (HBEB.out.trans (be.mono (Nat.le_of_lt hlb))).setCell (p := ⟨g, 3, none⟩) (Nat.le_refl _) _
      case measure => simp [intOf]; omega
    · have hcb : cmpI (S1 : Int) ((Dk : Int) * 10) < 0 := by rw [cmpI_lt (by omega)]; omega
      go_wp2
      go_ret
      refine ⟨k, x0, x1, x2, x3, rfl, by omega, ?_, ?_, ?_, below_drewN bela nq⟩
      · rw [HDK.out]; exact spa.drewN nq
      · rw [HDK.out]; exact HLE.out
      · rw [HDK.out]; omega

set_option maxRecDepth 20000 in
set_option maxHeartbeats 1600000 in
theorem scale_down (w : World) (g : Nat) (v0 v1 v2 v3 : Value) (ev : Bool) (S B A S1 B1 A1 D1 n : Nat) (h : Spn w g v0 v1 v2 v3 ev S B A D1) (hn : n ≤ 400) (hn0 : 1 ≤ n) (smS0 : Small S) (smB0 : Small B) (smA0 : Small A) (hS : bl S1 ≤ 9000) (hS1 : S1 = S * 10 ^ n) (hB1 : B1 = B * 10 ^ n) (hA1 : A1 = A * 10 ^ n) (hlow : D1 ≤ S1) (hD0 : D1 ≠ 0) :
    Calls Tryz.prog 165 #[.pointer (some ⟨g, 0, none⟩), .int .i64 (-(n : Int))] w fun e w' => ∃ (t : Nat) (v0' v1' v2' v3' : Value), e = .returned (.int .i64 (-(n : Int) + t)) ∧ t ≤ 9000 ∧
      Spn w' g v0' v1' v2' v3' ev S1 B1 A1 (D1 * 10 ^ t) ∧ D1 * 10 ^ t ≤ S1 ∧ S1 < 10 * (D1 * 10 ^ t) ∧ Below g w w' := by
  have hn4 : n ≤ 4000 := by omega
  have hpos : decide (0 ≤ -(n : Int)) = false := by simp; omega
  have hlt := h.lt
  have HSP0 : Hid (Spn w g v0 v1 v2 v3 ev S B A D1) := h
  have HS1 : Hid (S1 = S * 10 ^ n) := hS1
  have HB1 : Hid (B1 = B * 10 ^ n) := hB1
  have HA1 : Hid (A1 = A * 10 ^ n) := hA1
  clear h hS1 hB1 hA1
  have sm10 := ten_small hn4
  go_enter Tryz.func165, Tryz.ntmps165
  go_wp2_with fail
  refine (tenTo_any _ n _ hn4 rfl).mono ?_
  rintro e wa ⟨va, rfl, ra, ba⟩
  have na := num_new ra hlt
  have sp := HSP0.out.below ba
  have q0 := sp.c0
  have q1 := sp.n0
  have q2 := sp.fr 0
  have HSP : Hid (Spn wa g v0 v1 v2 v3 ev S B A D1) := sp
  have bel : Below g w wa := ba.mono (Nat.le_of_lt hlt)
  clear sp ra ba
  go_wp2_with fail
  refine (mul_rep _ v0 va S (10 ^ n) q1.1 na.1 smS0 sm10).mono ?_
  rintro e wb ⟨vb, rfl, rb, bb⟩
  obtain ⟨ab, kb, pb, eb⟩ := rb.form
  subst eb
  have hlb := HSP.out.lt
  have g1 := (bb.cell (p := ⟨g, 0, none⟩) hlb).trans q0
  have g2 := (bb.frozen (p := ⟨g, 0, none⟩) hlb).trans q2
  have sp : Spn (wb.setCell ⟨g, 0, none⟩ (.slice ab kb pb)) g (.slice ab kb pb) v1 v2 v3 ev S1 B A D1 := by rw [HS1.out]; exact (HSP.out.below bb).set0 (num_new rb hlb)
  have na := (na.below bb).set 0 (.slice ab kb pb)
  have bel := (bel.trans (bb.mono (Nat.le_of_lt hlb))).setCell (p := ⟨g, 0, none⟩) (Nat.le_refl _) (.slice ab kb pb)
  have HN : Hid (Num (wb.setCell ⟨g, 0, none⟩ (.slice ab kb pb)) g va (10 ^ n)) := na
  have HB : Hid (Below g w (wb.setCell ⟨g, 0, none⟩ (.slice ab kb pb))) := bel
  have HP : Hid (Spn (wb.setCell ⟨g, 0, none⟩ (.slice ab kb pb)) g (.slice ab kb pb) v1 v2 v3 ev S1 B A D1) := sp
  clear sp bel na HSP q0 q1 q2
  go_upto_region 5 with fail
  clear g1 g2 rb bb
  have q0 := HP.out.c1
  have q1 := HP.out.n1
  have q2 := HP.out.fr 1
  have na := HN.out
  have bel := HB.out
  have HSP := HP
  clear HN HB HP
  generalize (wb.setCell ⟨g, 0, none⟩ (.slice ab kb pb)) = wrb at *
  go_wp2_with fail
  refine (mul_rep _ v1 va B (10 ^ n) q1.1 na.1 smB0 sm10).mono ?_
  rintro e wc ⟨vc, rfl, rc, bc⟩
  obtain ⟨ac, kc, pc, ec⟩ := rc.form
  subst ec
  have hlc := HSP.out.lt
  have g1 := (bc.cell (p := ⟨g, 1, none⟩) hlc).trans q0
  have g2 := (bc.frozen (p := ⟨g, 1, none⟩) hlc).trans q2
  have sp : Spn (wc.setCell ⟨g, 1, none⟩ (.slice ac kc pc)) g (.slice ab kb pb) (.slice ac kc pc) v2 v3 ev S1 B1 A D1 := by rw [HB1.out]; exact (HSP.out.below bc).set1 (num_new rc hlc)
  have na := (na.below bc).set 1 (.slice ac kc pc)
  have bel := (bel.trans (bc.mono (Nat.le_of_lt hlc))).setCell (p := ⟨g, 1, none⟩) (Nat.le_refl _) (.slice ac kc pc)
  have HN : Hid (Num (wc.setCell ⟨g, 1, none⟩ (.slice ac kc pc)) g va (10 ^ n)) := na
  have HB : Hid (Below g w (wc.setCell ⟨g, 1, none⟩ (.slice ac kc pc))) := bel
  have HP : Hid (Spn (wc.setCell ⟨g, 1, none⟩ (.slice ac kc pc)) g (.slice ab kb pb) (.slice ac kc pc) v2 v3 ev S1 B1 A D1) := sp
  clear sp bel na HSP q0 q1 q2
  go_upto_region 6 with fail
  clear g1 g2 rc bc
  have q0 := HP.out.c2
  have q1 := HP.out.n2
  have q2 := HP.out.fr 2
  have na := HN.out
  have bel := HB.out
  have HSP := HP
  clear HN HB HP
  generalize (wc.setCell ⟨g, 1, none⟩ (.slice ac kc pc)) = wrc at *
  go_wp2_with fail
  refine (mul_rep _ v2 va A (10 ^ n) q1.1 na.1 smA0 sm10).mono ?_
  rintro e wd ⟨vd, rfl, rd, bd⟩
  obtain ⟨ad, kd, pd, ed⟩ := rd.form
  subst ed
  have hld := HSP.out.lt
  have g1 := (bd.cell (p := ⟨g, 2, none⟩) hld).trans q0
  have g2 := (bd.frozen (p := ⟨g, 2, none⟩) hld).trans q2
  have sp : Spn (wd.setCell ⟨g, 2, none⟩ (.slice ad kd pd)) g (.slice ab kb pb) (.slice ac kc pc) (.slice ad kd pd) v3 ev S1 B1 A1 D1 := by rw [HA1.out]; exact (HSP.out.below bd).set2 (num_new rd hld)
  have na := (na.below bd).set 2 (.slice ad kd pd)
  have bel := (bel.trans (bd.mono (Nat.le_of_lt hld))).setCell (p := ⟨g, 2, none⟩) (Nat.le_refl _) (.slice ad kd pd)
  have sp1 := sp
  have bw1 := bel
  clear sp bel na HSP q0 q1 q2
  go_wp2_with fail
  go_loopw [1] (fun t wr => ∃ (k : Nat) (x0 x1 x2 x3 : Value), t = .int .i64 (-(n : Int) + (k : Int)) ∧ Spn wr g x0 x1 x2 x3 ev S1 B1 A1 (D1 * 10 ^ k) ∧ D1 * 10 ^ k ≤ S1 ∧ Below g w wr) (fun t _ => (-(n : Int) + 9001 - intOf t).toNat)
  case atStart => exact ⟨0, _, _, _, _, by simp, by simpa using sp1, by simpa using hlow, bw1⟩
  case round =>
    obtain ⟨k, x0, x1, x2, x3, rfl, sp, hle, hbel⟩ := hrel
    have hk := ten_le_bl hD0 hle hS
    have HLE : Hid (D1 * 10 ^ k ≤ S1) := hle
    have HSP : Hid (Spn wr g x0 x1 x2 x3 ev S1 B1 A1 (D1 * 10 ^ k)) := sp
    have HBE : Hid (Below g w wr) := hbel
    have smS : Small S1 := small_of_bl hS (by omega)
    have smD : Small (D1 * 10 ^ k) := smS.le hle
    have hltr := sp.lt
    have y0 := sp.c0
    have y3 := sp.c3
    have m0 := sp.n0
    have m3 := sp.n3
    have frr := sp.fr
    clear hle sp hbel
    generalize hDk : D1 * 10 ^ k = Dk at *
    have HDK : Hid (D1 * 10 ^ k = Dk) := hDk
    clear hDk
    go_wp2_with fail
    go_region_held3 (fun w' => w'.cell? ⟨g, 0, none⟩ = some x0 ∧ w'.cell? ⟨g, 3, none⟩ = some x3) (go_keep)
      (first
        | (go_at_call 171; refine (tenfold_any _ x3 Dk (m3.1.below (Below.refl _ _).drew) smD).mono ?_; rintro e wa ⟨va, rfl, ra, ba⟩; have ya := (ba.cell (p := ⟨g, 0, none⟩) hltr).trans y0; have yb := (ba.cell (p := ⟨g, 3, none⟩) hltr).trans y3)
        | (go_at_call 197; refine (compare_rep _ x0 va S1 (Dk * 10) ((m0.1.below (Below.refl _ _).drew).below ba) (ra.base (Nat.zero_le _)) smS).mono ?_; rintro e wb ⟨rfl, nq, rfl⟩))
    have spa := HSP.out.below ((Below.refl _ _).drew.trans ba)
    have bela : Below g w wa := HBE.out.trans (((Below.refl _ _).drew.trans ba).mono (Nat.le_of_lt hltr))
    clear ba ra y0 y3 m0 m3 frr HSP HBE hltr ya yb
    by_cases hc : Dk * 10 ≤ S1
    · have hcb : ¬ cmpI (S1 : Int) ((Dk : Int) * 10) < 0 := by
        rcases Nat.lt_or_eq_of_le hc with h' | h'
        · rw [cmpI_gt (by omega)]; omega
        · rw [cmpI_eq (by omega)]; omega
      have spb := spa.drewN nq
      have belb : Below g w (wa.drewN nq) := below_drewN bela nq
      have hlb := spb.lt
      have y3 := spb.c3
      have m3 := spb.n3
      have frb := spb.fr
      have HSPB : Hid (Spn (wa.drewN nq) g x0 x1 x2 x3 ev S1 B1 A1 Dk) := spb
      have HBEB : Hid (Below g w (wa.drewN nq)) := belb
      clear spa bela spb belb
      generalize wa.drewN nq = wd at *
      go_wp2_with fail
      refine (tenfold_any _ x3 Dk m3.1 smD).mono ?_
      rintro e we ⟨ve, rfl, re, be⟩
      obtain ⟨ae, ke, pe, ee⟩ := re.form
      subst ee
      have ye := (be.cell (p := ⟨g, 3, none⟩) hlb).trans y3
      have fe : we.frozen? ⟨g, 3, none⟩ = false := (be.frozen (p := ⟨g, 3, none⟩) hlb).trans (frb 3)
      go_wp2
      go_roundw
      case rel =>
        refine ⟨k + 1, x0, x1, x2, .slice ae ke pe, by go_num, ?_, ?_, ?_⟩
        · rw [Nat.pow_succ, ← Nat.mul_assoc, HDK.out]
          exact (HSPB.out.below be).set3 (num_new re hlb)
        · rw [Nat.pow_succ, ← Nat.mul_assoc, HDK.out]; exact hc
        · exact (HBEB.out.trans (be.mono (Nat.le_of_lt hlb))).setCell (p := ⟨g, 3, none⟩) (Nat.le_refl _) _
      case measure => simp [intOf]; omega
    · have hcb : cmpI (S1 : Int) ((Dk : Int) * 10) < 0 := by rw [cmpI_lt (by omega)]; omega
      go_wp2
      go_ret
      refine ⟨k, x0, x1, x2, x3, rfl, by omega, ?_, ?_, ?_, below_drewN bela nq⟩
      · rw [HDK.out]; exact spa.drewN nq
      · rw [HDK.out]; exact HLE.out
      · rw [HDK.out]; omega

end Go.Proofs.YthdcceackfdbbaaGreatDoor
