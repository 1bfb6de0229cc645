/- Walk: spanOf. Own text. -/
import Derived.Test.YthdcceackfdbbaaDoorPa
namespace Go.Proofs.YthdcceackfdbbaaDoor
open Go.RowKit

def qS (s : Nat) : Nat := 2 ^ (eS s).toNat
/-- The size, its reaches, and what one is, all as whole numbers. -/
def sizeS (s : Nat) : Nat := mS s * (4 * qS s)
def belowS (s : Nat) : Nat := if nbS s then qS s else 2 * qS s
def aboveS (s : Nat) : Nat := 2 * qS s
def oneS (s : Nat) : Nat := 4 * 2 ^ (-eS s).toNat

theorem bl_two (n : Nat) : bl (2 ^ n) ≤ n + 1 := bl_le (Nat.pow_lt_pow_right (by omega) (by omega))

theorem small_shift {a k n : Nat} (h : bl a ≤ k) (hk : k + n ≤ 65536) : Small (a * 2 ^ n) := small_of_bl (k := k + n) (Nat.le_trans (bl_shift a n) (by omega)) hk

theorem bl_const (a k : Nat) (h : a < 2 ^ k) : bl a ≤ k := bl_le h

theorem Rep.form {w : World} {B : Nat} {v : Value} {n : Nat} (h : Rep w B v n) : ∃ ao k cap, v = .slice ao k cap := by
  obtain ⟨l, h1, _⟩ := h
  obtain ⟨ao, cap, rfl, _⟩ := h1.shape1
  exact ⟨ao, _, cap, rfl⟩

theorem Rep.set {w : World} {B : Nat} {v : Value} {n g : Nat} (h : Rep w B v n) (hg : g < B) (i : Nat) (u : Value) : Rep (w.setCell ⟨g, i, none⟩ u) B v n := by
  obtain ⟨l, h1, h2⟩ := h
  exact ⟨l, h1.setOther (a := ⟨g, i, none⟩) u (fun k hk => by have := (h1.1.lt k hk).1; exact Nat.ne_of_gt (Nat.lt_of_lt_of_le hg this)), h2⟩

theorem Rep.alloc {w : World} {B : Nat} {v : Value} {n : Nat} (h : Rep w B v n) (o : Obj) : Rep (w.alloc o) B v n := h.below ((Below.refl _ _).alloc (Nat.le_refl _) o)

theorem small_one : Small 1 := small_of_bl (k := 1) (bl_le (n := 1) (k := 1) (by omega)) (by omega)
theorem small_four : Small 4 := small_of_bl (k := 3) (bl_le (n := 4) (k := 3) (by omega)) (by omega)
theorem small_m {m : Nat} (h : m < 9007199254740992) : Small m := small_of_bl (k := 53) (bl_le (n := m) (k := 53) (by omega)) (by omega)

theorem qS_bl {s : Nat} (h : s < 9218868437227405312) : bl (qS s) ≤ 972 := by
  have := eS_bd h
  exact Nat.le_trans (bl_two _) (by omega)

set_option maxRecDepth 20000 in
set_option maxHeartbeats 1600000 in
theorem spanOf_any (w : World) (s : Nat) (hs : s < 9218868437227405312) :
    Calls Tryd.prog 52 #[.int .u64 (s : Int)] w fun e w' => ∃ v0 v1 v2 v3, e = .returned (.agg #[v0, v1, v2, v3, .bool (decide (s % 2 = 0))]) ∧
      Rep w' 0 v0 (sizeS s) ∧ Rep w' 0 v1 (belowS s) ∧ Rep w' 0 v2 (aboveS s) ∧ Rep w' 0 v3 (oneS s) ∧ Below w.heap.size w w' := by
  have hm := mS_lt s
  obtain ⟨he1, he2⟩ := eS_bd hs
  have hqb := qS_bl hs
  have hodd : (bits BinOp.and IntKind.u64 (s : Int) 1 == 0) = decide (s % 2 = 0) := by
    rw [and_one_u64 _ (by omega) (by omega)]
    by_cases h : s % 2 = 0
    · rw [decide_eq_true h]; simp; omega
    · rw [decide_eq_false h]; simp; omega
  have hodd2 : ((s : Int) % 2 == 0) = decide (s % 2 = 0) := by
    by_cases h : s % 2 = 0
    · rw [decide_eq_true h]; simp; omega
    · rw [decide_eq_false h]; simp; omega
  generalize decide (s % 2 = 0) = ev at *
  have HS : Hid (sizeS s = mS s * (qS s * 2 ^ 2)) := by unfold Hid sizeS; rw [Nat.mul_comm 4]
  have HB : Hid (belowS s = if nbS s then qS s else qS s * 2 ^ 1) := by unfold Hid belowS; simp [Nat.mul_comm]
  have HA : Hid (aboveS s = qS s * 2 ^ 1) := by unfold Hid aboveS; omega
  have HO : Hid (oneS s = 4 * 2 ^ (-eS s).toNat) := rfl
  have HQ : Hid (qS s = 1 * 2 ^ (eS s).toNat) := by unfold Hid qS; omega
  go_enter Tryd.func52, Tryd.ntmps52
  go_wp2_with fail
  refine (parts_any _ s hs).mono ?_
  rintro e w1 ⟨rfl, rfl⟩
  generalize mS s = m at *
  generalize eS s = ee at *
  go_wp2_with fail
  refine (of_any _ 1 (by omega)).mono ?_
  rintro e w2 ⟨v2, rfl, r2, b2⟩
  go_wp2_with fail
  refine (of_any _ 4 (by omega)).mono ?_
  rintro e w3 ⟨v3, rfl, r3, b3⟩
  have s2 : w.heap.size + 1 ≤ w2.heap.size := by have := b2.size; simpa using this
  have s3 : w.heap.size + 1 ≤ w3.heap.size := Nat.le_trans s2 b3.size
  have t2 : Rep w3 (w.heap.size + 1) v2 1 := (r2.base (by simp)).below b3
  have t3 : Rep w3 (w.heap.size + 1) v3 4 := r3.base s2
  clear r2 r3
  by_cases hc : 0 ≤ ee
  · obtain ⟨n, hn⟩ : ∃ n : Nat, ee = (n : Int) := ⟨(ee).toNat, by omega⟩
    have hcb : decide (0 ≤ ee) = true := by simp; omega
    have hn2 : n ≤ 971 := by omega
    have HN : Hid ((ee).toNat = n ∧ (-ee).toNat = 0) := ⟨by omega, by omega⟩
    go_wp2_with fail
    have rr2 : Rep w3 0 v2 1 := t2.base (Nat.zero_le _)
    refine (shift_rep w3 v2 1 n rr2 small_one (by omega)).mono ?_
    rintro e w4 ⟨v4, rfl, r4, b4⟩
    have rq : Rep w4 (w.heap.size + 1) v4 (qS s) := by rw [HQ.out, HN.out.1]; exact r4.base s3
    have ro : Rep w4 (w.heap.size + 1) v3 (oneS s) := by rw [HO.out, HN.out.2]; exact t3.below b4
    generalize hqS : qS s = q at *
    generalize hoS : oneS s = o at *
    go_wp2_with fail
    refine (of_any _ (m) (by omega)).mono ?_
    rintro e w5 ⟨v5, rfl, r5, b5⟩
    go_wp2_with fail
    refine (shift_repI _ v4 q 2 2 ((rq.base (Nat.zero_le _)).below b5) (small_of_bl hqb (by omega)) (by omega) rfl).mono ?_
    rintro e w6 ⟨v6, rfl, r6, b6⟩
    go_wp2_with fail
    refine (mul_rep _ v5 v6 (m) (q * 2 ^ 2) ((r5.base (Nat.zero_le _)).below b6) (r6.base (Nat.zero_le _)) (small_m hm) (small_shift hqb (by omega))).mono ?_
    rintro e w7 ⟨v7, rfl, r7, b7⟩
    go_wp2_with fail
    refine (shift_repI _ v4 q 1 1 ((((rq.base (Nat.zero_le _)).below b5).below b6).below b7) (small_of_bl hqb (by omega)) (by omega) rfl).mono ?_
    rintro e w8 ⟨v8, rfl, r8, b8⟩
    go_wp2_with fail
    refine (shift_repI _ v4 q 1 1 (((((rq.base (Nat.zero_le _)).below b5).below b6).below b7).below b8) (small_of_bl hqb (by omega)) (by omega) rfl).mono ?_
    rintro e w9 ⟨v9, rfl, r9, b9⟩
    have z3 := Nat.le_trans b2.size b3.size
    have z4 := Nat.le_trans z3 b4.size
    have z5 := Nat.le_trans z4 b5.size
    have z6 := Nat.le_trans z5 b6.size
    have z7 := Nat.le_trans z6 b7.size
    have z8 := Nat.le_trans z7 b8.size
    have y6 : w.heap.size + 1 ≤ w6.heap.size := by simpa using z6
    have y7 : w.heap.size + 1 ≤ w7.heap.size := by simpa using z7
    have y8 : w.heap.size + 1 ≤ w8.heap.size := by simpa using z8
    have bAll := (((((((b2.trans (b3.mono b2.size)).trans (b4.mono z3)).trans (b5.mono z4)).trans (b6.mono z5)).trans (b7.mono z6)).trans (b8.mono z7)).trans (b9.mono z8))
    have hsz9 : w.heap.size < w9.heap.size := Nat.lt_of_lt_of_le (by simp) bAll.size
    have hbelow : Below w.heap.size w w9 := ((Below.refl _ _).alloc (Nat.le_refl _) _).trans (bAll.mono (by simp))
    obtain ⟨hcl, hfr⟩ := bcell bAll
    have c0 := hcl w.heap.size 0 (by simp)
    have f0 := hfr w.heap.size 0 (by simp)
    have c1 := hcl w.heap.size 1 (by simp)
    have f1 := hfr w.heap.size 1 (by simp)
    have c2 := hcl w.heap.size 2 (by simp)
    have f2 := hfr w.heap.size 2 (by simp)
    have c3 := hcl w.heap.size 3 (by simp)
    have f3 := hfr w.heap.size 3 (by simp)
    have c4 := hcl w.heap.size 4 (by simp)
    have f4 := hfr w.heap.size 4 (by simp)
    simp at c0 c1 c2 c3 c4 f0 f1 f2 f3 f4
    have R0 : Rep w9 (w.heap.size + 1) v7 (sizeS s) := by rw [HS.out]; exact ((r7.base y6).below b8).below b9
    have R2 : Rep w9 (w.heap.size + 1) v9 (aboveS s) := by rw [HA.out]; exact r9.base y8
    have R3 : Rep w9 (w.heap.size + 1) v3 o := ((((ro.below b5).below b6).below b7).below b8).below b9
    have Rq : Rep w9 (w.heap.size + 1) v4 q := ((((rq.below b5).below b6).below b7).below b8).below b9
    have R1 : Rep w9 (w.heap.size + 1) v8 (q * 2 ^ 1) := (r8.base y7).below b9
    clear hcl hfr b2 b3 b4 b5 b6 b7 b8 b9 t2 t3 r4 r5 r6 r7 r8 r9 s2 s3 z3 z4 z5 z6 z7 z8 y6 y7 y8 rq ro bAll hqb
    obtain ⟨a7, k7, p7, e7⟩ := R0.form
    obtain ⟨a8, k8, p8, e8⟩ := R1.form
    obtain ⟨a9, k9, p9, e9⟩ := R2.form
    obtain ⟨ao, ko, po, eo⟩ := R3.form
    obtain ⟨aq, kq, pq, eq⟩ := Rq.form
    subst e7 e8 e9 eo eq
    go_wp2_with fail
    refine (nearerBelow_any _ s hs).mono ?_
    rintro e w10 ⟨rfl, rfl⟩
    have hne : w9.heap.size ≠ w.heap.size := by omega
    have hne2 : w.heap.size ≠ w9.heap.size := by omega
    cases hnb : nbS s
    · have R1' : Rep w9 (w.heap.size + 1) (.slice a8 k8 p8) (belowS s) := by rw [HB.out, hnb]; simpa using R1
      clear HS HB HA HO HQ HN
      go_wp2
      refine bodyPost_ret (v := .agg #[.slice a7 k7 p7, .slice a8 k8 p8, .slice a9 k9 p9, .slice ao ko po, .bool ev]) (by simp [results, Tryd.results52, go_sem, *]) rfl ⟨_, _, _, _, rfl, ?_⟩
      have hg : w.heap.size < w.heap.size + 1 := by omega
      rw [hoS]
      exact ⟨((((((R0.set hg 0 _).set hg 1 _).set hg 2 _).set hg 3 _).set hg 4 _).alloc _).base (Nat.zero_le _), ((((((R1'.set hg 0 _).set hg 1 _).set hg 2 _).set hg 3 _).set hg 4 _).alloc _).base (Nat.zero_le _), ((((((R2.set hg 0 _).set hg 1 _).set hg 2 _).set hg 3 _).set hg 4 _).alloc _).base (Nat.zero_le _), ((((((R3.set hg 0 _).set hg 1 _).set hg 2 _).set hg 3 _).set hg 4 _).alloc _).base (Nat.zero_le _), (((((hbelow.setCell (p := ⟨w.heap.size, 0, none⟩) (Nat.le_refl _) _).setCell (p := ⟨w.heap.size, 1, none⟩) (Nat.le_refl _) _).setCell (p := ⟨w.heap.size, 2, none⟩) (Nat.le_refl _) _).setCell (p := ⟨w.heap.size, 3, none⟩) (Nat.le_refl _) _).setCell (p := ⟨w.heap.size, 4, none⟩) (Nat.le_refl _) _).alloc (by simp; omega) _⟩
    · have R1' : Rep w9 (w.heap.size + 1) (.slice aq kq pq) (belowS s) := by rw [HB.out, hnb]; simpa using Rq
      clear HS HB HA HO HQ HN
      go_wp2
      refine bodyPost_ret (v := .agg #[.slice a7 k7 p7, .slice aq kq pq, .slice a9 k9 p9, .slice ao ko po, .bool ev]) (by simp [results, Tryd.results52, go_sem, *]) rfl ⟨_, _, _, _, rfl, ?_⟩
      have hg : w.heap.size < w.heap.size + 1 := by omega
      rw [hoS]
      exact ⟨((((((R0.set hg 0 _).set hg 1 _).set hg 2 _).set hg 3 _).set hg 4 _).alloc _).base (Nat.zero_le _), ((((((R1'.set hg 0 _).set hg 1 _).set hg 2 _).set hg 3 _).set hg 4 _).alloc _).base (Nat.zero_le _), ((((((R2.set hg 0 _).set hg 1 _).set hg 2 _).set hg 3 _).set hg 4 _).alloc _).base (Nat.zero_le _), ((((((R3.set hg 0 _).set hg 1 _).set hg 2 _).set hg 3 _).set hg 4 _).alloc _).base (Nat.zero_le _), (((((hbelow.setCell (p := ⟨w.heap.size, 0, none⟩) (Nat.le_refl _) _).setCell (p := ⟨w.heap.size, 1, none⟩) (Nat.le_refl _) _).setCell (p := ⟨w.heap.size, 2, none⟩) (Nat.le_refl _) _).setCell (p := ⟨w.heap.size, 3, none⟩) (Nat.le_refl _) _).setCell (p := ⟨w.heap.size, 4, none⟩) (Nat.le_refl _) _).alloc (by simp; omega) _⟩
  · obtain ⟨n, hn⟩ : ∃ n : Nat, -ee = (n : Int) := ⟨(-ee).toNat, by omega⟩
    have hcb : decide (0 ≤ ee) = false := by simp; omega
    have hn2 : n ≤ 1074 := by omega
    have HN : Hid ((-ee).toNat = n ∧ (ee).toNat = 0) := ⟨by omega, by omega⟩
    go_wp2_with fail
    refine (shift_rep w3 v3 4 n (t3.base (Nat.zero_le _)) small_four (by omega)).mono ?_
    rintro e w4 ⟨v4, rfl, r4, b4⟩
    have rq : Rep w4 (w.heap.size + 1) v2 (qS s) := by rw [HQ.out, HN.out.2]; exact t2.below b4
    have ro : Rep w4 (w.heap.size + 1) v4 (oneS s) := by rw [HO.out, HN.out.1]; exact r4.base s3
    generalize hqS : qS s = q at *
    generalize hoS : oneS s = o at *
    go_wp2_with fail
    refine (of_any _ (m) (by omega)).mono ?_
    rintro e w5 ⟨v5, rfl, r5, b5⟩
    go_wp2_with fail
    refine (shift_repI _ v2 q 2 2 ((rq.base (Nat.zero_le _)).below b5) (small_of_bl hqb (by omega)) (by omega) rfl).mono ?_
    rintro e w6 ⟨v6, rfl, r6, b6⟩
    go_wp2_with fail
    refine (mul_rep _ v5 v6 (m) (q * 2 ^ 2) ((r5.base (Nat.zero_le _)).below b6) (r6.base (Nat.zero_le _)) (small_m hm) (small_shift hqb (by omega))).mono ?_
    rintro e w7 ⟨v7, rfl, r7, b7⟩
    go_wp2_with fail
    refine (shift_repI _ v2 q 1 1 ((((rq.base (Nat.zero_le _)).below b5).below b6).below b7) (small_of_bl hqb (by omega)) (by omega) rfl).mono ?_
    rintro e w8 ⟨v8, rfl, r8, b8⟩
    go_wp2_with fail
    refine (shift_repI _ v2 q 1 1 (((((rq.base (Nat.zero_le _)).below b5).below b6).below b7).below b8) (small_of_bl hqb (by omega)) (by omega) rfl).mono ?_
    rintro e w9 ⟨v9, rfl, r9, b9⟩
    have z3 := Nat.le_trans b2.size b3.size
    have z4 := Nat.le_trans z3 b4.size
    have z5 := Nat.le_trans z4 b5.size
    have z6 := Nat.le_trans z5 b6.size
    have z7 := Nat.le_trans z6 b7.size
    have z8 := Nat.le_trans z7 b8.size
    have y6 : w.heap.size + 1 ≤ w6.heap.size := by simpa using z6
    have y7 : w.heap.size + 1 ≤ w7.heap.size := by simpa using z7
    have y8 : w.heap.size + 1 ≤ w8.heap.size := by simpa using z8
    have bAll := (((((((b2.trans (b3.mono b2.size)).trans (b4.mono z3)).trans (b5.mono z4)).trans (b6.mono z5)).trans (b7.mono z6)).trans (b8.mono z7)).trans (b9.mono z8))
    have hsz9 : w.heap.size < w9.heap.size := Nat.lt_of_lt_of_le (by simp) bAll.size
    have hbelow : Below w.heap.size w w9 := ((Below.refl _ _).alloc (Nat.le_refl _) _).trans (bAll.mono (by simp))
    obtain ⟨hcl, hfr⟩ := bcell bAll
    have c0 := hcl w.heap.size 0 (by simp)
    have f0 := hfr w.heap.size 0 (by simp)
    have c1 := hcl w.heap.size 1 (by simp)
    have f1 := hfr w.heap.size 1 (by simp)
    have c2 := hcl w.heap.size 2 (by simp)
    have f2 := hfr w.heap.size 2 (by simp)
    have c3 := hcl w.heap.size 3 (by simp)
    have f3 := hfr w.heap.size 3 (by simp)
    have c4 := hcl w.heap.size 4 (by simp)
    have f4 := hfr w.heap.size 4 (by simp)
    simp at c0 c1 c2 c3 c4 f0 f1 f2 f3 f4
    have R0 : Rep w9 (w.heap.size + 1) v7 (sizeS s) := by rw [HS.out]; exact ((r7.base y6).below b8).below b9
    have R2 : Rep w9 (w.heap.size + 1) v9 (aboveS s) := by rw [HA.out]; exact r9.base y8
    have R3 : Rep w9 (w.heap.size + 1) v4 o := ((((ro.below b5).below b6).below b7).below b8).below b9
    have Rq : Rep w9 (w.heap.size + 1) v2 q := ((((rq.below b5).below b6).below b7).below b8).below b9
    have R1 : Rep w9 (w.heap.size + 1) v8 (q * 2 ^ 1) := (r8.base y7).below b9
    clear hcl hfr b2 b3 b4 b5 b6 b7 b8 b9 t2 t3 r4 r5 r6 r7 r8 r9 s2 s3 z3 z4 z5 z6 z7 z8 y6 y7 y8 rq ro bAll hqb
    obtain ⟨a7, k7, p7, e7⟩ := R0.form
    obtain ⟨a8, k8, p8, e8⟩ := R1.form
    obtain ⟨a9, k9, p9, e9⟩ := R2.form
    obtain ⟨ao, ko, po, eo⟩ := R3.form
    obtain ⟨aq, kq, pq, eq⟩ := Rq.form
    subst e7 e8 e9 eo eq
    go_wp2_with fail
    refine (nearerBelow_any _ s hs).mono ?_
    rintro e w10 ⟨rfl, rfl⟩
    have hne : w9.heap.size ≠ w.heap.size := by omega
    have hne2 : w.heap.size ≠ w9.heap.size := by omega
    cases hnb : nbS s
    · have R1' : Rep w9 (w.heap.size + 1) (.slice a8 k8 p8) (belowS s) := by rw [HB.out, hnb]; simpa using R1
      clear HS HB HA HO HQ HN
      go_wp2
      refine bodyPost_ret (v := .agg #[.slice a7 k7 p7, .slice a8 k8 p8, .slice a9 k9 p9, .slice ao ko po, .bool ev]) (by simp [results, Tryd.results52, go_sem, *]) rfl ⟨_, _, _, _, rfl, ?_⟩
      have hg : w.heap.size < w.heap.size + 1 := by omega
      rw [hoS]
      exact ⟨((((((R0.set hg 0 _).set hg 1 _).set hg 2 _).set hg 3 _).set hg 4 _).alloc _).base (Nat.zero_le _), ((((((R1'.set hg 0 _).set hg 1 _).set hg 2 _).set hg 3 _).set hg 4 _).alloc _).base (Nat.zero_le _), ((((((R2.set hg 0 _).set hg 1 _).set hg 2 _).set hg 3 _).set hg 4 _).alloc _).base (Nat.zero_le _), ((((((R3.set hg 0 _).set hg 1 _).set hg 2 _).set hg 3 _).set hg 4 _).alloc _).base (Nat.zero_le _), (((((hbelow.setCell (p := ⟨w.heap.size, 0, none⟩) (Nat.le_refl _) _).setCell (p := ⟨w.heap.size, 1, none⟩) (Nat.le_refl _) _).setCell (p := ⟨w.heap.size, 2, none⟩) (Nat.le_refl _) _).setCell (p := ⟨w.heap.size, 3, none⟩) (Nat.le_refl _) _).setCell (p := ⟨w.heap.size, 4, none⟩) (Nat.le_refl _) _).alloc (by simp; omega) _⟩
    · have R1' : Rep w9 (w.heap.size + 1) (.slice aq kq pq) (belowS s) := by rw [HB.out, hnb]; simpa using Rq
      clear HS HB HA HO HQ HN
      go_wp2
      refine bodyPost_ret (v := .agg #[.slice a7 k7 p7, .slice aq kq pq, .slice a9 k9 p9, .slice ao ko po, .bool ev]) (by simp [results, Tryd.results52, go_sem, *]) rfl ⟨_, _, _, _, rfl, ?_⟩
      have hg : w.heap.size < w.heap.size + 1 := by omega
      rw [hoS]
      exact ⟨((((((R0.set hg 0 _).set hg 1 _).set hg 2 _).set hg 3 _).set hg 4 _).alloc _).base (Nat.zero_le _), ((((((R1'.set hg 0 _).set hg 1 _).set hg 2 _).set hg 3 _).set hg 4 _).alloc _).base (Nat.zero_le _), ((((((R2.set hg 0 _).set hg 1 _).set hg 2 _).set hg 3 _).set hg 4 _).alloc _).base (Nat.zero_le _), ((((((R3.set hg 0 _).set hg 1 _).set hg 2 _).set hg 3 _).set hg 4 _).alloc _).base (Nat.zero_le _), (((((hbelow.setCell (p := ⟨w.heap.size, 0, none⟩) (Nat.le_refl _) _).setCell (p := ⟨w.heap.size, 1, none⟩) (Nat.le_refl _) _).setCell (p := ⟨w.heap.size, 2, none⟩) (Nat.le_refl _) _).setCell (p := ⟨w.heap.size, 3, none⟩) (Nat.le_refl _) _).setCell (p := ⟨w.heap.size, 4, none⟩) (Nat.le_refl _) _).alloc (by simp; omega) _⟩

end Go.Proofs.YthdcceackfdbbaaDoor
