/- What the reference's Print reckons; walks over parts. Own text. -/
import Derived.Test.YthdcceackfdbbaaDoorQp
namespace Go.Proofs.YthdcceackfdbbaaDoor
open Go.RowKit
attribute [local go_sem ↓] Go.wp_at_zero Go.wp_at_succ

/-- Is 10 to the k not above the size? -/
def leT (s : Nat) (k : Int) : Prop := oneS s * 10 ^ k.toNat ≤ sizeS s * 10 ^ (-k).toNat

theorem leT_iff {s a b : Nat} {k : Int} (h : (b : Int) - a = k) : leT s k ↔ oneS s * 10 ^ b ≤ sizeS s * 10 ^ a := by
  obtain ⟨t, h1, h2⟩ : ∃ t : Nat, b = k.toNat + t ∧ a = (-k).toNat + t := ⟨b - k.toNat, by omega, by omega⟩
  unfold leT
  rw [h1, h2, Nat.pow_add, Nat.pow_add, ← Nat.mul_assoc, ← Nat.mul_assoc]
  exact ⟨fun h => Nat.mul_le_mul_right _ h, fun h => Nat.le_of_mul_le_mul_right h (ten_pow_pos t)⟩

theorem leT_down {s : Nat} {k : Int} (h : leT s (k + 1)) : leT s k := by
  obtain ⟨a, b, hab⟩ : ∃ a b : Nat, (b : Int) - a = k := ⟨(-k).toNat, k.toNat, by omega⟩
  rw [leT_iff (a := a) (b := b + 1) (by omega)] at h
  rw [leT_iff hab]
  rw [Nat.pow_succ, ← Nat.mul_assoc] at h
  omega

theorem leT_le {s : Nat} {k k' : Int} (h : leT s k) (hk : k' ≤ k) : leT s k' := by
  obtain ⟨n, rfl⟩ : ∃ n : Nat, k = k' + n := ⟨(k - k').toNat, by omega⟩
  clear hk
  induction n with
  | zero => simpa using h
  | succ n ih => exact ih (leT_down (by rw [show k' + (n : Int) + 1 = k' + ((n + 1 : Nat) : Int) by omega]; exact h))

theorem top_unique {s : Nat} {k k' : Int} (h1 : leT s k) (h2 : ¬ leT s (k + 1)) (h3 : leT s k') (h4 : ¬ leT s (k' + 1)) : k = k' := by
  by_cases h : k < k'
  · exact absurd (leT_le h3 (by omega)) h2
  · by_cases h' : k' < k
    · exact absurd (leT_le h1 (by omega)) h4
    · omega

theorem leT_bd {s : Nat} {k : Int} (hs : s < 9218868437227405312) (h : leT s k) : k ≤ 400 := by
  by_cases hk : k ≤ 400
  · exact hk
  · obtain ⟨M, hM, p1, p2⟩ := pM
    have hS : sizeS s < 10 ^ M := lt_ten (size_bl hs).1 p1
    unfold leT at h
    rw [show (-k).toNat = 0 by omega, Nat.pow_zero, Nat.mul_one] at h
    have h1 : 10 ^ M ≤ 10 ^ k.toNat := Nat.pow_le_pow_right (by omega) (by omega)
    have h2 : 10 ^ k.toNat ≤ oneS s * 10 ^ k.toNat := Nat.le_mul_of_pos_left _ (Nat.pos_of_ne_zero (one_ne s))
    exact absurd (Nat.lt_of_lt_of_le hS (Nat.le_trans h1 (Nat.le_trans h2 h))) (Nat.lt_irrefl _)

theorem near_scale {lo d u c : Nat} (hc : 0 < c) : nearS lo (d * c) (u * c) = nearS lo d u := by
  have h1 : ∀ x y : Nat, x * c < y * c ↔ x < y := fun x y => ⟨fun h => Nat.lt_of_mul_lt_mul_right h, fun h => Nat.mul_lt_mul_of_pos_right h hc⟩
  unfold nearS
  simp only [h1]

theorem pick_scale {N B A D c : Nat} {ev : Bool} (hc : 0 < c) : pickO (N * c) (B * c) (A * c) (D * c) ev = pickO N B A D ev := by
  unfold pickO
  rw [Nat.mul_div_mul_right _ _ hc, Nat.mul_mod_mul_right, ← Nat.sub_mul, inS_scale hc, inS_scale hc, near_scale hc]

/-- The step of shortest at the power k. -/
def PK (s : Nat) (k : Int) : Option Nat := pickO (sizeS s * 10 ^ (-k).toNat) (belowS s * 10 ^ (-k).toNat) (aboveS s * 10 ^ (-k).toNat) (oneS s * 10 ^ k.toNat) (decide (s % 2 = 0))

theorem PK_iff {s a b : Nat} {k : Int} (h : (b : Int) - a = k) : PK s k = pickO (sizeS s * 10 ^ a) (belowS s * 10 ^ a) (aboveS s * 10 ^ a) (oneS s * 10 ^ b) (decide (s % 2 = 0)) := by
  obtain ⟨t, h1, h2⟩ : ∃ t : Nat, b = k.toNat + t ∧ a = (-k).toNat + t := ⟨b - k.toNat, by omega, by omega⟩
  have q : ∀ x i : Nat, x * 10 ^ (i + t) = x * 10 ^ i * 10 ^ t := fun x i => by rw [Nat.pow_add, Nat.mul_assoc]
  unfold PK
  rw [h1, h2, q, q, q, q]
  exact (pick_scale (ten_pow_pos t)).symm

theorem ShortAt.steps {s d : Nat} {p : Int} (h : ShortAt s d p) : ∃ j : Nat, j ≤ 16 ∧ leT s (p + j) ∧ ¬ leT s (p + j + 1) ∧ PK s p = some d ∧ ∀ i : Nat, i < j → PK s (p + j - i) = none := by
  obtain ⟨a, b, j, h1, h2, h3, rfl, h4, h5, h6, h7⟩ := h
  have q : ∀ x i : Nat, x * 10 ^ (a + i) = x * 10 ^ a * 10 ^ i := fun x i => by rw [Nat.pow_add, Nat.mul_assoc]
  refine ⟨j, h3, ?_, ?_, ?_, ?_⟩
  · rw [leT_iff (a := a) (b := b) (by omega)]; exact h4
  · rw [leT_iff (a := a) (b := b + 1) (by omega), Nat.pow_succ, ← Nat.mul_assoc]
    omega
  · rw [PK_iff (a := a + j) (b := b) (by omega), q, q, q]; exact h6
  · intro i hi
    rw [PK_iff (a := a + i) (b := b) (by omega), q, q, q]; exact h7 i hi

/-- How far one is from the other. -/
def gap (V N : Nat) : Nat := if V < N then N - V else V - N
def reach (V N B A : Nat) : Nat := if V < N then B else A

theorem low_facts {N D : Nat} (hD : D ≠ 0) : N / D * D + N % D = N ∧ N % D < D := ⟨by rw [Nat.mul_comm]; exact Nat.div_add_mod N D, Nat.mod_lt N (Nat.pos_of_ne_zero hD)⟩

theorem gap_low {N D : Nat} (hD : D ≠ 0) : gap (N / D * D) N = N % D := by
  obtain ⟨h1, h2⟩ := low_facts (N := N) hD
  unfold gap
  split <;> omega

theorem gap_high {N D : Nat} (hD : D ≠ 0) : gap ((N / D + 1) * D) N = D - N % D := by
  obtain ⟨h1, h2⟩ := low_facts (N := N) hD
  unfold gap
  rw [Nat.add_mul, Nat.one_mul]
  split <;> omega

theorem in_low {N B A D : Nat} {ev : Bool} (hD : D ≠ 0) (hB : 0 < B) (hA : 0 < A) : inS (gap (N / D * D) N) (reach (N / D * D) N B A) ev = inS (N % D) B ev := by
  obtain ⟨h1, h2⟩ := low_facts (N := N) hD
  rw [gap_low hD]
  unfold reach
  split
  · rfl
  · rw [show N % D = 0 by omega]
    unfold inS
    simp [hB, hA]

theorem in_high {N B A D : Nat} {ev : Bool} (hD : D ≠ 0) : inS (gap ((N / D + 1) * D) N) (reach ((N / D + 1) * D) N B A) ev = inS (D - N % D) A ev := by
  obtain ⟨h1, h2⟩ := low_facts (N := N) hD
  rw [gap_high hD]
  unfold reach
  rw [if_neg (by rw [Nat.add_mul, Nat.one_mul]; omega)]

theorem above_pos (s : Nat) : 0 < aboveS s := by
  unfold aboveS qS
  have : 0 < 2 ^ (eS s).toNat := Nat.pow_pos (by omega)
  omega

theorem digs_inj {a b : List UInt8} (ha : Digs a) (hb : Digs b) (hl : a.length = b.length) (hv : dval a = dval b) : a = b := by
  induction a generalizing b with
  | nil => cases b with
    | nil => rfl
    | cons y b => simp at hl
  | cons x a ih =>
    cases b with
    | nil => simp at hl
    | cons y b =>
      have hl' : a.length = b.length := by simpa using hl
      have da : Digs a := fun c hc => ha c (by simp [hc])
      have db : Digs b := fun c hc => hb c (by simp [hc])
      have e1 := dval_append [x] a
      have e2 := dval_append [y] b
      simp only [List.cons_append, List.nil_append] at e1 e2
      rw [e1, e2, hl'] at hv
      have l1 := dval_lt da
      have l2 := dval_lt db
      rw [hl'] at l1
      have f1 : dval [x] = x.toNat - 48 := by simp [dval]
      have f2 : dval [y] = y.toNat - 48 := by simp [dval]
      rw [f1, f2] at hv
      have hx := ha x (by simp)
      have hy := hb y (by simp)
      unfold isDig at hx hy
      simp at hx hy
      have g1 : (x.toNat - 48) = (y.toNat - 48) := by
        have q1 : ((x.toNat - 48) * 10 ^ b.length + dval a) / 10 ^ b.length = x.toNat - 48 := by
          rw [Nat.mul_comm, Nat.mul_add_div (ten_pow_pos _), Nat.div_eq_of_lt l1, Nat.add_zero]
        have q2 : ((y.toNat - 48) * 10 ^ b.length + dval b) / 10 ^ b.length = y.toNat - 48 := by
          rw [Nat.mul_comm, Nat.mul_add_div (ten_pow_pos _), Nat.div_eq_of_lt l2, Nat.add_zero]
        rw [← q1, ← q2, hv]
      have g2 : dval a = dval b := by rw [g1] at hv; omega
      have g3 : x = y := by
        apply UInt8.toNat_inj.1
        omega
      rw [g3, ih da db hl' g2]

theorem dd_unique {l : List UInt8} {n : Nat} (hd : Digs l) (h0 : ∀ c r, l = c :: r → c.toNat ≠ 48) (hv : dval l = n) (hn : n ≠ 0) : l = Lib.decDigits n := by
  obtain ⟨d1, d2, d3, d4⟩ := dd_all n
  have key : ∀ {a b : List UInt8}, Digs a → Digs b → (∀ c r, a = c :: r → c.toNat ≠ 48) → dval a = dval b → a ≠ [] → a.length ≤ b.length := by
    intro a b ha hb h0 hv hne
    cases a with
    | nil => exact absurd rfl hne
    | cons c r =>
      have h1 := dval_ge ha (c := c) (r := r) rfl (h0 c r rfl)
      have h2 := dval_lt hb
      by_cases h : (c :: r).length ≤ b.length
      · exact h
      · have h3 : 10 ^ b.length ≤ 10 ^ ((c :: r).length - 1) := Nat.pow_le_pow_right (by omega) (by omega)
        omega
  have hne : l ≠ [] := by intro h; subst h; simp [dval] at hv; omega
  refine digs_inj hd d1 (Nat.le_antisymm (key hd d1 h0 (by rw [hv, d2]) hne) (key d1 hd (d3 hn) (by rw [hv, d2]) d4)) (by rw [hv, d2])

theorem valB_parity {x : Nat} {l : List Nat} : valB (x :: l) % 2 = x % 2 := by simp only [valB]; omega


theorem tup2i {a a' b b' : Int} (h1 : a = a') (h2 : b = b') : Ending.returned (.tuple #[.int .i64 a, .int .i64 b]) = .returned (.tuple #[.int .i64 a', .int .i64 b']) := by rw [h1, h2]

theorem and_2047 {s : Nat} (h : s < 9218868437227405312) : bits BinOp.and IntKind.u64 ((s : Int) / 4503599627370496) 2047 = (s : Int) / 4503599627370496 := by
  rw [show (s : Int) / 4503599627370496 = ((s / 4503599627370496 : Nat) : Int) by omega, show (2047 : Int) = ((2047 : Nat) : Int) from rfl, u64_and_nat _ _ (by omega) (by omega)]
  congr 1
  have := Nat.and_two_pow_sub_one_eq_mod (s / 4503599627370496) 11
  rw [show (2 : Nat) ^ 11 - 1 = 2047 from rfl] at this
  rw [this]
  omega

set_option maxHeartbeats 400000 in
theorem refparts_any (w : World) (s : Nat) (hs : s < 9218868437227405312) :
    Calls Tryd.prog 33 #[.int .u64 (s : Int)] w fun e w' => e = .returned (.tuple #[.int .i64 ((mS s : Nat) : Int), .int .i64 (eS s)]) ∧ w' = w := by
  have hf := and_frac (s := s) (by omega)
  have hf2 := and_2047 hs
  by_cases h0 : s / 4503599627370496 = 0
  · have hb : ((s : Int) / 4503599627370496 == 0) = true := by simp; omega
    go_enter Tryd.func33, Tryd.ntmps33
    go_wp2
    go_ret2
    refine ⟨tup2i ?_ ?_, rfl⟩
    · simp [mS, h0]
    · simp [eS, h0]
  · have hb : ((s : Int) / 4503599627370496 == 0) = false := by simp; omega
    go_enter Tryd.func33, Tryd.ntmps33
    go_wp2
    go_ret2
    refine ⟨tup2i ?_ ?_, rfl⟩
    · rw [mS, if_neg h0]; omega
    · rw [eS, if_neg h0]; omega

theorem RepB.form {w : World} {B : Nat} {v : Value} {n : Nat} (h : RepB w B v n) : ∃ ao k cap, v = .slice ao k cap := by
  obtain ⟨l, h1, _⟩ := h
  obtain ⟨ao, cap, rfl, _⟩ := h1.shape1
  exact ⟨ao, _, cap, rfl⟩

/-- A number of the reference whose places lie in another block than g. -/
def NumB (w : World) (g : Nat) (v : Value) (n : Nat) : Prop := RepB w 0 v n ∧ ∀ k, v.ownBlock = some k → k ≠ g

theorem NumB.below {w w' : World} {g : Nat} {v : Value} {n : Nat} (h : NumB w g v n) (hb : Below w.heap.size w w') : NumB w' g v n := ⟨h.1.below hb, h.2⟩
theorem NumB.set {w : World} {g : Nat} {v : Value} {n : Nat} (h : NumB w g v n) (i : Nat) (u : Value) : NumB (w.setCell ⟨g, i, none⟩ u) g v n := by
  obtain ⟨⟨l, h1, h2⟩, h3⟩ := h
  exact ⟨⟨l, h1.setOther (a := ⟨g, i, none⟩) u h3, h2⟩, h3⟩
theorem numB_new {w : World} {B g : Nat} {v : Value} {n : Nat} (h : RepB w B v n) (hg : g < B) : NumB w g v n := by
  refine ⟨h.base (Nat.zero_le _), ?_⟩
  obtain ⟨l, h1, _⟩ := h
  intro k hk
  have := (h1.1.lt k hk).1
  omega
theorem numB_old {w : World} {B g : Nat} {v : Value} {n : Nat} (h : RepB w B v n) (hg : w.heap.size ≤ g) : NumB w g v n := by
  refine ⟨h.base (Nat.zero_le _), ?_⟩
  obtain ⟨l, h1, _⟩ := h
  intro k hk
  have := (h1.1.lt k hk).2
  omega
theorem numB_off {w : World} {B g : Nat} {v : Value} {n : Nat} (h : RepB w B v n) (hn : n ≠ 0) {ao : Option Addr} {k cap : Nat} (hc : w.cell? ⟨g, 0, none⟩ = some (.slice ao k cap)) : NumB w g v n := by
  refine ⟨h.base (Nat.zero_le _), ?_⟩
  obtain ⟨l, h1, _, h3⟩ := h
  intro b hb hbg
  subst hbg
  rcases h1.shape with ⟨rfl, rfl⟩ | ⟨g', cap', rfl, _, _, _, _, h5, _⟩
  · simp [valB] at h3; omega
  · simp [Value.ownBlock] at hb
    subst hb
    cases l with
    | nil => simp [valB] at h3; omega
    | cons x l => have := h5 0 x (by simp); rw [this] at hc; simp at hc

/-- The scale that lies in block g. -/
structure SpnB (w : World) (g : Nat) (v0 v1 v2 v3 : Value) (S B A D : Nat) : Prop where
  lt : g < w.heap.size
  fr : ∀ i, w.frozen? ⟨g, i, none⟩ = false
  c0 : w.cell? ⟨g, 0, none⟩ = some v0
  c1 : w.cell? ⟨g, 1, none⟩ = some v1
  c2 : w.cell? ⟨g, 2, none⟩ = some v2
  c3 : w.cell? ⟨g, 3, none⟩ = some v3
  n0 : NumB w g v0 S
  n1 : NumB w g v1 B
  n2 : NumB w g v2 A
  n3 : NumB w g v3 D

theorem SpnB.below {w w' : World} {g : Nat} {v0 v1 v2 v3 : Value} {S B A D : Nat} (h : SpnB w g v0 v1 v2 v3 S B A D) (hb : Below w.heap.size w w') : SpnB w' g v0 v1 v2 v3 S B A D := by
  obtain ⟨hc, hf⟩ := bcell hb
  exact ⟨Nat.lt_of_lt_of_le h.lt hb.size, fun i => (hf g i h.lt).trans (h.fr i), (hc g 0 h.lt).trans h.c0, (hc g 1 h.lt).trans h.c1, (hc g 2 h.lt).trans h.c2, (hc g 3 h.lt).trans h.c3, h.n0.below hb, h.n1.below hb, h.n2.below hb, h.n3.below hb⟩

section sets
variable {w : World} {g : Nat} {v0 v1 v2 v3 v : Value} {S B A D N : Nat}

theorem SpnB.set0 (h : SpnB w g v0 v1 v2 v3 S B A D) (hv : NumB w g v N) : SpnB (w.setCell ⟨g, 0, none⟩ v) g v v1 v2 v3 N B A D :=
  ⟨by simpa using h.lt, fr_set h.fr _ _, World.cell?_setCell_same _ _ _ h.c0, (World.cell?_setCell_other _ _ _ _ (by simp)).trans h.c1, (World.cell?_setCell_other _ _ _ _ (by simp)).trans h.c2, (World.cell?_setCell_other _ _ _ _ (by simp)).trans h.c3, hv.set _ _, h.n1.set _ _, h.n2.set _ _, h.n3.set _ _⟩
theorem SpnB.set1 (h : SpnB w g v0 v1 v2 v3 S B A D) (hv : NumB w g v N) : SpnB (w.setCell ⟨g, 1, none⟩ v) g v0 v v2 v3 S N A D :=
  ⟨by simpa using h.lt, fr_set h.fr _ _, (World.cell?_setCell_other _ _ _ _ (by simp)).trans h.c0, World.cell?_setCell_same _ _ _ h.c1, (World.cell?_setCell_other _ _ _ _ (by simp)).trans h.c2, (World.cell?_setCell_other _ _ _ _ (by simp)).trans h.c3, h.n0.set _ _, hv.set _ _, h.n2.set _ _, h.n3.set _ _⟩
theorem SpnB.set2 (h : SpnB w g v0 v1 v2 v3 S B A D) (hv : NumB w g v N) : SpnB (w.setCell ⟨g, 2, none⟩ v) g v0 v1 v v3 S B N D :=
  ⟨by simpa using h.lt, fr_set h.fr _ _, (World.cell?_setCell_other _ _ _ _ (by simp)).trans h.c0, (World.cell?_setCell_other _ _ _ _ (by simp)).trans h.c1, World.cell?_setCell_same _ _ _ h.c2, (World.cell?_setCell_other _ _ _ _ (by simp)).trans h.c3, h.n0.set _ _, h.n1.set _ _, hv.set _ _, h.n3.set _ _⟩
theorem SpnB.set3 (h : SpnB w g v0 v1 v2 v3 S B A D) (hv : NumB w g v N) : SpnB (w.setCell ⟨g, 3, none⟩ v) g v0 v1 v2 v S B A N :=
  ⟨by simpa using h.lt, fr_set h.fr _ _, (World.cell?_setCell_other _ _ _ _ (by simp)).trans h.c0, (World.cell?_setCell_other _ _ _ _ (by simp)).trans h.c1, (World.cell?_setCell_other _ _ _ _ (by simp)).trans h.c2, World.cell?_setCell_same _ _ _ h.c3, h.n0.set _ _, h.n1.set _ _, h.n2.set _ _, hv.set _ _⟩
end sets

theorem power2_num (w : World) (g : Nat) (v : Value) (a n : Nat) (m0 : Int) (h : NumB w g v a) (hg : g < w.heap.size) {ao : Option Addr} {k cap : Nat} (hc : w.cell? ⟨g, 0, none⟩ = some (.slice ao k cap)) (ha : a ≠ 0) (hn : n ≤ 100000) (hm0 : m0 = (n : Int)) (hs : SmallB (a * 2 ^ n)) :
    Calls Tryd.prog 26 #[v, .int .i64 2, .int .i64 m0] w fun e w' => ∃ a' k' p', e = .returned (.slice a' k' p') ∧ NumB w' g (.slice a' k' p') (a * 2 ^ n) ∧ Below w.heap.size w w' := by
  refine (power2_any w v a n m0 h.1 hn hm0 hs).mono ?_
  rintro e w' ⟨v', rfl, r, b⟩
  obtain ⟨a', k', p', rfl⟩ := r.form
  exact ⟨a', k', p', rfl, numB_off r (Nat.mul_ne_zero ha (Nat.ne_of_gt (Nat.pow_pos (by omega)))) ((b.cell (p := ⟨g, 0, none⟩) hg).trans hc), b⟩

theorem power10_num (w : World) (g : Nat) (v : Value) (a n : Nat) (m0 : Int) (h : NumB w g v a) (hg : g < w.heap.size) {ao : Option Addr} {k cap : Nat} (hc : w.cell? ⟨g, 0, none⟩ = some (.slice ao k cap)) (ha : a ≠ 0) (hn : n ≤ 100000) (hm0 : m0 = (n : Int)) (hs : SmallB (a * 10 ^ n)) :
    Calls Tryd.prog 26 #[v, .int .i64 10, .int .i64 m0] w fun e w' => ∃ a' k' p', e = .returned (.slice a' k' p') ∧ NumB w' g (.slice a' k' p') (a * 10 ^ n) ∧ Below w.heap.size w w' := by
  refine (power10_any w v a n m0 h.1 hn hm0 hs).mono ?_
  rintro e w' ⟨v', rfl, r, b⟩
  obtain ⟨a', k', p', rfl⟩ := r.form
  exact ⟨a', k', p', rfl, numB_off r (Nat.mul_ne_zero ha (Nat.ne_of_gt (ten_pow_pos n))) ((b.cell (p := ⟨g, 0, none⟩) hg).trans hc), b⟩

theorem small_form (w : World) (x : Nat) (hx : x < 9223372036854775808) :
    Calls Tryd.prog 25 #[.int .i64 (x : Int)] w fun e w' => ∃ a k p, e = .returned (.slice a k p) ∧ RepB w' w.heap.size (.slice a k p) x ∧ Below w.heap.size w w' := by
  refine (small_any w x hx).mono ?_
  rintro e w' ⟨v', rfl, r, b⟩
  obtain ⟨a', k', p', rfl⟩ := r.form
  exact ⟨a', k', p', rfl, r, b⟩

theorem times_form (w : World) (v : Value) (a n : Nat) (m : Int) (h : RepB w 0 v a) (ha : SmallB a) (hn : n ≤ 1000000000) (hm : m = (n : Int)) :
    Calls Tryd.prog 45 #[v, .int .i64 m] w fun e w' => ∃ a' k p, e = .returned (.slice a' k p) ∧ RepB w' w.heap.size (.slice a' k p) (a * n) ∧ Below w.heap.size w w' := by
  refine (times_rep w v a n m h ha hn hm).mono ?_
  rintro e w' ⟨v', rfl, r, b⟩
  obtain ⟨a', k', p', rfl⟩ := r.form
  exact ⟨a', k', p', rfl, r, b⟩

theorem minus_form (w : World) (va vb : Value) (a b : Nat) (ha : RepB w 0 va a) (hb : RepB w 0 vb b) (sa : SmallB a) :
    Calls Tryd.prog 47 #[va, vb] w fun e w' => ∃ a' k' p' d, e = .returned (.slice a' k' p') ∧ RepB w' w.heap.size (.slice a' k' p') d ∧ (b ≤ a → d = a - b) ∧ SmallB d ∧ Below w.heap.size w w' := by
  refine (minus_rep w va vb a b ha hb sa).mono ?_
  rintro e w' ⟨v', d, rfl, r, h1, h2, b⟩
  obtain ⟨a', k', p', rfl⟩ := r.form
  exact ⟨a', k', p', d, rfl, r, h1, h2, b⟩

theorem product_form (w : World) (va vb : Value) (a b : Nat) (ha : RepB w 0 va a) (hb : RepB w 0 vb b) (sa : SmallB a) (sb : SmallB b) :
    Calls Tryd.prog 46 #[va, vb] w fun e w' => ∃ a' k' p', e = .returned (.slice a' k' p') ∧ RepB w' w.heap.size (.slice a' k' p') (a * b) ∧ Below w.heap.size w w' := by
  refine (product_rep w va vb a b ha hb sa sb).mono ?_
  rintro e w' ⟨v', rfl, r, b⟩
  obtain ⟨a', k', p', rfl⟩ := r.form
  exact ⟨a', k', p', rfl, r, b⟩

theorem power10_form (w : World) (v : Value) (a n : Nat) (m0 : Int) (h : RepB w 0 v a) (hn : n ≤ 100000) (hm0 : m0 = (n : Int)) (hs : SmallB (a * 10 ^ n)) :
    Calls Tryd.prog 26 #[v, .int .i64 10, .int .i64 m0] w fun e w' => ∃ a' k' p', e = .returned (.slice a' k' p') ∧ RepB w' 0 (.slice a' k' p') (a * 10 ^ n) ∧ Below w.heap.size w w' := by
  refine (power10_any w v a n m0 h hn hm0 hs).mono ?_
  rintro e w' ⟨v', rfl, r, b⟩
  obtain ⟨a', k', p', rfl⟩ := r.form
  exact ⟨a', k', p', rfl, r, b⟩

end Go.Proofs.YthdcceackfdbbaaDoor
