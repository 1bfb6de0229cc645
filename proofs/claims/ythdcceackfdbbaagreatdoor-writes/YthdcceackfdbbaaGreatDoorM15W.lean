import Derived.Test.YthdcceackfdbbaaGreatDoorRsQ
import Derived.Test.YthdcceackfdbbaaGreatDoorM14W
import Derived.Lib.ConvBytes
/- Walk: plus, of numbers without noughts above. Own text. -/
namespace Go.Proofs.YthdcceackfdbbaaGreatDoor
open Go.RowKit

def LastOk (la lb s : List Nat) (k cy : Nat) : Prop := ∀ z, s.getLast? = some z → z = 0 → cy ≠ 0 ∨ k < la.length ∨ k < lb.length

theorem lastok_canon {la lb s : List Nat} {k : Nat} (h : LastOk la lb s k 0) (h1 : ¬ k < la.length) (h2 : ¬ k < lb.length) : Canon s := by
  intro z hz h0
  rcases h z hz h0 with h | h | h
  · exact h rfl
  · exact h1 h
  · exact h2 h

theorem top_ne {l : List Nat} {k x : Nat} (hc : Canon l) (hx : l[k]? = some x ∨ (l.length ≤ k ∧ x = 0)) (hk : k < l.length) (hk1 : ¬ k + 1 < l.length) : x ≠ 0 := by
  rcases hx with hx | ⟨h, _⟩
  · apply hc
    rw [List.getLast?_eq_getElem?, show l.length - 1 = k by omega]
    exact hx
  · omega

theorem last_new {la lb s : List Nat} {k x y r c' cy : Nat} (ca : Canon la) (cb : Canon lb) (hx : la[k]? = some x ∨ (la.length ≤ k ∧ x = 0)) (hy : lb[k]? = some y ∨ (lb.length ≤ k ∧ y = 0)) (hc : k < la.length ∨ k < lb.length ∨ 0 < cy) (ht : r + 1000000000 * c' = cy + x + y) : LastOk la lb (s ++ [r]) (k + 1) c' := by
  intro z hz h0
  rw [List.getLast?_append] at hz
  simp at hz
  subst hz
  by_cases h1 : k + 1 < la.length
  · exact .inr (.inl h1)
  · by_cases h2 : k + 1 < lb.length
    · exact .inr (.inr h2)
    · left
      intro hc0
      rcases hc with h | h | h
      · have := top_ne ca hx h h1; omega
      · have := top_ne cb hy h h2; omega
      · omega

set_option maxRecDepth 5000 in
set_option maxHeartbeats 1600000 in
theorem plusC_any (w : World) (va vb : Value) (la lb : List Nat) (ha : OwnB w 0 va la) (hb' : OwnB w 0 vb lb) (hla : la.length ≤ 1000000) (hlb : lb.length ≤ 1000000) (ca : Canon la) (cb : Canon lb) :
    Calls Tryz.prog 135 #[va, vb] w fun e w' => ∃ v' l', e = .returned v' ∧ OwnB w' w.heap.size v' l' ∧ valB l' = valB la + valB lb ∧ Canon l' ∧ Below w.heap.size w w' := by
  obtain ⟨aa, capa, rfl, hlca, hcapa, hcella⟩ := ha.shape1
  obtain ⟨ab, capb, rfl, hlcb, hcapb, hcellb⟩ := hb'.shape1
  have HA : Hid (∀ (i x : Nat), la[i]? = some x → x < 1000000000 ∧ ∃ g, aa = some ⟨g, 0, none⟩ ∧ 0 ≤ g ∧ g < w.heap.size ∧ w.cell? ⟨g, i, none⟩ = some (.int .i64 (x : Int))) := hcella
  have HB : Hid (∀ (i x : Nat), lb[i]? = some x → x < 1000000000 ∧ ∃ g, ab = some ⟨g, 0, none⟩ ∧ 0 ≤ g ∧ g < w.heap.size ∧ w.cell? ⟨g, i, none⟩ = some (.int .i64 (x : Int))) := hcellb
  clear hcella hcellb hcapa hcapb
  obtain ⟨i0, hi, hz0, hz1, hz2⟩ := info_parts Tryz.infoInt
  have HCA := Hid.mk' ca
  have HCB := Hid.mk' cb
  clear ca cb
  go_enter Tryz.func135, Tryz.ntmps135
  go_wp2
  go_loopw [5, 6, 7] (fun v c i wr => ∃ (k : Nat) (s : List Nat) (cy : Nat), i = .int .i64 k ∧ c = .int .i64 cy ∧ cy ≤ 1 ∧ s.length = k ∧ k + cy ≤ la.length + lb.length + 1 ∧ OwnB wr w.heap.size v s ∧
      valB s + 1000000000 ^ k * cy = valB (la.take k) + valB (lb.take k) ∧ LastOk la lb s k cy ∧ Below w.heap.size w wr) (fun _ _ i _ => la.length + lb.length + 2 - (intOf i).toNat)
  case atStart => exact ⟨0, [], 0, rfl, rfl, by omega, rfl, by simp, ownB_nil _ _, by simp [valB], (by intro z hz; simp at hz), Below.refl _ _⟩
  case round =>
    obtain ⟨k, s, cy, rfl, rfl, hcy, hs, hk, hown, hval, hlk, hbel⟩ := hrel
    have HLK := Hid.mk' hlk
    clear hlk
    have HV : Hid (valB s + 1000000000 ^ k * cy = valB (la.take k) + valB (lb.take k)) := hval
    have hsz := hbel.size
    have HS : Hid (s.length = k) := hs
    have hs2 : s.length ≤ 2000001 := by omega
    clear hval hs
    by_cases c1 : k < la.length
    · obtain ⟨x, hxx⟩ : ∃ x, la[k]? = some x := ⟨la[k], by simp [*]⟩
      obtain ⟨hlx, g, rfl, _, hgg, hcx⟩ := HA.out k x hxx
      have hcrx := hbel.cell (p := ⟨g, k, none⟩) hgg
      rw [hcx] at hcrx
      have HX : Hid (la[k]? = some x) := hxx
      clear hxx hcx
      by_cases c2 : k < lb.length
      · obtain ⟨y, hxy⟩ : ∃ y, lb[k]? = some y := ⟨lb[k], by simp [*]⟩
        obtain ⟨hly, g2, rfl, _, hgg2, hcy⟩ := HB.out k y hxy
        have hcry := hbel.cell (p := ⟨g2, k, none⟩) hgg2
        rw [hcy] at hcry
        have HY : Hid (lb[k]? = some y) := hxy
        clear hxy hcy
        go_wp2_with (at_builtin; refine wpList_append_own _ rfl _ _ 138 rfl w.heap.size 3 i0 (.int .i64 0) 1 8 Tryz.underlying138 hi hz0 hz1 hz2 rfl (by decide) _ _ _ rfl (hown.1.alloc _) ⟨wr.heap.size, 0, none⟩ 1 1 [.int .i64 (((cy : Int) + (x : Int) + (y : Int)) % 1000000000)] rfl rfl ?c1a ?c2a ?c3a ?c4a ?c5a ?_)
        case c1a => exact cell_one_new _ _ _
        case c2a => intro u hu; simp at hu; subst hu; rfl
        case c3a => unfold maxLen; omega
        case c4a => omega
        case c5a => simp; omega
        · intro v' w1 hown' hgrow _
          have hr : OwnB w1 w.heap.size v' (s ++ [(cy + x + y) % 1000000000]) := OwnB.ofRow hown' (by simp [i64s]) (wds_snocB hown.2 (by first | exact Nat.mod_lt _ (by omega) | omega))
          have hb : Below w.heap.size w w1 := (hbel.alloc hsz _).grown hgrow (by simp; omega) (fun k hk => (hown.1.lt k hk).1)
          clear hown' hgrow hown hbel
          go_wp2
          go_roundw
          case rel =>
            have e2 : ((cy : Int) + (x : Int) + (y : Int)) / 1000000000 = ((((cy + x + y)) / 1000000000 : Nat) : Int) := by simp
            rw [e2]
            exact ⟨k + 1, s ++ [((cy + x + y)) % 1000000000], _, by go_num, rfl, by omega, by simp [HS.out], by omega, hr, plus_step HS.out (.inl HX.out) (.inl HY.out) (by omega) HV.out, last_new (cy := cy) HCA.out HCB.out (.inl HX.out) (.inl HY.out) (by omega) (by omega), hb⟩
          case measure => simp [intOf]; omega
      · go_wp2_with (at_builtin; refine wpList_append_own _ rfl _ _ 138 rfl w.heap.size 3 i0 (.int .i64 0) 1 8 Tryz.underlying138 hi hz0 hz1 hz2 rfl (by decide) _ _ _ rfl (hown.1.alloc _) ⟨wr.heap.size, 0, none⟩ 1 1 [.int .i64 (((cy : Int) + (x : Int)) % 1000000000)] rfl rfl ?c1b ?c2b ?c3b ?c4b ?c5b ?_)
        case c1b => exact cell_one_new _ _ _
        case c2b => intro u hu; simp at hu; subst hu; rfl
        case c3b => unfold maxLen; omega
        case c4b => omega
        case c5b => simp; omega
        · intro v' w1 hown' hgrow _
          have hr : OwnB w1 w.heap.size v' (s ++ [(cy + x) % 1000000000]) := OwnB.ofRow hown' (by simp [i64s]) (wds_snocB hown.2 (by first | exact Nat.mod_lt _ (by omega) | omega))
          have hb : Below w.heap.size w w1 := (hbel.alloc hsz _).grown hgrow (by simp; omega) (fun k hk => (hown.1.lt k hk).1)
          clear hown' hgrow hown hbel
          go_wp2
          go_roundw
          case rel =>
            have e2 : ((cy : Int) + (x : Int)) / 1000000000 = ((((cy + x)) / 1000000000 : Nat) : Int) := by simp
            rw [e2]
            exact ⟨k + 1, s ++ [((cy + x)) % 1000000000], _, by go_num, rfl, by omega, by simp [HS.out], by omega, hr, plus_step HS.out (.inl HX.out) (.inr ⟨by omega, rfl⟩) (by omega) HV.out, last_new (cy := cy) HCA.out HCB.out (.inl HX.out) (.inr ⟨by omega, rfl⟩) (by omega) (by omega), hb⟩
          case measure => simp [intOf]; omega
    · by_cases c2 : k < lb.length
      · obtain ⟨y, hxy⟩ : ∃ y, lb[k]? = some y := ⟨lb[k], by simp [*]⟩
        obtain ⟨hly, g2, rfl, _, hgg2, hcy⟩ := HB.out k y hxy
        have hcry := hbel.cell (p := ⟨g2, k, none⟩) hgg2
        rw [hcy] at hcry
        have HY : Hid (lb[k]? = some y) := hxy
        clear hxy hcy
        go_wp2_with (at_builtin; refine wpList_append_own _ rfl _ _ 138 rfl w.heap.size 3 i0 (.int .i64 0) 1 8 Tryz.underlying138 hi hz0 hz1 hz2 rfl (by decide) _ _ _ rfl (hown.1.alloc _) ⟨wr.heap.size, 0, none⟩ 1 1 [.int .i64 (((cy : Int) + (y : Int)) % 1000000000)] rfl rfl ?c1c ?c2c ?c3c ?c4c ?c5c ?_)
        case c1c => exact cell_one_new _ _ _
        case c2c => intro u hu; simp at hu; subst hu; rfl
        case c3c => unfold maxLen; omega
        case c4c => omega
        case c5c => simp; omega
        · intro v' w1 hown' hgrow _
          have hr : OwnB w1 w.heap.size v' (s ++ [(cy + y) % 1000000000]) := OwnB.ofRow hown' (by simp [i64s]) (wds_snocB hown.2 (by first | exact Nat.mod_lt _ (by omega) | omega))
          have hb : Below w.heap.size w w1 := (hbel.alloc hsz _).grown hgrow (by simp; omega) (fun k hk => (hown.1.lt k hk).1)
          clear hown' hgrow hown hbel
          go_wp2
          go_roundw
          case rel =>
            have e2 : ((cy : Int) + (y : Int)) / 1000000000 = ((((cy + y)) / 1000000000 : Nat) : Int) := by simp
            rw [e2]
            exact ⟨k + 1, s ++ [((cy + y)) % 1000000000], _, by go_num, rfl, by omega, by simp [HS.out], by omega, hr, plus_step HS.out (.inr ⟨by omega, rfl⟩) (.inl HY.out) (by omega) HV.out, last_new (cy := cy) HCA.out HCB.out (.inr ⟨by omega, rfl⟩) (.inl HY.out) (by omega) (by omega), hb⟩
          case measure => simp [intOf]; omega
      · by_cases c3 : cy = 0
        · subst c3
          go_wp2
          go_ret
          refine ⟨_, s, rfl, hown, ?_, ?_, hbel⟩
          · have hv := HV.out
            rw [List.take_of_length_le (by omega), List.take_of_length_le (by omega)] at hv
            simpa using hv
          · exact lastok_canon HLK.out (by omega) (by omega)
        · have hpos : 0 < cy := by omega
          go_wp2_with (at_builtin; refine wpList_append_own _ rfl _ _ 138 rfl w.heap.size 3 i0 (.int .i64 0) 1 8 Tryz.underlying138 hi hz0 hz1 hz2 rfl (by decide) _ _ _ rfl (hown.1.alloc _) ⟨wr.heap.size, 0, none⟩ 1 1 [.int .i64 (((cy : Int)) % 1000000000)] rfl rfl ?c1d ?c2d ?c3d ?c4d ?c5d ?_)
          case c1d => exact cell_one_new _ _ _
          case c2d => intro u hu; simp at hu; subst hu; rfl
          case c3d => unfold maxLen; omega
          case c4d => omega
          case c5d => simp; omega
          · intro v' w1 hown' hgrow _
            have hr : OwnB w1 w.heap.size v' (s ++ [(cy) % 1000000000]) := OwnB.ofRow hown' (by simp [i64s]) (wds_snocB hown.2 (by first | exact Nat.mod_lt _ (by omega) | omega))
            have hb : Below w.heap.size w w1 := (hbel.alloc hsz _).grown hgrow (by simp; omega) (fun k hk => (hown.1.lt k hk).1)
            clear hown' hgrow hown hbel
            go_wp2
            go_roundw
            case rel =>
              have e2 : ((cy : Int)) / 1000000000 = ((((cy)) / 1000000000 : Nat) : Int) := by simp
              rw [e2]
              exact ⟨k + 1, s ++ [((cy)) % 1000000000], _, by go_num, rfl, by omega, by simp [HS.out], by omega, hr, plus_step HS.out (.inr ⟨by omega, rfl⟩) (.inr ⟨by omega, rfl⟩) (by omega) HV.out, last_new (cy := cy) HCA.out HCB.out (.inr ⟨by omega, rfl⟩) (.inr ⟨by omega, rfl⟩) (by omega) (by omega), hb⟩
            case measure => simp [intOf]; omega

theorem plusOne_rep (w : World) (va vb : Value) (a b : Nat) (ha : RepB w 0 va a) (hb : RepB w 0 vb b) (sa : SmallB a) (sb : SmallB b) :
    Calls Tryz.prog 135 #[va, vb] w fun e w' => ∃ v', e = .returned v' ∧ RepB w' w.heap.size v' (a + b) ∧ Below w.heap.size w w' := by
  obtain ⟨la, a1, a2, a3, a4⟩ := ha.own sa
  obtain ⟨lb, b1, b2, b3, b4⟩ := hb.own sb
  refine (plusC_any w va vb la lb a1 b1 (by omega) (by omega) a2 b2).mono ?_
  rintro e w' ⟨v', l', rfl, h1, h2, h3, h4⟩
  exact ⟨v', rfl, ⟨l', h1, h3, by rw [h2, a3, b3]⟩, h4⟩

end Go.Proofs.YthdcceackfdbbaaGreatDoor
/- What the reference's Print reckons; walks over parts. Own text. -/
namespace Go.Proofs.YthdcceackfdbbaaGreatDoor
open Go.RowKit
attribute [local go_sem ↓] Go.wp_at_zero Go.wp_at_succ

/-- Is 10 to the k not above the size? -/
def leT (s : Nat) (k : Int) : Prop := oneS s * 10 ^ k.toNat ≤ sizeS s * 10 ^ (-k).toNat

theorem leT_iff {s a b : Nat} {k : Int} (h : (b : Int) - a = k) : leT s k ↔ oneS s * 10 ^ b ≤ sizeS s * 10 ^ a := by
  obtain ⟨t, h1, h2⟩ : ∃ t : Nat, b = k.toNat + t ∧ a = (-k).toNat + t := ⟨b - k.toNat, by omega, by omega⟩
  unfold leT
  rw [h1, h2, Nat.pow_add, Nat.pow_add, ← Nat.mul_assoc, ← Nat.mul_assoc]
  exact ⟨fun h => Nat.mul_le_mul_right _ h, fun h => Nat.le_of_mul_le_mul_right h (ten_pow_pos t)⟩

theorem leT_down {s : Nat} {k : Int} (h : leT s (k + 1)) : leT s k := by
  obtain ⟨a, b, hab⟩ : ∃ a b : Nat, (b : Int) - a = k := ⟨(-k).toNat, k.toNat, by omega⟩
  rw [leT_iff (a := a) (b := b + 1) (by omega)] at h
  rw [leT_iff hab]
  rw [Nat.pow_succ, ← Nat.mul_assoc] at h
  omega

theorem leT_le {s : Nat} {k k' : Int} (h : leT s k) (hk : k' ≤ k) : leT s k' := by
  obtain ⟨n, rfl⟩ : ∃ n : Nat, k = k' + n := ⟨(k - k').toNat, by omega⟩
  clear hk
  induction n with
  | zero => simpa using h
  | succ n ih => exact ih (leT_down (by rw [show k' + (n : Int) + 1 = k' + ((n + 1 : Nat) : Int) by omega]; exact h))

theorem top_unique {s : Nat} {k k' : Int} (h1 : leT s k) (h2 : ¬ leT s (k + 1)) (h3 : leT s k') (h4 : ¬ leT s (k' + 1)) : k = k' := by
  by_cases h : k < k'
  · exact absurd (leT_le h3 (by omega)) h2
  · by_cases h' : k' < k
    · exact absurd (leT_le h1 (by omega)) h4
    · omega

theorem leT_bd {s : Nat} {k : Int} (hs : s < 9218868437227405312) (h : leT s k) : k ≤ 400 := by
  by_cases hk : k ≤ 400
  · exact hk
  · obtain ⟨M, hM, p1, p2⟩ := pM
    have hS : sizeS s < 10 ^ M := lt_ten (size_bl hs).1 p1
    unfold leT at h
    rw [show (-k).toNat = 0 by omega, Nat.pow_zero, Nat.mul_one] at h
    have h1 : 10 ^ M ≤ 10 ^ k.toNat := Nat.pow_le_pow_right (by omega) (by omega)
    have h2 : 10 ^ k.toNat ≤ oneS s * 10 ^ k.toNat := Nat.le_mul_of_pos_left _ (Nat.pos_of_ne_zero (one_ne s))
    exact absurd (Nat.lt_of_lt_of_le hS (Nat.le_trans h1 (Nat.le_trans h2 h))) (Nat.lt_irrefl _)

theorem near_scale {lo d u c : Nat} (hc : 0 < c) : nearS lo (d * c) (u * c) = nearS lo d u := by
  have h1 : ∀ x y : Nat, x * c < y * c ↔ x < y := fun x y => ⟨fun h => Nat.lt_of_mul_lt_mul_right h, fun h => Nat.mul_lt_mul_of_pos_right h hc⟩
  unfold nearS
  simp only [h1]

theorem pick_scale {N B A D c : Nat} {ev : Bool} (hc : 0 < c) : pickO (N * c) (B * c) (A * c) (D * c) ev = pickO N B A D ev := by
  unfold pickO
  rw [Nat.mul_div_mul_right _ _ hc, Nat.mul_mod_mul_right, ← Nat.sub_mul, inS_scale hc, inS_scale hc, near_scale hc]

/-- The step of shortest at the power k. -/
def PK (s : Nat) (k : Int) : Option Nat := pickO (sizeS s * 10 ^ (-k).toNat) (belowS s * 10 ^ (-k).toNat) (aboveS s * 10 ^ (-k).toNat) (oneS s * 10 ^ k.toNat) (decide (s % 2 = 0))

theorem PK_iff {s a b : Nat} {k : Int} (h : (b : Int) - a = k) : PK s k = pickO (sizeS s * 10 ^ a) (belowS s * 10 ^ a) (aboveS s * 10 ^ a) (oneS s * 10 ^ b) (decide (s % 2 = 0)) := by
  obtain ⟨t, h1, h2⟩ : ∃ t : Nat, b = k.toNat + t ∧ a = (-k).toNat + t := ⟨b - k.toNat, by omega, by omega⟩
  have q : ∀ x i : Nat, x * 10 ^ (i + t) = x * 10 ^ i * 10 ^ t := fun x i => by rw [Nat.pow_add, Nat.mul_assoc]
  unfold PK
  rw [h1, h2, q, q, q, q]
  exact (pick_scale (ten_pow_pos t)).symm

theorem ShortAt.steps {s d : Nat} {p : Int} (h : ShortAt s d p) : ∃ j : Nat, j ≤ 16 ∧ leT s (p + j) ∧ ¬ leT s (p + j + 1) ∧ PK s p = some d ∧ ∀ i : Nat, i < j → PK s (p + j - i) = none := by
  obtain ⟨a, b, j, h1, h2, h3, rfl, h4, h5, h6, h7⟩ := h
  have q : ∀ x i : Nat, x * 10 ^ (a + i) = x * 10 ^ a * 10 ^ i := fun x i => by rw [Nat.pow_add, Nat.mul_assoc]
  refine ⟨j, h3, ?_, ?_, ?_, ?_⟩
  · rw [leT_iff (a := a) (b := b) (by omega)]; exact h4
  · rw [leT_iff (a := a) (b := b + 1) (by omega), Nat.pow_succ, ← Nat.mul_assoc]
    omega
  · rw [PK_iff (a := a + j) (b := b) (by omega), q, q, q]; exact h6
  · intro i hi
    rw [PK_iff (a := a + i) (b := b) (by omega), q, q, q]; exact h7 i hi

/-- How far one is from the other. -/
def gap (V N : Nat) : Nat := if V < N then N - V else V - N
def reach (V N B A : Nat) : Nat := if V < N then B else A

theorem low_facts {N D : Nat} (hD : D ≠ 0) : N / D * D + N % D = N ∧ N % D < D := ⟨by rw [Nat.mul_comm]; exact Nat.div_add_mod N D, Nat.mod_lt N (Nat.pos_of_ne_zero hD)⟩

theorem gap_low {N D : Nat} (hD : D ≠ 0) : gap (N / D * D) N = N % D := by
  obtain ⟨h1, h2⟩ := low_facts (N := N) hD
  unfold gap
  split <;> omega

theorem gap_high {N D : Nat} (hD : D ≠ 0) : gap ((N / D + 1) * D) N = D - N % D := by
  obtain ⟨h1, h2⟩ := low_facts (N := N) hD
  unfold gap
  rw [Nat.add_mul, Nat.one_mul]
  split <;> omega

theorem in_low {N B A D : Nat} {ev : Bool} (hD : D ≠ 0) (hB : 0 < B) (hA : 0 < A) : inS (gap (N / D * D) N) (reach (N / D * D) N B A) ev = inS (N % D) B ev := by
  obtain ⟨h1, h2⟩ := low_facts (N := N) hD
  rw [gap_low hD]
  unfold reach
  split
  · rfl
  · rw [show N % D = 0 by omega]
    unfold inS
    simp [hB, hA]

theorem in_high {N B A D : Nat} {ev : Bool} (hD : D ≠ 0) : inS (gap ((N / D + 1) * D) N) (reach ((N / D + 1) * D) N B A) ev = inS (D - N % D) A ev := by
  obtain ⟨h1, h2⟩ := low_facts (N := N) hD
  rw [gap_high hD]
  unfold reach
  rw [if_neg (by rw [Nat.add_mul, Nat.one_mul]; omega)]

theorem above_pos (s : Nat) : 0 < aboveS s := by
  unfold aboveS qS
  have : 0 < 2 ^ (eS s).toNat := Nat.pow_pos (by omega)
  omega

theorem digs_inj {a b : List UInt8} (ha : Digs a) (hb : Digs b) (hl : a.length = b.length) (hv : dval a = dval b) : a = b := by
  induction a generalizing b with
  | nil => cases b with
    | nil => rfl
    | cons y b => simp at hl
  | cons x a ih =>
    cases b with
    | nil => simp at hl
    | cons y b =>
      have hl' : a.length = b.length := by simpa using hl
      have da : Digs a := fun c hc => ha c (by simp [hc])
      have db : Digs b := fun c hc => hb c (by simp [hc])
      have e1 := dval_append [x] a
      have e2 := dval_append [y] b
      simp only [List.cons_append, List.nil_append] at e1 e2
      rw [e1, e2, hl'] at hv
      have l1 := dval_lt da
      have l2 := dval_lt db
      rw [hl'] at l1
      have f1 : dval [x] = x.toNat - 48 := by simp [dval]
      have f2 : dval [y] = y.toNat - 48 := by simp [dval]
      rw [f1, f2] at hv
      have hx := ha x (by simp)
      have hy := hb y (by simp)
      unfold isDig at hx hy
      simp at hx hy
      have g1 : (x.toNat - 48) = (y.toNat - 48) := by
        have q1 : ((x.toNat - 48) * 10 ^ b.length + dval a) / 10 ^ b.length = x.toNat - 48 := by
          rw [Nat.mul_comm, Nat.mul_add_div (ten_pow_pos _), Nat.div_eq_of_lt l1, Nat.add_zero]
        have q2 : ((y.toNat - 48) * 10 ^ b.length + dval b) / 10 ^ b.length = y.toNat - 48 := by
          rw [Nat.mul_comm, Nat.mul_add_div (ten_pow_pos _), Nat.div_eq_of_lt l2, Nat.add_zero]
        rw [← q1, ← q2, hv]
      have g2 : dval a = dval b := by rw [g1] at hv; omega
      have g3 : x = y := by
        apply UInt8.toNat_inj.1
        omega
      rw [g3, ih da db hl' g2]

theorem dd_unique {l : List UInt8} {n : Nat} (hd : Digs l) (h0 : ∀ c r, l = c :: r → c.toNat ≠ 48) (hv : dval l = n) (hn : n ≠ 0) : l = Lib.decDigits n := by
  obtain ⟨d1, d2, d3, d4⟩ := dd_all n
  have key : ∀ {a b : List UInt8}, Digs a → Digs b → (∀ c r, a = c :: r → c.toNat ≠ 48) → dval a = dval b → a ≠ [] → a.length ≤ b.length := by
    intro a b ha hb h0 hv hne
    cases a with
    | nil => exact absurd rfl hne
    | cons c r =>
      have h1 := dval_ge ha (c := c) (r := r) rfl (h0 c r rfl)
      have h2 := dval_lt hb
      by_cases h : (c :: r).length ≤ b.length
      · exact h
      · have h3 : 10 ^ b.length ≤ 10 ^ ((c :: r).length - 1) := Nat.pow_le_pow_right (by omega) (by omega)
        omega
  have hne : l ≠ [] := by intro h; subst h; simp [dval] at hv; omega
  refine digs_inj hd d1 (Nat.le_antisymm (key hd d1 h0 (by rw [hv, d2]) hne) (key d1 hd (d3 hn) (by rw [hv, d2]) d4)) (by rw [hv, d2])

theorem valB_parity {x : Nat} {l : List Nat} : valB (x :: l) % 2 = x % 2 := by simp only [valB]; omega


theorem tup2i {a a' b b' : Int} (h1 : a = a') (h2 : b = b') : Ending.returned (.tuple #[.int .i64 a, .int .i64 b]) = .returned (.tuple #[.int .i64 a', .int .i64 b']) := by rw [h1, h2]

theorem and_2047 {s : Nat} (h : s < 9218868437227405312) : bits BinOp.and IntKind.u64 ((s : Int) / 4503599627370496) 2047 = (s : Int) / 4503599627370496 := by
  rw [show (s : Int) / 4503599627370496 = ((s / 4503599627370496 : Nat) : Int) by omega, show (2047 : Int) = ((2047 : Nat) : Int) from rfl, u64_and_nat _ _ (by omega) (by omega)]
  congr 1
  have := Nat.and_two_pow_sub_one_eq_mod (s / 4503599627370496) 11
  rw [show (2 : Nat) ^ 11 - 1 = 2047 from rfl] at this
  rw [this]
  omega

set_option maxHeartbeats 400000 in
theorem refparts_any (w : World) (s : Nat) (hs : s < 9218868437227405312) :
    Calls Tryz.prog 133 #[.int .u64 (s : Int)] w fun e w' => e = .returned (.tuple #[.int .i64 ((mS s : Nat) : Int), .int .i64 (eS s)]) ∧ w' = w := by
  have hf := and_frac (s := s) (by omega)
  have hf2 := and_2047 hs
  by_cases h0 : s / 4503599627370496 = 0
  · have hb : ((s : Int) / 4503599627370496 == 0) = true := by simp; omega
    go_enter Tryz.func133, Tryz.ntmps133
    go_wp2
    go_ret2
    refine ⟨tup2i ?_ ?_, rfl⟩
    · simp [mS, h0]
    · simp [eS, h0]
  · have hb : ((s : Int) / 4503599627370496 == 0) = false := by simp; omega
    go_enter Tryz.func133, Tryz.ntmps133
    go_wp2
    go_ret2
    refine ⟨tup2i ?_ ?_, rfl⟩
    · rw [mS, if_neg h0]; omega
    · rw [eS, if_neg h0]; omega

theorem RepB.form {w : World} {B : Nat} {v : Value} {n : Nat} (h : RepB w B v n) : ∃ ao k cap, v = .slice ao k cap := by
  obtain ⟨l, h1, _⟩ := h
  obtain ⟨ao, cap, rfl, _⟩ := h1.shape1
  exact ⟨ao, _, cap, rfl⟩

/-- A number of the reference whose places lie in another block than g. -/
def NumB (w : World) (g : Nat) (v : Value) (n : Nat) : Prop := RepB w 0 v n ∧ ∀ k, v.ownBlock = some k → k ≠ g

theorem NumB.below {w w' : World} {g : Nat} {v : Value} {n : Nat} (h : NumB w g v n) (hb : Below w.heap.size w w') : NumB w' g v n := ⟨h.1.below hb, h.2⟩
theorem NumB.set {w : World} {g : Nat} {v : Value} {n : Nat} (h : NumB w g v n) (i : Nat) (u : Value) : NumB (w.setCell ⟨g, i, none⟩ u) g v n := by
  obtain ⟨⟨l, h1, h2⟩, h3⟩ := h
  exact ⟨⟨l, h1.setOther (a := ⟨g, i, none⟩) u h3, h2⟩, h3⟩
theorem numB_new {w : World} {B g : Nat} {v : Value} {n : Nat} (h : RepB w B v n) (hg : g < B) : NumB w g v n := by
  refine ⟨h.base (Nat.zero_le _), ?_⟩
  obtain ⟨l, h1, _⟩ := h
  intro k hk
  have := (h1.1.lt k hk).1
  omega
theorem numB_old {w : World} {B g : Nat} {v : Value} {n : Nat} (h : RepB w B v n) (hg : w.heap.size ≤ g) : NumB w g v n := by
  refine ⟨h.base (Nat.zero_le _), ?_⟩
  obtain ⟨l, h1, _⟩ := h
  intro k hk
  have := (h1.1.lt k hk).2
  omega
theorem numB_off {w : World} {B g : Nat} {v : Value} {n : Nat} (h : RepB w B v n) (hn : n ≠ 0) {ao : Option Addr} {k cap : Nat} (hc : w.cell? ⟨g, 0, none⟩ = some (.slice ao k cap)) : NumB w g v n := by
  refine ⟨h.base (Nat.zero_le _), ?_⟩
  obtain ⟨l, h1, _, h3⟩ := h
  intro b hb hbg
  subst hbg
  rcases h1.shape with ⟨rfl, rfl⟩ | ⟨g', cap', rfl, _, _, _, _, h5, _⟩
  · simp [valB] at h3; omega
  · simp [Value.ownBlock] at hb
    subst hb
    cases l with
    | nil => simp [valB] at h3; omega
    | cons x l => have := h5 0 x (by simp); rw [this] at hc; simp at hc

/-- The scale that lies in block g. -/
structure SpnB (w : World) (g : Nat) (v0 v1 v2 v3 : Value) (S B A D : Nat) : Prop where
  lt : g < w.heap.size
  fr : ∀ i, w.frozen? ⟨g, i, none⟩ = false
  c0 : w.cell? ⟨g, 0, none⟩ = some v0
  c1 : w.cell? ⟨g, 1, none⟩ = some v1
  c2 : w.cell? ⟨g, 2, none⟩ = some v2
  c3 : w.cell? ⟨g, 3, none⟩ = some v3
  n0 : NumB w g v0 S
  n1 : NumB w g v1 B
  n2 : NumB w g v2 A
  n3 : NumB w g v3 D

theorem SpnB.below {w w' : World} {g : Nat} {v0 v1 v2 v3 : Value} {S B A D : Nat} (h : SpnB w g v0 v1 v2 v3 S B A D) (hb : Below w.heap.size w w') : SpnB w' g v0 v1 v2 v3 S B A D := by
  obtain ⟨hc, hf⟩ := bcell hb
  exact ⟨Nat.lt_of_lt_of_le h.lt hb.size, fun i => (hf g i h.lt).trans (h.fr i), (hc g 0 h.lt).trans h.c0, (hc g 1 h.lt).trans h.c1, (hc g 2 h.lt).trans h.c2, (hc g 3 h.lt).trans h.c3, h.n0.below hb, h.n1.below hb, h.n2.below hb, h.n3.below hb⟩

section sets
variable {w : World} {g : Nat} {v0 v1 v2 v3 v : Value} {S B A D N : Nat}

theorem SpnB.set0 (h : SpnB w g v0 v1 v2 v3 S B A D) (hv : NumB w g v N) : SpnB (w.setCell ⟨g, 0, none⟩ v) g v v1 v2 v3 N B A D :=
  ⟨by simpa using h.lt, fr_set h.fr _ _, World.cell?_setCell_same _ _ _ h.c0, (World.cell?_setCell_other _ _ _ _ (by simp)).trans h.c1, (World.cell?_setCell_other _ _ _ _ (by simp)).trans h.c2, (World.cell?_setCell_other _ _ _ _ (by simp)).trans h.c3, hv.set _ _, h.n1.set _ _, h.n2.set _ _, h.n3.set _ _⟩
theorem SpnB.set1 (h : SpnB w g v0 v1 v2 v3 S B A D) (hv : NumB w g v N) : SpnB (w.setCell ⟨g, 1, none⟩ v) g v0 v v2 v3 S N A D :=
  ⟨by simpa using h.lt, fr_set h.fr _ _, (World.cell?_setCell_other _ _ _ _ (by simp)).trans h.c0, World.cell?_setCell_same _ _ _ h.c1, (World.cell?_setCell_other _ _ _ _ (by simp)).trans h.c2, (World.cell?_setCell_other _ _ _ _ (by simp)).trans h.c3, h.n0.set _ _, hv.set _ _, h.n2.set _ _, h.n3.set _ _⟩
theorem SpnB.set2 (h : SpnB w g v0 v1 v2 v3 S B A D) (hv : NumB w g v N) : SpnB (w.setCell ⟨g, 2, none⟩ v) g v0 v1 v v3 S B N D :=
  ⟨by simpa using h.lt, fr_set h.fr _ _, (World.cell?_setCell_other _ _ _ _ (by simp)).trans h.c0, (World.cell?_setCell_other _ _ _ _ (by simp)).trans h.c1, World.cell?_setCell_same _ _ _ h.c2, (World.cell?_setCell_other _ _ _ _ (by simp)).trans h.c3, h.n0.set _ _, h.n1.set _ _, hv.set _ _, h.n3.set _ _⟩
theorem SpnB.set3 (h : SpnB w g v0 v1 v2 v3 S B A D) (hv : NumB w g v N) : SpnB (w.setCell ⟨g, 3, none⟩ v) g v0 v1 v2 v S B A N :=
  ⟨by simpa using h.lt, fr_set h.fr _ _, (World.cell?_setCell_other _ _ _ _ (by simp)).trans h.c0, (World.cell?_setCell_other _ _ _ _ (by simp)).trans h.c1, (World.cell?_setCell_other _ _ _ _ (by simp)).trans h.c2, World.cell?_setCell_same _ _ _ h.c3, h.n0.set _ _, h.n1.set _ _, h.n2.set _ _, hv.set _ _⟩
end sets

theorem power2_num (w : World) (g : Nat) (v : Value) (a n : Nat) (m0 : Int) (h : NumB w g v a) (hg : g < w.heap.size) {ao : Option Addr} {k cap : Nat} (hc : w.cell? ⟨g, 0, none⟩ = some (.slice ao k cap)) (ha : a ≠ 0) (hn : n ≤ 100000) (hm0 : m0 = (n : Int)) (hs : SmallB (a * 2 ^ n)) :
    Calls Tryz.prog 91 #[v, .int .i64 2, .int .i64 m0] w fun e w' => ∃ a' k' p', e = .returned (.slice a' k' p') ∧ NumB w' g (.slice a' k' p') (a * 2 ^ n) ∧ Below w.heap.size w w' := by
  refine (power2_any w v a n m0 h.1 hn hm0 hs).mono ?_
  rintro e w' ⟨v', rfl, r, b⟩
  obtain ⟨a', k', p', rfl⟩ := r.form
  exact ⟨a', k', p', rfl, numB_off r (Nat.mul_ne_zero ha (Nat.ne_of_gt (Nat.pow_pos (by omega)))) ((b.cell (p := ⟨g, 0, none⟩) hg).trans hc), b⟩

theorem power10_num (w : World) (g : Nat) (v : Value) (a n : Nat) (m0 : Int) (h : NumB w g v a) (hg : g < w.heap.size) {ao : Option Addr} {k cap : Nat} (hc : w.cell? ⟨g, 0, none⟩ = some (.slice ao k cap)) (ha : a ≠ 0) (hn : n ≤ 100000) (hm0 : m0 = (n : Int)) (hs : SmallB (a * 10 ^ n)) :
    Calls Tryz.prog 91 #[v, .int .i64 10, .int .i64 m0] w fun e w' => ∃ a' k' p', e = .returned (.slice a' k' p') ∧ NumB w' g (.slice a' k' p') (a * 10 ^ n) ∧ Below w.heap.size w w' := by
  refine (power10_any w v a n m0 h.1 hn hm0 hs).mono ?_
  rintro e w' ⟨v', rfl, r, b⟩
  obtain ⟨a', k', p', rfl⟩ := r.form
  exact ⟨a', k', p', rfl, numB_off r (Nat.mul_ne_zero ha (Nat.ne_of_gt (ten_pow_pos n))) ((b.cell (p := ⟨g, 0, none⟩) hg).trans hc), b⟩

theorem small_form (w : World) (x : Nat) (hx : x < 9223372036854775808) :
    Calls Tryz.prog 90 #[.int .i64 (x : Int)] w fun e w' => ∃ a k p, e = .returned (.slice a k p) ∧ RepB w' w.heap.size (.slice a k p) x ∧ Below w.heap.size w w' := by
  refine (small_any w x hx).mono ?_
  rintro e w' ⟨v', rfl, r, b⟩
  obtain ⟨a', k', p', rfl⟩ := r.form
  exact ⟨a', k', p', rfl, r, b⟩

theorem times_form (w : World) (v : Value) (a n : Nat) (m : Int) (h : RepB w 0 v a) (ha : SmallB a) (hn : n ≤ 1000000000) (hm : m = (n : Int)) :
    Calls Tryz.prog 124 #[v, .int .i64 m] w fun e w' => ∃ a' k p, e = .returned (.slice a' k p) ∧ RepB w' w.heap.size (.slice a' k p) (a * n) ∧ Below w.heap.size w w' := by
  refine (times_rep w v a n m h ha hn hm).mono ?_
  rintro e w' ⟨v', rfl, r, b⟩
  obtain ⟨a', k', p', rfl⟩ := r.form
  exact ⟨a', k', p', rfl, r, b⟩

theorem minus_form (w : World) (va vb : Value) (a b : Nat) (ha : RepB w 0 va a) (hb : RepB w 0 vb b) (sa : SmallB a) :
    Calls Tryz.prog 128 #[va, vb] w fun e w' => ∃ a' k' p' d, e = .returned (.slice a' k' p') ∧ RepB w' w.heap.size (.slice a' k' p') d ∧ (b ≤ a → d = a - b) ∧ SmallB d ∧ Below w.heap.size w w' := by
  refine (minus_rep w va vb a b ha hb sa).mono ?_
  rintro e w' ⟨v', d, rfl, r, h1, h2, b⟩
  obtain ⟨a', k', p', rfl⟩ := r.form
  exact ⟨a', k', p', d, rfl, r, h1, h2, b⟩

theorem product_form (w : World) (va vb : Value) (a b : Nat) (ha : RepB w 0 va a) (hb : RepB w 0 vb b) (sa : SmallB a) (sb : SmallB b) :
    Calls Tryz.prog 125 #[va, vb] w fun e w' => ∃ a' k' p', e = .returned (.slice a' k' p') ∧ RepB w' w.heap.size (.slice a' k' p') (a * b) ∧ Below w.heap.size w w' := by
  refine (product_rep w va vb a b ha hb sa sb).mono ?_
  rintro e w' ⟨v', rfl, r, b⟩
  obtain ⟨a', k', p', rfl⟩ := r.form
  exact ⟨a', k', p', rfl, r, b⟩

theorem power10_form (w : World) (v : Value) (a n : Nat) (m0 : Int) (h : RepB w 0 v a) (hn : n ≤ 100000) (hm0 : m0 = (n : Int)) (hs : SmallB (a * 10 ^ n)) :
    Calls Tryz.prog 91 #[v, .int .i64 10, .int .i64 m0] w fun e w' => ∃ a' k' p', e = .returned (.slice a' k' p') ∧ RepB w' 0 (.slice a' k' p') (a * 10 ^ n) ∧ Below w.heap.size w w' := by
  refine (power10_any w v a n m0 h hn hm0 hs).mono ?_
  rintro e w' ⟨v', rfl, r, b⟩
  obtain ⟨a', k', p', rfl⟩ := r.form
  exact ⟨a', k', p', rfl, r, b⟩

end Go.Proofs.YthdcceackfdbbaaGreatDoor
/- Walks over the reference: decimals, count. Own text. -/
namespace Go.Proofs.YthdcceackfdbbaaGreatDoor
open Go.RowKit
attribute [local go_sem ↓] Go.wp_at_zero Go.wp_at_succ

def strSz : Value → Nat
  | .string b => b.size
  | _ => 0

theorem dval_one (c : UInt8) : dval [c] = c.toNat - 48 := by simp [dval]

theorem dig_front {P : List UInt8} {k m x : Nat} (hd : Digs P) (hl : P.length = k) (hv : dval P + 10 ^ k * m = x) :
    Digs (UInt8.ofNat (48 + m % 10) :: P) ∧ (UInt8.ofNat (48 + m % 10) :: P).length = k + 1 ∧ dval (UInt8.ofNat (48 + m % 10) :: P) + 10 ^ (k + 1) * (m / 10) = x := by
  have hm : m % 10 < 10 := Nat.mod_lt _ (by omega)
  refine ⟨?_, by simp [hl], ?_⟩
  · intro c hc
    rcases List.mem_cons.1 hc with rfl | hc
    · exact isDig_of hm
    · exact hd c hc
  · have e := dval_append [UInt8.ofNat (48 + m % 10)] P
    simp only [List.cons_append, List.nil_append] at e
    rw [e, dval_one, u8_dig hm, hl, show 48 + m % 10 - 48 = m % 10 by omega, Nat.pow_succ, ← hv]
    have h2 : m = 10 * (m / 10) + m % 10 := (Nat.div_add_mod m 10).symm
    have h3 : 10 ^ k * m = 10 ^ k * 10 * (m / 10) + m % 10 * 10 ^ k := by
      conv => lhs; rw [h2, Nat.mul_add]
      rw [Nat.mul_assoc, Nat.mul_comm (m % 10)]
    omega

theorem place_front {P L : List UInt8} {l : List Nat} {i m x : Nat} (hP : Digs P) (hL : Digs L) (hl : P.length = 9) (hv : dval P + 10 ^ 9 * m = x) (hx : l[i]? = some x) (hw : x < 1000000000) (hLl : L.length = 9 * i) (hLv : dval L = valB (l.take i)) :
    Digs (P ++ L) ∧ (P ++ L).length = 9 * (i + 1) ∧ dval (P ++ L) = valB (l.take (i + 1)) := by
  refine ⟨digs_append hP hL, by simp [hl, hLl]; omega, ?_⟩
  have hm : m = 0 := by
    rcases Nat.eq_zero_or_pos m with h | h
    · exact h
    · have : 10 ^ 9 * 1 ≤ 10 ^ 9 * m := Nat.mul_le_mul_left _ h
      omega
  subst hm
  rw [dval_append, hLl, hLv, val_take_succB (.inl hx), Nat.pow_mul, show (10 : Nat) ^ 9 = 1000000000 from rfl]
  have : dval P = x := by simpa using hv
  rw [this, Nat.mul_comm x]
  omega

/-- What is left behind noughts ahead. -/
theorem drop_end {R : List UInt8} (h : ∀ c r, R = c :: r → (c == 48) = false) : R.dropWhile (· == 48) = R := by
  cases R with
  | nil => rfl
  | cons c r => rw [List.dropWhile_cons_of_neg (by simp [h c r rfl])]

theorem one_conv (w : World) (m : Nat) :
    (convert 72 9 (.slice (some ⟨w.heap.size, 0, none⟩) 1 1)).run Tryz.prog (w.alloc (.cells #[.int .u8 (48 + (m : Int) % 10)] 5)) = .ok (.string ⟨#[UInt8.ofNat (48 + m % 10)]⟩) (w.alloc (.cells #[.int .u8 (48 + (m : Int) % 10)] 5)) := by
  refine run_convert_bytes_back (w.alloc (.cells #[.int .u8 (48 + (m : Int) % 10)] 5)) 72 9 5 ⟨w.heap.size, 0, none⟩ 1 [UInt8.ofNat (48 + m % 10)] Tryz.underlying72 Tryz.underlying5 Tryz.underlying9 ?_
  intro j hj
  have : j = 0 := by simpa using hj
  subst this
  have e := u8_dig (d := m % 10) (Nat.mod_lt _ (by omega))
  have e2 : (48 + (m : Int) % 10) = (((UInt8.ofNat (48 + m % 10)).toNat : Nat) : Int) := by rw [e]; omega
  rw [Lib.add_plain, e2]
  simp

set_option maxRecDepth 20000 in
set_option maxHeartbeats 3200000 in
theorem decimals_any (w : World) (v : Value) (n : Nat) (h : RepB w 0 v n) (hs : SmallB n) (hn0 : n ≠ 0) :
    Calls Tryz.prog 113 #[v] w fun e w' => ∃ t : ByteArray, e = .returned (.string t) ∧ t.data.toList = Lib.decDigits n ∧ Below w.heap.size w w' := by
  obtain ⟨l, ho, hcan, hval, hlen⟩ := h.own hs
  obtain ⟨ao, cap, rfl, hlc, hcap, hcell⟩ := ho.shape1
  have HA : Hid (∀ (i x : Nat), l[i]? = some x → x < 1000000000 ∧ ∃ g, ao = some ⟨g, 0, none⟩ ∧ 0 ≤ g ∧ g < w.heap.size ∧ w.cell? ⟨g, i, none⟩ = some (.int .i64 (x : Int))) := hcell
  have HV : Hid (valB l = n) := hval
  have HN : Hid (n ≠ 0) := hn0
  clear hcell hcap hval h hs ho hcan hn0
  go_enter Tryz.func113, Tryz.ntmps113
  go_wp2
  go_loopw [3, 4] (fun q i wr => ∃ (k : Nat) (t : ByteArray), k ≤ l.length ∧ i = .int .i64 k ∧ q = .string t ∧ Digs t.data.toList ∧ t.data.toList.length = 9 * k ∧ dval t.data.toList = valB (l.take k) ∧ Below w.heap.size w wr) (fun _ i _ => l.length - (intOf i).toNat)
  case atStart => exact ⟨0, ⟨#[]⟩, Nat.zero_le _, rfl, rfl, by intro c hc; simp at hc, by simp, by simp [dval, valB], Below.refl _ _⟩
  case round =>
    obtain ⟨k, t, hk, rfl, rfl, hd, htl, hdv, hbel⟩ := hrel
    by_cases hlt : k < l.length
    · obtain ⟨x, hx⟩ : ∃ x, l[k]? = some x := ⟨l[k], by simp [*]⟩
      obtain ⟨hxb, g, rfl, _, hg, hc⟩ := HA.out k x hx
      have hcr := hbel.cell (p := ⟨g, k, none⟩) hg
      rw [hc] at hcr
      have HX : Hid (l[k]? = some x) := hx
      have HT : Hid (Digs t.data.toList ∧ t.data.toList.length = 9 * k ∧ dval t.data.toList = valB (l.take k)) := ⟨hd, htl, hdv⟩
      have hts : t.size = 9 * k := by rw [bytes_size rfl]; exact htl
      clear hx hc hd htl hdv
      go_wp2
      go_loopw [3, 5, 6] (fun q y i wx => ∃ (j m : Nat) (P : List UInt8) (u : ByteArray), j ≤ 9 ∧ i = .int .i64 j ∧ y = .int .i64 m ∧ q = .string u ∧ u.data.toList = P ++ t.data.toList ∧ Digs P ∧ P.length = j ∧ dval P + 10 ^ j * m = x ∧ m ≤ x ∧ Below w.heap.size w wx) (fun _ _ i _ => 9 - (intOf i).toNat)
      case atStart => exact ⟨0, x, [], t, by omega, rfl, rfl, rfl, rfl, by intro c hc; simp at hc, rfl, by simp [dval], Nat.le_refl _, hbel⟩
      case round =>
        clear hbel hcr
        obtain ⟨j, m, P, u, hj, rfl, rfl, rfl, hu, hP, hPl, hPv, hmx, hbel⟩ := hrel
        have hus : u.size ≤ 9 * k + 9 := by rw [bytes_size hu]; simp; rw [hPl]; have := HT.out.2.1; omega
        have HU : Hid (u.data.toList = P ++ t.data.toList) := hu
        have HP : Hid (Digs P ∧ P.length = j ∧ dval P + 10 ^ j * m = x) := ⟨hP, hPl, hPv⟩
        clear hu hP hPl hPv
        by_cases hj9 : j < 9
        · have hsz := hbel.size
          have hcv := one_conv wr m
          go_wp2
          go_roundw
          case rel =>
            obtain ⟨p1, p2, p3⟩ := HP.out
            obtain ⟨z1, z2, z3⟩ := dig_front p1 p2 p3
            refine ⟨j + 1, m / 10, _, _, by omega, by go_num, by go_num, rfl, ?_, z1, z2, z3, by omega, hbel.alloc hsz _⟩
            rw [bytes_append_list, HU.out]
            simp
          case measure => simp [intOf]; omega
        · have hj0 : j = 9 := by omega
          subst hj0
          go_wp2
          go_roundw
          case rel =>
            obtain ⟨p1, p2, p3⟩ := HP.out
            obtain ⟨t1, t2, t3⟩ := HT.out
            obtain ⟨z1, z2, z3⟩ := place_front p1 t1 p2 p3 HX.out hxb t2 t3
            exact ⟨k + 1, u, by omega, by go_num, rfl, by rw [HU.out]; exact z1, by rw [HU.out]; exact z2, by rw [HU.out]; exact z3, hbel⟩
          case measure => simp [intOf]; omega
    · have hkk : k = l.length := by omega
      subst hkk
      rw [List.take_length, HV.out] at hdv
      have hts : t.size ≤ 2700 := by rw [bytes_size rfl, htl]; omega
      have HT : Hid (Digs t.data.toList ∧ dval t.data.toList = n) := ⟨hd, hdv⟩
      clear hd htl hdv
      go_wp2
      go_loop [3] (fun q => ∃ u : ByteArray, q = .string u ∧ u.size ≤ 2700 ∧ u.data.toList.dropWhile (· == 48) = t.data.toList.dropWhile (· == 48)) (fun q => strSz q)
      case atStart => exact ⟨t, rfl, hts, rfl⟩
      case round =>
        obtain ⟨u, rfl, hus, hud⟩ := hrel
        have HUD : Hid (u.data.toList.dropWhile (· == 48) = t.data.toList.dropWhile (· == 48)) := hud
        clear hud
        by_cases hz : 0 < u.size
        · by_cases hc : (u[0] == 48) = true
          · have hb : ((u[0].toNat : Int) == 48) = true := by rw [eq_of_beq hc]; rfl
            have hi1 : (1 : Int) ≤ (u.size : Int) := by omega
            obtain ⟨c, r, hcr⟩ : ∃ c r, u.data.toList = c :: r := by
              cases hl : u.data.toList with
              | nil => have := bytes_size hl; rw [List.length_nil] at this; omega
              | cons c r => exact ⟨c, r, rfl⟩
            have hc0 := bytes_head hcr hz
            have HE : Hid ((u.extract 1 u.size).data.toList = r ∧ (u.extract 1 u.size).size = u.size - 1 ∧ r.dropWhile (· == 48) = t.data.toList.dropWhile (· == 48)) := by
              have e1 := drop_one hcr
              refine ⟨e1, by rw [bytes_size e1, bytes_size hcr]; simp, ?_⟩
              rw [← HUD.out, hcr, List.dropWhile_cons_of_pos (by rw [← hc0]; exact hc)]
            clear hcr hc0 hc
            go_wp2
            go_round
            case rel => exact ⟨_, rfl, by rw [HE.out.2.1]; omega, by rw [HE.out.1]; exact HE.out.2.2⟩
            case measure => simp [strSz]; omega
          · have hc' : (u[0] == 48) = false := by simpa using hc
            have hb : ((u[0].toNat : Int) == 48) = false := by simp; intro h; exact hc (by rw [show u[0] = 48 from UInt8.toNat_inj.1 (by rw [show (48 : UInt8).toNat = 48 from rfl]; omega)]; rfl)
            go_wp2
            go_ret
            refine ⟨u, rfl, ?_, hbel⟩
            have e1 : u.data.toList = t.data.toList.dropWhile (· == 48) := by
              rw [← HUD.out]
              refine (drop_end ?_).symm
              intro c r hcr
              rw [← bytes_head hcr hz]
              exact hc'
            rw [e1]
            exact dd_unique (digs_drop HT.out.1 _) (drop_zero _) (by rw [dval_drop]; exact HT.out.2) HN.out
        · have hz0 : u.size = 0 := by omega
          exfalso
          have e1 : t.data.toList.dropWhile (· == 48) = [] := by
            rw [← HUD.out]
            cases hl : u.data.toList with
            | nil => rfl
            | cons c r => have := bytes_size hl; rw [List.length_cons] at this; omega
          have e2 := dval_drop t.data.toList
          rw [e1, HT.out.2] at e2
          exact HN.out (by simpa [dval] using e2.symm)

theorem smallB_int {n : Nat} (h : n < 9223372036854775808) : SmallB n := SmallB.of_lt (k := 63) (by omega) (by omega)

set_option maxRecDepth 20000 in
set_option maxHeartbeats 1600000 in
theorem count_pos (w : World) (n : Nat) (h1 : 1 ≤ n) (h2 : n ≤ 100000) :
    Calls Tryz.prog 78 #[.int .i64 (n : Int)] w fun e w' => ∃ t : ByteArray, e = .returned (.string t) ∧ t.data.toList = Lib.decDigits n ∧ Below w.heap.size w w' := by
  have hb : ((n : Int) == 0) = false := by simp; omega
  go_enter Tryz.func78, Tryz.ntmps78
  go_wp2_with fail
  refine (small_form _ n (by omega)).mono ?_
  rintro e w1 ⟨a, k, p, rfl, r1, b1⟩
  go_wp2_with fail
  refine (decimals_any _ _ n (r1.base (Nat.zero_le _)) (smallB_int (by omega)) (by omega)).mono ?_
  rintro e w2 ⟨t, rfl, ht, b2⟩
  go_wp2
  go_ret
  exact ⟨t, rfl, ht, b1.trans (b2.mono b1.size)⟩

theorem itoa_pos {n : Nat} : Lib.itoa (n : Int) = Lib.decDigits n := by
  unfold Lib.itoa
  rw [if_neg (by omega)]
  rfl

theorem itoa_neg {n : Nat} (h : 1 ≤ n) : Lib.itoa (-(n : Int)) = 45 :: Lib.decDigits n := by
  unfold Lib.itoa
  rw [if_pos (by omega)]
  simp

set_option maxRecDepth 20000 in
set_option maxHeartbeats 1600000 in
theorem count_any (w : World) (n : Int) (h1 : -100000 ≤ n) (h2 : n ≤ 100000) :
    Calls Tryz.prog 78 #[.int .i64 n] w fun e w' => ∃ t : ByteArray, e = .returned (.string t) ∧ t.data.toList = Lib.itoa n ∧ Below w.heap.size w w' := by
  by_cases hneg : n < 0
  · obtain ⟨m, hm⟩ : ∃ m : Nat, n = -(m : Int) := ⟨(-n).toNat, by omega⟩
    have hm1 : 1 ≤ m := by omega
    have hm2 : m ≤ 100000 := by omega
    subst hm
    have hlen : (Lib.decDigits m).length ≤ 6 := dd_len (by omega) (by omega)
    have HI := itoa_neg hm1
    go_enter Tryz.func78, Tryz.ntmps78
    go_wp2_with fail
    first
      | refine (count_pos _ m hm1 hm2).mono ?_
      | (rw [show - -(m : Int) = (m : Int) by omega]; refine (count_pos _ m hm1 hm2).mono ?_)
    rintro e w1 ⟨t, rfl, ht, b1⟩
    have hts : t.size ≤ 6 := by rw [bytes_size ht]; exact hlen
    go_wp2
    go_ret
    refine ⟨_, rfl, ?_, b1⟩
    rw [bytes_append_list, ht, HI]
    rfl
  · obtain ⟨m, hm⟩ : ∃ m : Nat, n = (m : Int) := ⟨n.toNat, by omega⟩
    subst hm
    by_cases hz : m = 0
    · subst hz
      go_enter Tryz.func78, Tryz.ntmps78
      go_wp2
      go_ret
      refine ⟨_, rfl, ?_, Below.refl _ _⟩
      have e := itoa_pos (n := 0)
      rw [Lib.decDigits] at e
      simpa using e.symm
    · rw [itoa_pos]
      exact count_pos w m (by omega) (by omega)

end Go.Proofs.YthdcceackfdbbaaGreatDoor
