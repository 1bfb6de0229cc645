import Derived.Test.YthdcceackfdbbaaGreatDoorM00W
import Derived.Test.YthdcceackfdbbaaGreatDoorM01W
import Derived.Deep.Cut
import Derived.Deep.CutRange
namespace Go.Proofs.YthdcceackfdbbaaGreatDoor
open Go Go.RowKit

theorem isPlace_b (w : World) (k n : Int) (b : Bool) (hb : decide (0 ≤ k ∧ k < n) = b) : Calls Tryz.prog 95 #[.int .i64 k, .int .i64 n] w fun e w' => e = .returned (.bool b) ∧ w' = w := by
  rw [← hb]; exact isPlace_any w k n

theorem leaves_b (w : World) (k s : Int) (b : Bool) (hb : decide (1 < k ∧ (s ≤ -100000 ∨ 100000 ≤ s)) = b) : Calls Tryz.prog 96 #[.int .i64 k, .int .i64 s] w fun e w' => e = .returned (.bool b) ∧ w' = w := by
  rw [← hb]; exact leaves_any w k s

theorem prod_small {i : Nat} {s : Int} (hi : i ≤ 40) (h : i = 0 ∨ (-100000 < s ∧ s < 100000)) : -1000000000 ≤ (i : Int) * s ∧ (i : Int) * s ≤ 1000000000 := by
  rcases h with rfl | ⟨h1, h2⟩
  · simp
  · have b := between s hi
    constructor <;> · simp at b; omega

set_option maxHeartbeats 1000000 in
theorem inside_any (w : World) (R C : Nat) (off rs cs : Int) (n : Nat) (hR : 1 ≤ R ∧ R ≤ 40) (hC : 1 ≤ C ∧ C ≤ 40) (hn : n ≤ 100000) :
    Calls Tryz.prog 61 #[viewV R C off rs cs, .int .i64 (n : Int)] w fun e w' => (∃ b, e = .returned (.bool b) ∧ (b = true ↔ Corner R C off rs cs n) ∧ (b = true → (R = 1 ∨ (-100000 < rs ∧ rs < 100000)) ∧ (C = 1 ∨ (-100000 < cs ∧ cs < 100000)))) ∧ Below w.heap.size w w' := by
  by_cases c0 : ¬ (0 ≤ off ∧ off < n)
  · have e0 : decide (0 ≤ off ∧ off < (n : Int)) = false := by simp only [decide_eq_false_iff_not]; exact c0
    have HN : Hid (¬ Corner R C off rs cs n) := fun h => c0 h.1
    unfold viewV
    clear c0
    go_enter Tryz.func61, Tryz.ntmps61
    go_wp2_with fail
    refine (isPlace_b _ _ _ false e0).mono ?_
    rintro e w1 ⟨rfl, rfl⟩
    clear e0
    go_wp2
    go_ret
    exact ⟨⟨_, rfl, ⟨fun h => (by cases h), fun h => absurd h HN.out⟩, fun h => (by cases h)⟩, (Below.refl _ _).alloc (Nat.le_refl _) _⟩
  replace c0 := Decidable.not_not.1 c0
  have e0 : decide (0 ≤ off ∧ off < (n : Int)) = true := by simp only [decide_eq_true_eq]; exact c0
  by_cases c1 : 1 < (R : Int) ∧ (rs ≤ -100000 ∨ 100000 ≤ rs)
  · have e1 : decide (1 < (R : Int) ∧ (rs ≤ -100000 ∨ 100000 ≤ rs)) = true := by simp only [decide_eq_true_eq]; exact c1
    have HN : Hid (¬ Corner R C off rs cs n) := fun h => by
      have := (corner_iff (by omega) (by omega)).1 h 1 0 (by omega) (by omega)
      simp at this; omega
    unfold viewV
    clear c0 c1
    go_enter Tryz.func61, Tryz.ntmps61
    go_wp2_with fail
    refine (isPlace_b _ _ _ true e0).mono ?_
    rintro e w1 ⟨rfl, rfl⟩
    clear e0
    go_wp2_with fail
    refine (leaves_b _ _ _ true e1).mono ?_
    rintro e w1 ⟨rfl, rfl⟩
    clear e1
    go_wp2
    go_ret
    exact ⟨⟨_, rfl, ⟨fun h => (by cases h), fun h => absurd h HN.out⟩, fun h => (by cases h)⟩, (Below.refl _ _).alloc (Nat.le_refl _) _⟩
  have e1 : decide (1 < (R : Int) ∧ (rs ≤ -100000 ∨ 100000 ≤ rs)) = false := by simp only [decide_eq_false_iff_not]; exact c1
  by_cases c2 : 1 < (C : Int) ∧ (cs ≤ -100000 ∨ 100000 ≤ cs)
  · have e2 : decide (1 < (C : Int) ∧ (cs ≤ -100000 ∨ 100000 ≤ cs)) = true := by simp only [decide_eq_true_eq]; exact c2
    have HN : Hid (¬ Corner R C off rs cs n) := fun h => by
      have := (corner_iff (by omega) (by omega)).1 h 0 1 (by omega) (by omega)
      simp at this; omega
    unfold viewV
    clear c0 c1 c2
    go_enter Tryz.func61, Tryz.ntmps61
    go_wp2_with fail
    refine (isPlace_b _ _ _ true e0).mono ?_
    rintro e w1 ⟨rfl, rfl⟩
    clear e0
    go_wp2_with fail
    refine (leaves_b _ _ _ false e1).mono ?_
    rintro e w1 ⟨rfl, rfl⟩
    clear e1
    go_wp2_with fail
    refine (leaves_b _ _ _ true e2).mono ?_
    rintro e w1 ⟨rfl, rfl⟩
    clear e2
    go_wp2
    go_ret
    exact ⟨⟨_, rfl, ⟨fun h => (by cases h), fun h => absurd h HN.out⟩, fun h => (by cases h)⟩, (Below.refl _ _).alloc (Nat.le_refl _) _⟩
  have e2 : decide (1 < (C : Int) ∧ (cs ≤ -100000 ∨ 100000 ≤ cs)) = false := by simp only [decide_eq_false_iff_not]; exact c2
  have HS : Hid ((R = 1 ∨ (-100000 < rs ∧ rs < 100000)) ∧ (C = 1 ∨ (-100000 < cs ∧ cs < 100000))) := ⟨by omega, by omega⟩
  have p1 : Hid _ := prod_small (i := R - 1) (s := rs) (by omega) (by omega)
  have p2 : Hid _ := prod_small (i := C - 1) (s := cs) (by omega) (by omega)
  have HC : Hid (Corner R C off rs cs n ↔ ((0 ≤ off + ((R - 1 : Nat) : Int) * rs ∧ off + ((R - 1 : Nat) : Int) * rs < n) ∧ (0 ≤ off + ((C - 1 : Nat) : Int) * cs ∧ off + ((C - 1 : Nat) : Int) * cs < n) ∧
    (0 ≤ off + ((R - 1 : Nat) : Int) * rs + ((C - 1 : Nat) : Int) * cs ∧ off + ((R - 1 : Nat) : Int) * rs + ((C - 1 : Nat) : Int) * cs < n))) := by
    show _ ↔ _
    unfold Corner; simp [c0]
  have HO : Hid (-4611686018427387904 ≤ off ∧ off ≤ 4611686018427387903) := ⟨by omega, by omega⟩
  have hr1 : (R : Int) - 1 = ((R - 1 : Nat) : Int) := by omega
  have hr2 : (C : Int) - 1 = ((C - 1 : Nat) : Int) := by omega
  clear c0 c1 c2
  have hq : Tryz.prog.follows .mixedOrders = true := by kernel_rfl
  unfold viewV
  go_enter Tryz.func61, Tryz.ntmps61
  go_wp2_with fail
  refine (isPlace_b _ _ _ true e0).mono ?_
  rintro e w1 ⟨rfl, rfl⟩
  clear e0
  go_wp2_with fail
  refine (leaves_b _ _ _ false e1).mono ?_
  rintro e w1 ⟨rfl, rfl⟩
  clear e1
  go_wp2_with fail
  refine (leaves_b _ _ _ false e2).mono ?_
  rintro e w1 ⟨rfl, rfl⟩
  clear e2
  go_wp2_with fail
  go_quiet (fail)
  have hb : ∀ x y z : Obj, Below w.heap.size w ((w.alloc x).drewN nq) ∧ Below w.heap.size w (((w.alloc x).drewN nq).alloc y) ∧ Below w.heap.size w ((((w.alloc x).drewN nq).alloc y).alloc y) ∧ Below w.heap.size w (((((w.alloc x).drewN nq).alloc y).alloc y).alloc z) := fun x y z => by
    have h0 : Below w.heap.size w ((w.alloc x).drewN nq) := below_dn ((Below.refl _ _).alloc (Nat.le_refl _) _) _
    have h1 := h0.alloc (by simp) y
    have h2 := h1.alloc (by simp; omega) y
    exact ⟨h0, h1, h2, h2.alloc (by simp; omega) z⟩
  have HB := hid hb
  clear hb
  by_cases d1 : 0 ≤ off + ((R - 1 : Nat) : Int) * rs ∧ off + ((R - 1 : Nat) : Int) * rs < n
  · have D1 : Hid (decide (0 ≤ off + ((R - 1 : Nat) : Int) * rs ∧ off + ((R - 1 : Nat) : Int) * rs < n) = true) := by simp only [Hid, decide_eq_true_eq]; exact d1
    have G1 := hid d1
    clear d1
    by_cases d2 : 0 ≤ off + ((C - 1 : Nat) : Int) * cs ∧ off + ((C - 1 : Nat) : Int) * cs < n
    · have D2 : Hid (decide (0 ≤ off + ((C - 1 : Nat) : Int) * cs ∧ off + ((C - 1 : Nat) : Int) * cs < n) = true) := by simp only [Hid, decide_eq_true_eq]; exact d2
      have G2 := hid d2
      clear d2
      obtain ⟨b3, hb3⟩ : ∃ b, decide (0 ≤ off + ((R - 1 : Nat) : Int) * rs + ((C - 1 : Nat) : Int) * cs ∧ off + ((R - 1 : Nat) : Int) * rs + ((C - 1 : Nat) : Int) * cs < n) = b := ⟨_, rfl⟩
      have D3 := hid hb3
      clear hb3
      go_wp2_with fail
      refine (at_any _ R C off rs cs ((R - 1 : Nat) : Int) 0 HO.out p1.out (by simp)).mono ?_
      rintro e w1 ⟨rfl, rfl⟩
      go_wp2_with fail
      refine (isPlace_b _ _ _ true D1.out).mono ?_
      rintro e w1 ⟨rfl, rfl⟩
      go_wp2_with fail
      refine (at_any _ R C off rs cs 0 ((C - 1 : Nat) : Int) HO.out (by simp) p2.out).mono ?_
      rintro e w1 ⟨rfl, rfl⟩
      go_wp2_with fail
      refine (isPlace_b _ _ _ true D2.out).mono ?_
      rintro e w1 ⟨rfl, rfl⟩
      go_wp2_with fail
      refine (at_any _ R C off rs cs ((R - 1 : Nat) : Int) ((C - 1 : Nat) : Int) HO.out p1.out p2.out).mono ?_
      rintro e w1 ⟨rfl, rfl⟩
      go_wp2_with fail
      refine (isPlace_b _ _ _ b3 D3.out).mono ?_
      rintro e w1 ⟨rfl, rfl⟩
      go_wp2
      go_ret
      exact ⟨⟨b3, rfl, by rw [HC.out, ← D3.out, decide_eq_true_eq]; exact ⟨fun h => ⟨G1.out, G2.out, h⟩, fun h => h.2.2⟩, fun _ => HS.out⟩, (HB.out _ _ _).2.2.2⟩
    · have D2 : Hid (decide (0 ≤ off + ((C - 1 : Nat) : Int) * cs ∧ off + ((C - 1 : Nat) : Int) * cs < n) = false) := by simp only [Hid, decide_eq_false_iff_not]; exact d2
      have G2 := hid d2
      clear d2
      go_wp2_with fail
      refine (at_any _ R C off rs cs ((R - 1 : Nat) : Int) 0 HO.out p1.out (by simp)).mono ?_
      rintro e w1 ⟨rfl, rfl⟩
      go_wp2_with fail
      refine (isPlace_b _ _ _ true D1.out).mono ?_
      rintro e w1 ⟨rfl, rfl⟩
      go_wp2_with fail
      refine (at_any _ R C off rs cs 0 ((C - 1 : Nat) : Int) HO.out (by simp) p2.out).mono ?_
      rintro e w1 ⟨rfl, rfl⟩
      go_wp2_with fail
      refine (isPlace_b _ _ _ false D2.out).mono ?_
      rintro e w1 ⟨rfl, rfl⟩
      go_wp2
      go_ret
      exact ⟨⟨_, rfl, ⟨fun h => (by cases h), fun h => absurd (HC.out.1 h).2.1 G2.out⟩, fun h => (by cases h)⟩, (HB.out _ _ (.deferred none)).2.2.1⟩
  · have D1 : Hid (decide (0 ≤ off + ((R - 1 : Nat) : Int) * rs ∧ off + ((R - 1 : Nat) : Int) * rs < n) = false) := by simp only [Hid, decide_eq_false_iff_not]; exact d1
    have G1 := hid d1
    clear d1
    go_wp2_with fail
    refine (at_any _ R C off rs cs ((R - 1 : Nat) : Int) 0 HO.out p1.out (by simp)).mono ?_
    rintro e w1 ⟨rfl, rfl⟩
    go_wp2_with fail
    refine (isPlace_b _ _ _ false D1.out).mono ?_
    rintro e w1 ⟨rfl, rfl⟩
    go_wp2
    go_ret
    exact ⟨⟨_, rfl, ⟨fun h => (by cases h), fun h => absurd (HC.out.1 h).1 G1.out⟩, fun h => (by cases h)⟩, (HB.out _ _ (.deferred none)).2.1⟩

end Go.Proofs.YthdcceackfdbbaaGreatDoor
namespace Go.Proofs.YthdcceackfdbbaaGreatDoor
open Go Go.RowKit

def BoolOk (p : Prop) (e : Ending) : Prop := ∃ b, e = .returned (.bool b) ∧ (b = true ↔ p)

theorem boolOk_t {p : Prop} (h : p) : BoolOk p (.returned (.bool true)) := ⟨true, rfl, fun _ => h, fun _ => rfl⟩
theorem boolOk_f {p : Prop} (h : ¬ p) : BoolOk p (.returned (.bool false)) := ⟨false, rfl, fun e => (by cases e), fun e => absurd e h⟩

def NoMeet (C : Nat) (rs cs : Int) (d : Nat) (r : Int) : Prop := -(C : Int) < r → r < C → (d ≠ 0 ∨ r ≠ 0) → (d : Int) * rs + r * cs ≠ 0

theorem prod_smallI {C : Nat} {r s : Int} (hC : C ≤ 40) (h1 : -(C : Int) < r) (h2 : r < C) (h : C = 1 ∨ (-100000 < s ∧ s < 100000)) : -1000000000 ≤ r * s ∧ r * s ≤ 1000000000 := by
  rcases h with rfl | h
  · have : r = 0 := by omega
    subst this; simp
  · by_cases hr : 0 ≤ r
    · obtain ⟨k, rfl⟩ := Int.eq_ofNat_of_zero_le hr
      exact prod_small (by omega) (.inr h)
    · obtain ⟨k, hk⟩ := Int.eq_ofNat_of_zero_le (show 0 ≤ -r by omega)
      have : r = -(k : Int) := by omega
      subst this
      have := prod_small (i := k) (s := s) (by omega) (.inr h)
      rw [Int.neg_mul]; omega

theorem nm_next {C : Nat} {rs cs : Int} {d : Nat} {r : Int} (h2 : ∀ r', r' < r → NoMeet C rs cs d r') (h : NoMeet C rs cs d r) : ∀ r', r' < r + 1 → NoMeet C rs cs d r' := fun r' hr => by
  by_cases e : r' = r
  · subst e; exact h
  · exact h2 r' (by omega)

set_option maxHeartbeats 1000000 in
theorem meets_any (w : World) (R C : Nat) (off rs cs : Int) (hR : 1 ≤ R ∧ R ≤ 40) (hC : 1 ≤ C ∧ C ≤ 40) (hr : R = 1 ∨ (-100000 < rs ∧ rs < 100000)) (hc : C = 1 ∨ (-100000 < cs ∧ cs < 100000)) :
    Calls Tryz.prog 62 #[viewV R C off rs cs] w fun e w' => BoolOk (Meets R C rs cs) e ∧ Below w.heap.size w w' := by
  have HRS : Hid _ := hid hr
  have HCS : Hid _ := hid hc
  clear hr hc
  unfold viewV
  go_enter Tryz.func62, Tryz.ntmps62
  go_wp2
  go_loop [8] (fun v => ∃ d : Nat, v = .int .i64 d ∧ d ≤ R ∧ ∀ d', d' < d → ∀ r, NoMeet C rs cs d' r) (fun v => R - (intOf v).toNat)
  case atStart => exact ⟨0, rfl, by omega, fun d' h => by omega⟩
  case round =>
    obtain ⟨d, rfl, hd, hno⟩ := hrel
    have HN := hid hno
    clear hno
    by_cases hdR : d < R
    · have hdR' : (d : Int) < R := by omega
      go_wp2
      go_loop [4] (fun v => ∃ r : Int, v = .int .i64 r ∧ -(C : Int) < r ∧ r ≤ C ∧ ∀ r', r' < r → NoMeet C rs cs d r') (fun v => ((C : Int) - intOf v).toNat)
      case atStart => exact ⟨1 - C, rfl, by omega, by omega, fun r' h h1 => by omega⟩
      case round =>
        obtain ⟨r, rfl, h1, h2, hno2⟩ := hrel
        have HN2 := hid hno2
        clear hno2
        by_cases hrC : r < C
        · have hp1 := prod_small (i := d) (s := rs) (by omega) (by have := HRS.out; omega)
          have hp2 := prod_smallI hC.2 h1 hrC HCS.out
          go_wp2
          · obtain rfl : d = 0 := by assumption
            obtain rfl : r = 0 := by assumption
            refine ⟨⟨by omega, by omega, nm_next HN2.out (fun _ _ h => by simp at h)⟩, by simp [intOf]; omega⟩
          · have ⟨h3, h4⟩ : (r != 0) = true ∧ (r * cs == 0) = true := by assumption
            obtain rfl : d = 0 := by assumption
            go_ret
            exact ⟨boolOk_t ⟨0, hdR, r, h1, hrC, .inr (by simpa using h3), by simpa using h4⟩, (Below.refl _ _).alloc (Nat.le_refl _) _⟩
          · have h3 : ¬ r = 0 := by assumption
            have h4 : (r != 0) = false ∨ (r * cs == 0) = false := by assumption
            have h5 : ¬ r * cs = 0 := by simpa [h3] using h4
            obtain rfl : d = 0 := by assumption
            refine ⟨⟨by omega, by omega, nm_next HN2.out (fun _ _ _ => by simpa using h5)⟩, by simp [intOf]; omega⟩
          · have h3 : ¬ d = 0 := by assumption
            have h4 : ((d : Int) * rs + r * cs == 0) = true := by assumption
            go_ret
            exact ⟨boolOk_t ⟨d, hdR, r, h1, hrC, .inl h3, by simpa using h4⟩, (Below.refl _ _).alloc (Nat.le_refl _) _⟩
          · have h4 : ((d : Int) * rs + r * cs == 0) = false := by assumption
            go_round
            case rel => exact ⟨r + 1, rfl, by omega, by omega, nm_next HN2.out (fun _ _ _ => by simpa using h4)⟩
            case measure => simp [intOf]; omega
        · go_wp2
          go_round
          case rel =>
            refine ⟨d + 1, by simp, by omega, fun d' hd' r' => ?_⟩
            by_cases e : d' = d
            · subst e; exact fun a b => HN2.out r' (by omega) a b
            · exact HN.out d' (by omega) r'
          case measure => simp [intOf]; omega
    · have hdR' : ¬ ((d : Int) < R) := by omega
      go_wp2
      go_ret
      refine ⟨boolOk_f ?_, (Below.refl _ _).alloc (Nat.le_refl _) _⟩
      rintro ⟨d', h1, r, h2, h3, h4, h5⟩
      exact absurd h5 (HN.out d' (by omega) r h2 h3 h4)

end Go.Proofs.YthdcceackfdbbaaGreatDoor
namespace Go.Proofs.YthdcceackfdbbaaGreatDoor
open Go Go.RowKit

theorem step_b (w : World) (s : Int) (n : Nat) (b : Bool) (hn : n ≤ 100000) (hb : decide (-(n : Int) < s ∧ s < n) = b) : Calls Tryz.prog 52 #[.int .i64 s, .int .i64 (n : Int)] w fun e w' => e = .returned (.bool b) ∧ w' = w := by
  subst hb
  go_enter Tryz.func52, Tryz.ntmps52
  go_wp2
  all_goals go_ret
  all_goals refine ⟨?_, rfl⟩
  all_goals simp [*]
  all_goals first | omega | (rw [Bool.eq_iff_iff]; simp [*])

theorem place_any (w : World) (R C off rs cs : Int) (i j : Nat) (hi : i ≤ 40) (hj : j ≤ 40) (h0 : -4611686018427387904 ≤ off ∧ off ≤ 4611686018427387903) (h1 : i = 0 ∨ (-100000 < rs ∧ rs < 100000)) (h2 : j = 0 ∨ (-100000 < cs ∧ cs < 100000)) :
    Calls Tryz.prog 31 #[viewV R C off rs cs, .int .i64 (i : Int), .int .i64 (j : Int)] w fun e w' => e = .returned (.int .i64 (off + i * rs + j * cs)) ∧ w' = w.alloc (.cells #[.int .i64 R, .int .i64 C, .int .i64 off, .int .i64 rs, .int .i64 cs] 24) := by
  have p1 := prod_small hi h1
  have p2 := prod_small hj h2
  clear h1 h2
  unfold viewV
  by_cases hi0 : i = 0 <;> by_cases hj0 : j = 0
  · subst hi0; subst hj0
    go_enter Tryz.func31, Tryz.ntmps31
    go_wp2
    go_ret
    exact ⟨by simp, rfl⟩
  · have hj1 : (0 : Int) < j := by omega
    subst hi0
    go_enter Tryz.func31, Tryz.ntmps31
    go_wp2
    go_ret
    exact ⟨by simp, rfl⟩
  · have hi1 : (0 : Int) < i := by omega
    subst hj0
    go_enter Tryz.func31, Tryz.ntmps31
    go_wp2
    go_ret
    exact ⟨by simp, rfl⟩
  · have hj1 : (0 : Int) < j := by omega
    have hi1 : (0 : Int) < i := by omega
    go_enter Tryz.func31, Tryz.ntmps31
    go_wp2
    go_ret
    exact ⟨by simp, rfl⟩

theorem Tryz.infoBool : (Tryz.prog.info? 4).map (fun i => (i.zero, i.size, i.bytes)) = some (some (.bool false), 1, 1) := by kernel_rfl

theorem place_p (w : World) (R C off rs cs : Int) (i j : Nat) (p : Int) (hi : i ≤ 40) (hj : j ≤ 40) (h0 : -4611686018427387904 ≤ off ∧ off ≤ 4611686018427387903) (h1 : i = 0 ∨ (-100000 < rs ∧ rs < 100000)) (h2 : j = 0 ∨ (-100000 < cs ∧ cs < 100000))
    (hp : off + i * rs + j * cs = p) :
    Calls Tryz.prog 31 #[viewV R C off rs cs, .int .i64 (i : Int), .int .i64 (j : Int)] w fun e w' => e = .returned (.int .i64 p) ∧ w' = w.alloc (.cells #[.int .i64 R, .int .i64 C, .int .i64 off, .int .i64 rs, .int .i64 cs] 24) := by
  subst hp; exact place_any w R C off rs cs i j hi hj h0 h1 h2

/-- what the reference's list of places seen holds -/
def SM (b : Nat) (R C : Nat) (off rs cs : Int) (n i j : Nat) (wr : World) : Prop :=
  Arr wr b 24 [.int .i64 (R : Int), .int .i64 (C : Int), .int .i64 off, .int .i64 rs, .int .i64 cs] ∧
  ∃ sl : List Bool, Arr wr (b + 1) 4 (sl.map Value.bool) ∧ sl.length = n ∧ ∀ p : Nat, sl[p]? = some true ↔ ∃ x y, Ahead C i j x y ∧ off + x * rs + y * cs = p

theorem SM.row {b R C : Nat} {off rs cs : Int} {n i : Nat} {wr : World} (h : SM b R C off rs cs n i C wr) : SM b R C off rs cs n (i + 1) 0 wr := by
  obtain ⟨h1, sl, h2, h3, h4⟩ := h
  refine ⟨h1, sl, h2, h3, fun p => (h4 p).trans ?_⟩
  simp only [ahead_row]

theorem SM.step {b R C : Nat} {off rs cs : Int} {n i j : Nat} {wr : World} (h : SM b R C off rs cs n i j wr) {p : Nat} (hp : off + i * rs + j * cs = p) (hn : p < n) (hj : j < C) (o : Obj) :
    SM b R C off rs cs n i (j + 1) ((wr.alloc o).setCell ⟨b + 1, p, none⟩ (.bool true)) := by
  obtain ⟨h1, sl, h2, h3, h4⟩ := h
  refine ⟨(h1.alloc o).other _ (by omega), sl.set p true, ?_, by simp [h3], fun q => ?_⟩
  · have := (h2.alloc o).set p (.bool true)
    rw [List.map_set]; exact this
  · rw [List.getElem?_set]
    simp only [ahead_step]
    by_cases e : p = q
    · subst e
      simp only [if_true]
      rw [if_pos (by omega)]
      exact ⟨fun _ => ⟨i, j, .inr ⟨rfl, rfl⟩, hp⟩, fun _ => rfl⟩
    · rw [if_neg e, h4 q]
      constructor
      · rintro ⟨x, y, h5, h6⟩; exact ⟨x, y, .inl h5, h6⟩
      · rintro ⟨x, y, h5 | ⟨rfl, rfl⟩, h6⟩
        · exact ⟨x, y, h5, h6⟩
        · omega

theorem Below.refl' (w : World) (o : Obj) : Below w.heap.size w (w.alloc o) := (Below.refl _ _).alloc (Nat.le_refl _) o

set_option maxRecDepth 20000 in
set_option maxHeartbeats 4000000 in
theorem refFits_main (w : World) (r c : Nat) (off rs cs : Int) (n : Nat) (hrr : 1 ≤ r ∧ r ≤ 40) (hcc : 1 ≤ c ∧ c ≤ 40) (hn : n ≤ 100000) :
    Calls Tryz.prog 30 #[viewV r c off rs cs, .int .i64 (n : Int)] w fun e w' => BoolOk (Fit r c off rs cs n) e ∧ Below w.heap.size w w' := by
  have hr2 : ((r : Int) == 0) = false := by simp; omega
  have hc2 : ((c : Int) == 0) = false := by simp; omega
  have c0 : ¬ (100000 : Int) < n := by omega
  have c1 : ¬ (r : Int) < 0 := by omega
  have c2 : ¬ (40 : Int) < r := by omega
  have c3 : ¬ (c : Int) < 0 := by omega
  have c4 : ¬ (40 : Int) < c := by omega
  obtain ⟨br, hbr⟩ : ∃ b, decide (-(n : Int) < rs ∧ rs < n) = b := ⟨_, rfl⟩
  obtain ⟨bc, hbc⟩ : ∃ b, decide (-(n : Int) < cs ∧ cs < n) = b := ⟨_, rfl⟩
  have HBR := hid hbr
  have HBC := hid hbc
  obtain ⟨b1, hb1⟩ : ∃ b, ((r : Int) == 1) = b := ⟨_, rfl⟩
  obtain ⟨b2, hb2⟩ : ∃ b, ((c : Int) == 1) = b := ⟨_, rfl⟩
  have HB1 := hid hb1
  have HB2 := hid hb2
  have HFS := hid (fit_step (off := off) (rs := rs) (cs := cs) (n := n) (show 0 < r by omega) (show 0 < c by omega))
  obtain ⟨i0, hi, hz0, hz1, hz2⟩ := info_parts Tryz.infoBool
  have hmk := run_make1 (P := Tryz.prog) 108 4 i0 (.bool false) Tryz.underlying108 hi hz0 hz1 rfl n (by rw [hz2]; omega) (by omega)
  have HB0 : Hid (∀ o, Below w.heap.size w (w.alloc o)) := fun o => (Below.refl _ _).alloc (Nat.le_refl _) _
  clear hbr hbc hi hz0 hz1 hz2
  unfold viewV
  have hvw : Arr (w.alloc (.cells #[.int .i64 (r : Int), .int .i64 (c : Int), .int .i64 off, .int .i64 rs, .int .i64 cs] 24)) w.heap.size 24 [.int .i64 (r : Int), .int .i64 (c : Int), .int .i64 off, .int .i64 rs, .int .i64 cs] := Arr.newL _ _ _
  obtain ⟨rw, hrw⟩ : ∃ b, (b1 || br) = b := ⟨_, rfl⟩
  obtain ⟨cw, hcw⟩ : ∃ b, (b2 || bc) = b := ⟨_, rfl⟩
  have HRW := hid hrw
  have HCW := hid hcw
  clear hrw hcw
  go_enter Tryz.func30, Tryz.ntmps30
  go_upto_region 5 with fail
  obtain ⟨W, hW⟩ : ∃ W, w.alloc (.cells #[.int .i64 (r : Int), .int .i64 (c : Int), .int .i64 off, .int .i64 rs, .int .i64 cs] 24) = W := ⟨_, rfl⟩
  have HW := hid hW
  have k0 : W.cell? ⟨w.heap.size, 0, none⟩ = some (.int .i64 (r : Int)) := by rw [hW] at hvw; exact hvw.cell rfl
  have k1 : W.cell? ⟨w.heap.size, 1, none⟩ = some (.int .i64 (c : Int)) := by rw [hW] at hvw; exact hvw.cell rfl
  have k2 : W.cell? ⟨w.heap.size, 2, none⟩ = some (.int .i64 off) := by rw [hW] at hvw; exact hvw.cell rfl
  have k3 : W.cell? ⟨w.heap.size, 3, none⟩ = some (.int .i64 rs) := by rw [hW] at hvw; exact hvw.cell rfl
  have k4 : W.cell? ⟨w.heap.size, 4, none⟩ = some (.int .i64 cs) := by rw [hW] at hvw; exact hvw.cell rfl
  have HVW : Hid (Arr W w.heap.size 24 [.int .i64 (r : Int), .int .i64 (c : Int), .int .i64 off, .int .i64 rs, .int .i64 cs]) := by rw [hW] at hvw; exact hvw
  have hsz : W.heap.size = w.heap.size + 1 := by rw [← hW]; simp
  have HBW : Hid (Below w.heap.size w W) := by rw [← hW]; exact HB0.out _
  rw [hW]
  clear hW hvw
  go_cut [5] from 41 to 49 (fun t wx => t = .bool rw ∧ wx = W)
  case first =>
    cases b1
    · go_wp2_with fail
      refine (step_b _ rs n br hn HBR.out).mono ?_
      rintro e w1 ⟨rfl, rfl⟩
      go_wp2_with fail
      go_meet
      exact ⟨by rw [← HRW.out]; simp, rfl⟩
    · go_wp2_with fail
      go_meet
      exact ⟨by rw [← HRW.out]; simp, rfl⟩
  case rest =>
  obtain ⟨rfl, rfl⟩ := hcut
  apply_assumption
  go_upto_region 6 with fail
  go_cut [6] from 50 to 58 (fun t wx => t = .bool cw ∧ wx = wc)
  case first =>
    cases b2
    · go_wp2_with fail
      refine (step_b _ cs n bc hn HBC.out).mono ?_
      rintro e w1 ⟨rfl, rfl⟩
      go_wp2_with fail
      go_meet
      exact ⟨by rw [← HCW.out]; simp, rfl⟩
    · go_wp2_with fail
      go_meet
      exact ⟨by rw [← HCW.out]; simp, rfl⟩
  case rest =>
  obtain ⟨rfl, rfl⟩ := hcut
  have HXR : Hid (rw = true ↔ (r = 1 ∨ (-(n : Int) < rs ∧ rs < n))) := by
    show _ ↔ _
    rw [← HRW.out, ← HB1.out, ← HBR.out]; simp; omega
  have HXC : Hid (cw = true ↔ (c = 1 ∨ (-(n : Int) < cs ∧ cs < n))) := by
    show _ ↔ _
    rw [← HCW.out, ← HB2.out, ← HBC.out]; simp; omega
  apply_assumption
  by_cases hoff : ¬ (0 ≤ off ∧ off < n)
  · have HNF : Hid (¬ Fit r c off rs cs n) := fun h => hoff (HFS.out h).1
    by_cases o1 : off < 0
    · go_wp2
      go_ret
      exact ⟨boolOk_f HNF.out, HBW.out⟩
    · have o2 : (n : Int) ≤ off := by omega
      go_wp2
      go_ret
      exact ⟨boolOk_f HNF.out, HBW.out⟩
  replace hoff := Decidable.not_not.1 hoff
  have o1 : ¬ off < 0 := by omega
  have o2 : ¬ (n : Int) ≤ off := by omega
  cases rw with
  | false =>
    have HNF : Hid (¬ Fit r c off rs cs n) := fun h => by have := HXR.out.2 (HFS.out h).2.1; cases this
    go_wp2
    go_ret
    exact ⟨boolOk_f HNF.out, HBW.out⟩
  | true =>
  cases cw with
  | false =>
    have HNF : Hid (¬ Fit r c off rs cs n) := fun h => by have := HXC.out.2 (HFS.out h).2.2; cases this
    go_wp2
    go_ret
    exact ⟨boolOk_f HNF.out, HBW.out⟩
  | true =>
  have HR : Hid (r = 1 ∨ (-(n : Int) < rs ∧ rs < n)) := HXR.out.1 rfl
  have HC : Hid (c = 1 ∨ (-(n : Int) < cs ∧ cs < n)) := HXC.out.1 rfl
  clear HXR HXC HRW HCW HBR HBC HB1 HB2
  go_wp2
  have hA : Hid (SM w.heap.size r c off rs cs n 0 0 (wc.alloc (.cells (Array.replicate n (Value.bool false)) 4))) := by
    refine ⟨HVW.out.alloc _, List.replicate n false, ?_, by simp, fun p => ⟨fun h => ?_, ?_⟩⟩
    · rw [← hsz, List.map_replicate]; exact Arr.newR _ _ _ _
    · rw [List.getElem?_replicate] at h; split at h <;> cases h
    · rintro ⟨x, y, h, _⟩; unfold Ahead at h; omega
  have hB : Hid (Below w.heap.size w (wc.alloc (.cells (Array.replicate n (Value.bool false)) 4))) := HBW.out.alloc (by omega) _
  generalize wc.alloc (.cells (Array.replicate n (Value.bool false)) 4) = Wd at *
  clear HVW k0 k1 k2 k3 k4 hsz HBW HW hmk
  go_loopw [8] (fun vi wr => ∃ i : Nat, vi = .int .i64 (i : Int) ∧ i ≤ r ∧ SeenTo c off rs cs n i 0 ∧ SM w.heap.size r c off rs cs n i 0 wr ∧ Below w.heap.size w wr) (fun vi _ => r - (intOf vi).toNat)
  case atStart => exact ⟨0, rfl, by omega, seen_zero _ _ _ _ _, hA.out, hB.out⟩
  case round =>
    clear hA hB
    obtain ⟨i, rfl, hir, hse, hsm, hbe⟩ := hrel
    have k0 := hsm.1.cell (i := 0) rfl
    have k1 := hsm.1.cell (i := 1) rfl
    have HSE := hid hse
    have HSM := hid hsm
    have HBE := hid hbe
    clear hse hsm hbe
    by_cases hlt : i < r
    · have hlt' : (i : Int) < r := by omega
      go_wp2
      go_loopw [9] (fun vj wq => ∃ j : Nat, vj = .int .i64 (j : Int) ∧ j ≤ c ∧ SeenTo c off rs cs n i j ∧ SM w.heap.size r c off rs cs n i j wq ∧ Below w.heap.size w wq) (fun vj _ => c - (intOf vj).toNat)
      case atStart => exact ⟨0, rfl, by omega, HSE.out, HSM.out, HBE.out⟩
      case round =>
        clear HSE HSM HBE k0 k1
        obtain ⟨j, rfl, hjc, hse, hsm, hbe⟩ := hrel
        have k0 := hsm.1.cell (i := 0) rfl
        have k1 := hsm.1.cell (i := 1) rfl
        have k2 := hsm.1.cell (i := 2) rfl
        have k3 := hsm.1.cell (i := 3) rfl
        have k4 := hsm.1.cell (i := 4) rfl
        have HSE := hid hse
        have HSM := hid hsm
        have HBE := hid hbe
        have hsz := hbe.size
        have hlt0 := hsm.1.lt
        clear hse hsm hbe
        by_cases hjl : j < c
        · have hjl' : (j : Int) < c := by omega
          obtain ⟨p, hp⟩ : ∃ p, off + i * rs + j * cs = p := ⟨_, rfl⟩
          have HP := hid hp
          clear hp
          have HPL : Hid _ := hid (fun w => place_p w r c off rs cs i j p (by omega) (by omega) (by omega) (by have := HR.out; omega) (by have := HC.out; omega) HP.out)
          have HBE2 : Hid (∀ o, Below w.heap.size w (wr.alloc o)) := fun o => HBE.out.alloc (by have := HBE.out.size; omega) o
          by_cases p1 : p < 0
          · have HNF : Hid (¬ Fit r c off rs cs n) := fun h => by have := h.1 i j hlt hjl; rw [HP.out] at this; omega
            go_wp2_with fail
            refine (HPL.out _).mono ?_
            rintro e w1 ⟨rfl, rfl⟩
            go_wp2
            go_ret
            exact ⟨boolOk_f HNF.out, HBE2.out _⟩
          by_cases p2 : (n : Int) ≤ p
          · have HNF : Hid (¬ Fit r c off rs cs n) := fun h => by have := h.1 i j hlt hjl; rw [HP.out] at this; omega
            go_wp2_with fail
            refine (HPL.out _).mono ?_
            rintro e w1 ⟨rfl, rfl⟩
            go_wp2
            go_ret
            exact ⟨boolOk_f HNF.out, HBE2.out _⟩
          obtain ⟨q, rfl⟩ := Int.eq_ofNat_of_zero_le (show 0 ≤ p by omega)
          have hqn : q < n := by omega
          obtain ⟨sl, ha, hl, hseen⟩ := HSM.out.2
          obtain ⟨sv, hsv⟩ : ∃ sv, sl[q]? = some sv := ⟨sl[q]'(by omega), by simp [hl, hqn]⟩
          have kq : ∀ o, (wr.alloc o).cell? ⟨w.heap.size + 1, q, none⟩ = some (.bool sv) := fun o => (ha.alloc o).cell (by rw [List.getElem?_map, hsv]; rfl)
          have fq : ∀ o, (wr.alloc o).frozen? ⟨w.heap.size + 1, q, none⟩ = false := fun o => (ha.alloc o).frozen q
          have HQ : Hid (sv = true ↔ ∃ x y, Ahead c i j x y ∧ off + x * rs + y * cs = (q : Int)) := by
            show _ ↔ _
            rw [← hseen q, hsv]; simp
          clear ha hl hseen hsv
          cases sv with
          | true =>
            have HNF : Hid (¬ Fit r c off rs cs n) := fun h => by
              obtain ⟨x, y, h1, h2⟩ := HQ.out.1 rfl
              have hx : x < r ∧ y < c ∧ ¬ (x = i ∧ y = j) := by unfold Ahead at h1; omega
              exact hx.2.2 (h.2 x y i j hx.1 hx.2.1 hlt hjl (by rw [h2, HP.out]))
            go_wp2_with fail
            refine (HPL.out _).mono ?_
            rintro e w1 ⟨rfl, rfl⟩
            go_wp2
            go_ret
            exact ⟨boolOk_f HNF.out, HBE2.out _⟩
          | false =>
            have HQ2 : Hid (∀ x y : Nat, Ahead c i j x y → off + x * rs + y * cs ≠ off + i * rs + j * cs) := fun x y h1 h2 => by
              have := HQ.out.2 ⟨x, y, h1, h2.trans HP.out⟩; cases this
            clear HQ
            go_wp2_with fail
            refine (HPL.out _).mono ?_
            rintro e w1 ⟨rfl, rfl⟩
            go_wp2
            go_roundw
            case rel =>
              refine ⟨j + 1, by simp, by omega, seen_step HSE.out (by rw [HP.out]; omega) HQ2.out, HSM.out.step HP.out hqn hjl _, (HBE2.out _).setCell (p := ⟨w.heap.size + 1, q, none⟩) (by simp) _⟩
            case measure => simp [intOf]; omega
        · have hjl' : ¬ (j : Int) < c := by omega
          obtain rfl : j = c := by omega
          go_wp2
          go_roundw
          case rel => exact ⟨i + 1, by simp, by omega, seen_row HSE.out, HSM.out.row, HBE.out⟩
          case measure => simp [intOf]; omega
    · have hlt' : ¬ (i : Int) < r := by omega
      obtain rfl : i = r := by omega
      go_wp2
      go_ret
      exact ⟨boolOk_t (seen_fit HSE.out), HBE.out⟩

end Go.Proofs.YthdcceackfdbbaaGreatDoor
/- Own text: the reference: half, list, Sum. -/
namespace Go.Proofs.YthdcceackfdbbaaGreatDoor
open Go Go.RowKit

theorem half_any (w : World) (k : Int) : Calls Tryz.prog 44 #[.int .i64 k] w fun e w' => e = .returned (.bool (decide (k = 1 ∨ k = 3))) ∧ w' = w := by
  go_enter Tryz.func44, Tryz.ntmps44
  go_wp2
  all_goals go_ret
  all_goals refine ⟨?_, rfl⟩
  all_goals simp [*]
  all_goals first | omega | (rw [Bool.eq_iff_iff]; simp [*])

theorem list_any (w : World) (k : Int) : Calls Tryz.prog 77 #[.int .i64 k] w fun e w' => e = .returned (.bool (decide (k = 2 ∨ k = 3))) ∧ w' = w := by
  go_enter Tryz.func77, Tryz.ntmps77
  go_wp2
  all_goals go_ret
  all_goals refine ⟨?_, rfl⟩
  all_goals simp [*]
  all_goals first | omega | (rw [Bool.eq_iff_iff]; simp [*])

theorem rcrc_test {h b i : Nat} (hh : h < 4294967296) (hb : b < 256) : (bits BinOp.xor IntKind.u32 (bits BinOp.and IntKind.u32 ((b : Int) / 2 ^ i) 1) (bits BinOp.and IntKind.u32 (h : Int) 1) == 1) = decide ((b >>> i + h) % 2 = 1) := by
  have e1 : ((b : Int) / 2 ^ i) = ((b / 2 ^ i : Nat) : Int) := by simp
  have hlt : b / 2 ^ i < 4294967296 := Nat.lt_of_le_of_lt (Nat.div_le_self _ _) (by omega)
  rw [e1, show (1 : Int) = ((1 : Nat) : Int) from rfl, u32_and_nat _ _ hlt (by omega), u32_and_nat _ _ hh (by omega), Nat.and_one_is_mod, Nat.and_one_is_mod, u32_xor_nat _ _ (by omega) (by omega), Nat.shiftRight_eq_div_pow]
  rw [Bool.eq_iff_iff, beq_iff_eq, decide_eq_true_eq]
  generalize b / 2 ^ i = q
  have h1 : q % 2 = 0 ∨ q % 2 = 1 := by omega
  have h2 : h % 2 = 0 ∨ h % 2 = 1 := by omega
  rcases h1 with h1 | h1 <;> rcases h2 with h2 | h2 <;> rw [h1, h2] <;> simp <;> omega

theorem rflip_bits {s : Nat} (hs : s < 4294967296) : bits BinOp.xor IntKind.u32 (s : Int) 4294967295 = ((flip32 s : Nat) : Int) := by
  rw [show (4294967295 : Int) = ((4294967295 : Nat) : Int) from rfl, u32_xor_nat _ _ hs (by omega), flip_xor hs]

theorem bytes_at {s : ByteArray} {k : Nat} (h : k < s.size) : s.data.toList[k]? = some s[k] := by
  have h' : k < s.data.toList.length := by simpa using h
  rw [List.getElem?_eq_getElem h']
  simp
  rfl

set_option maxRecDepth 20000 in
set_option maxHeartbeats 2000000 in
theorem rsum_any (w : World) (s : ByteArray) (hs : s.size ≤ 1000000) :
    Calls Tryz.prog 76 #[.string s] w fun e w' => e = .returned (.int .u32 ((sumL s.data.toList : Nat) : Int)) ∧ w' = w := by
  have HSZ : Hid (s.data.toList.length = s.size) := by unfold Hid; simp
  go_enter Tryz.func76, Tryz.ntmps76
  go_wp2
  go_loop [3, 4] (fun vh vi => ∃ k S : Nat, vi = .int .i64 (k : Int) ∧ k ≤ s.size ∧ vh = .int .u32 (S : Int) ∧ S < 4294967296 ∧ Hid (S = crcAll 4294967295 (s.data.toList.take k))) (fun _ vi => s.size - (intOf vi).toNat)
  case atStart => exact ⟨0, 4294967295, rfl, by omega, rfl, by omega, by rw [List.take_zero]; rfl⟩
  case round =>
    obtain ⟨k, S, rfl, hk, rfl, hsl, HS0⟩ := hrel
    by_cases hlt : k < s.size
    · have hlt' : (k : Int) < s.size := by omega
      obtain ⟨c, hc⟩ : ∃ c, s[k] = c := ⟨_, rfl⟩
      have HN : Hid (crcTo S c.toNat 8 = crcAll 4294967295 (s.data.toList.take (k + 1))) := by
        show _ = _
        have hg := bytes_at hlt
        rw [hc] at hg
        rw [List.take_add_one, hg, HS0.out]; exact (crcAll_snoc _ _ _).symm
      have HF := hid (fun q => crcTo_lt (b := c.toNat) hsl q)
      have hbl : c.toNat < 256 := c.toNat_lt
      have HC := hid hc
      clear HS0 hc
      go_wp2
      go_loop [3, 5] (fun vh vi => ∃ q : Nat, vi = .int .i64 (q : Int) ∧ q ≤ 8 ∧ vh = .int .u32 ((crcTo S c.toNat q : Nat) : Int)) (fun _ vi => 8 - (intOf vi).toNat)
      case atStart => exact ⟨0, rfl, by omega, rfl⟩
      case round =>
        obtain ⟨q, rfl, hq, rfl⟩ := hrel
        by_cases hlt8 : q < 8
        · have hlt8' : (q : Int) < 8 := by omega
          have hH := HF.out q
          have HS : Hid (crcTo S c.toNat (q + 1) = crcBit (crcTo S c.toNat q) c.toNat q) := rfl
          generalize crcTo S c.toNat q = H at *
          have ht := rcrc_test (i := q) hH hbl
          have hx := crc_xor hH
          have hc := HC.out
          clear HF HN
          by_cases hcc : (c.toNat >>> q + H) % 2 = 1
          · have HE : Hid (crcBit H c.toNat q = (H >>> 1) ^^^ 3988292384) := if_pos hcc
            rw [decide_eq_true hcc] at ht
            go_wp2
            go_round
            case rel => exact ⟨q + 1, by simp, by omega, by rw [HS.out, HE.out]⟩
            case measure => simp [intOf]; omega
          · have HE : Hid (crcBit H c.toNat q = H >>> 1) := if_neg hcc
            rw [decide_eq_false hcc] at ht
            go_wp2
            go_round
            case rel => exact ⟨q + 1, by simp, by omega, by rw [HS.out, HE.out, Nat.shiftRight_eq_div_pow]; simp⟩
            case measure => simp [intOf]; omega
        · have hlt8' : ¬ (q : Int) < 8 := by omega
          obtain rfl : q = 8 := by omega
          have hz := HF.out 8
          generalize crcTo S c.toNat 8 = H at *
          go_wp2
          go_round
          case rel => exact ⟨k + 1, H, by simp, by omega, rfl, hz, HN⟩
          case measure => simp [intOf]; omega
    · have hlt' : ¬ (k : Int) < s.size := by omega
      obtain rfl : k = s.size := by omega
      have hf := rflip_bits hsl
      have HS1 : Hid (flip32 S = sumL s.data.toList) := by have := HS0.out; rw [← HSZ.out, List.take_length] at this; rw [this]; rfl
      clear HS0
      go_wp2
      go_ret
      exact ⟨by rw [HS1.out]; rfl, rfl⟩

end Go.Proofs.YthdcceackfdbbaaGreatDoor
/- Own text: the reference: low. -/
namespace Go.Proofs.YthdcceackfdbbaaGreatDoor
open Go Go.RowKit

theorem lowL_take (x : Nat) {k : Nat} : ∀ {n : Nat}, k ≤ n → (lowL x n).take k = lowL x k := by
  intro n
  induction n with
  | zero => intro h; obtain rfl : k = 0 := by omega
            rfl
  | succ n ih =>
    intro h
    by_cases e : k = n + 1
    · subst e; rw [List.take_of_length_le (by rw [lowL_len]; exact Nat.le_refl _)]
    · rw [lowL, List.take_append_of_le_length (by rw [lowL_len]; omega), ih (by omega)]

/-- the bytes so far, noughts behind them -/
def lowV (x n k : Nat) : List Value := (lowL x k).map (fun (b : UInt8) => Value.int .u8 (b.toNat : Int)) ++ List.replicate (n - k) (.int .u8 0)

theorem lowV_len {x n k : Nat} (h : k ≤ n) : (lowV x n k).length = n := by unfold lowV; simp [lowL_len]; omega

theorem lowV_set {x n k : Nat} (h : k < n) : (lowV x n k).set k (.int .u8 ((x / 256 ^ k % 256 : Nat) : Int)) = lowV x n (k + 1) := by
  unfold lowV
  rw [List.set_append_right _ _ (by simp [lowL_len]), lowL]
  obtain ⟨d, hd⟩ : ∃ d, n - k = d + 1 := ⟨n - k - 1, by omega⟩
  rw [hd, show n - (k + 1) = d by omega]
  simp [lowL_len, List.replicate_succ]

theorem low_byte (x k : Nat) : ((x : Int) / 2 ^ (8 * k)) % 256 = ((x / 256 ^ k % 256 : Nat) : Int) := by
  have : (2 : Nat) ^ (8 * k) = 256 ^ k := by rw [Nat.pow_mul]
  have e : ((x : Int) / 2 ^ (8 * k)) = ((x / 2 ^ (8 * k) : Nat) : Int) := by simp
  rw [e, this]; simp

set_option maxRecDepth 20000 in
set_option maxHeartbeats 2000000 in
theorem low_any (w : World) (x n : Nat) (hn : n ≤ 8) :
    Calls Tryz.prog 75 #[.int .u64 (x : Int), .int .i64 (n : Int)] w fun e w' => ∃ s : ByteArray, e = .returned (.string s) ∧ s.data.toList = lowL x n ∧ Below w.heap.size w w' := by
  obtain ⟨b, hb⟩ : ∃ b, w.heap.size = b := ⟨_, rfl⟩
  obtain ⟨i0, hi, hz0, hz1, hz2⟩ := info_parts Tryz.infoU8
  have hmk := run_make1 (P := Tryz.prog) 72 5 i0 (.int .u8 0) Tryz.underlying72 hi hz0 hz1 rfl n (by rw [hz2]; omega) (by omega)
  clear hi hz0 hz1 hz2
  go_enter Tryz.func75, Tryz.ntmps75
  go_wp2
  go_loopw [6] (fun vi wr => ∃ k : Nat, vi = .int .i64 (k : Int) ∧ k ≤ n ∧ Arr wr b 5 (lowV x n k) ∧ Below b w wr) (fun vi _ => n - (intOf vi).toNat)
  case atStart => exact ⟨0, rfl, by omega, by have := Arr.newR w 5 n (.int .u8 0); rw [hb] at this; simpa [lowV, lowL] using this, by rw [← hb]; exact Below.refl' _ _⟩
  case round =>
    obtain ⟨k, rfl, hk, ha, hbe⟩ := hrel
    by_cases hlt : k < n
    · have hlt' : (k : Int) < n := by omega
      have hf := ha.frozen k
      obtain ⟨v0, hv0⟩ : ∃ v, (lowV x n k)[k]? = some v := ⟨(lowV x n k)[k]'(by rw [lowV_len hk]; exact hlt), by simp [lowV_len hk, hlt]⟩
      have hc := ha.cell hv0
      have HA := hid ha
      have HB := hid hbe
      clear ha hbe hv0 hmk
      go_wp2
      rw [low_byte x k]
      refine ⟨⟨k + 1, by simp, by omega, ?_, ?_⟩, by simp [intOf]; omega⟩
      · rw [← lowV_set hlt]; exact HA.out.set _ _
      · exact HB.out.setCell (p := ⟨b, k, none⟩) (Nat.le_refl _) _
    · have hlt' : ¬ (k : Int) < n := by omega
      obtain rfl : k = n := by omega
      have hcv := run_convert_bytes_back (P := Tryz.prog) wr 72 9 5 ⟨b, 0, none⟩ k (lowL x k) Tryz.underlying72 Tryz.underlying5 Tryz.underlying9 (fun j hj => by
        have e0 : (⟨b, 0, none⟩ : Addr).add j = ⟨b, j, none⟩ := by simp [Addr.add]; exact fun h => h.symm
        rw [e0]
        refine ha.cell ?_
        unfold lowV
        rw [List.getElem?_append_left (by simpa using hj)]
        simp [hj])
      rw [lowL_len] at hcv
      have HB := hid hbe
      clear ha hbe hmk
      go_wp2
      go_ret
      exact ⟨_, rfl, rfl, HB.out⟩

end Go.Proofs.YthdcceackfdbbaaGreatDoor
namespace Go.Proofs.YthdcceackfdbbaaGreatDoor
open Go Go.RowKit

/-- a matrix and a place as the program hands them on -/
def matV (R C g : Nat) : Value := .agg #[.int .i64 (R : Int), .int .i64 (C : Int), .slice (some ⟨g, 0, none⟩) (R * C) (R * C)]
def plcV (i j : Nat) : Value := .agg #[.int .i64 (i : Int), .int .i64 (j : Int)]
def matO (R C g : Nat) : Obj := .cells #[.int .i64 (R : Int), .int .i64 (C : Int), .slice (some ⟨g, 0, none⟩) (R * C) (R * C)] 88
def plcO (i j : Nat) : Obj := .cells #[.int .i64 (i : Int), .int .i64 (j : Int)] 117

theorem idx_int {R C i j : Nat} (hR : R ≤ 40) (hC : C ≤ 40) (hi : i < R) (hj : j < C) : ∃ k : Nat, (i : Int) * C + j = (k : Int) ∧ k = i * C + j ∧ k < R * C ∧ R * C ≤ 1600 ∧ (i : Int) * C ≤ 1600 ∧ 0 ≤ (i : Int) * C := by
  have h1 := idx_lt hi hj
  have h2 : R * C ≤ 40 * 40 := Nat.mul_le_mul hR hC
  refine ⟨i * C + j, by simp, rfl, h1, by omega, ?_, by rw [← Int.natCast_mul]; omega⟩
  rw [← Int.natCast_mul]; omega

theorem mat_at (w : World) (R C g i j x : Nat) (hR : R ≤ 40) (hC : C ≤ 40) (hi : i < R) (hj : j < C) (hx : w.cell? ⟨g, i * C + j, none⟩ = some (.int .u64 (x : Int))) (hg : g < w.heap.size) :
    Calls Tryz.prog 64 #[matV R C g, plcV i j] w fun e w' => e = .returned (.int .u64 (x : Int)) ∧ w' = (w.alloc (matO R C g)).alloc (plcO i j) := by
  obtain ⟨k, hk, hk2, hk3, hk4, hk5, hk6⟩ := idx_int hR hC hi hj
  rw [← hk2] at hx
  have hx2 : ∀ o o', ((w.alloc o).alloc o').cell? ⟨g, k, none⟩ = some (.int .u64 (x : Int)) := fun o o' => by
    have b := ((Below.refl _ w).alloc (Nat.le_refl _) o).alloc (by simp) o'
    exact (b.cell (p := ⟨g, k, none⟩) hg).trans hx
  have HX := hid hx
  clear hx hk2
  unfold matV plcV matO plcO
  generalize R * C = N at *
  go_enter Tryz.func64, Tryz.ntmps64
  go_wp2
  go_ret
  exact ⟨rfl, rfl⟩

theorem mirrored_any (w : World) (i j : Nat) : Calls Tryz.prog 103 #[plcV i j] w fun e w' => e = .returned (plcV j i) ∧ w' = (w.alloc (plcO i j)).alloc (plcO j i) := by
  unfold plcV plcO
  go_enter Tryz.func103, Tryz.ntmps103
  go_wp2
  exact bodyPost_ret (v := .agg #[.int .i64 (j : Int), .int .i64 (i : Int)]) (by simp [results, Tryz.results103, go_sem]) rfl ⟨rfl, rfl⟩

theorem mat_set (w : World) (R C g i j x : Nat) (l : List Value) (hR : R ≤ 40) (hC : C ≤ 40) (hi : i < R) (hj : j < C) (ha : Arr w g 65 l) (hl : l.length = R * C) :
    Calls Tryz.prog 101 #[matV R C g, plcV i j, .int .u64 (x : Int)] w fun e w' => (∃ v, e = .returned v) ∧ w' = ((w.setCell ⟨g, i * C + j, none⟩ (.int .u64 (x : Int))).alloc (matO R C g)).alloc (plcO i j) := by
  obtain ⟨k, hk, hk2, hk3, hk4, hk5, hk6⟩ := idx_int hR hC hi hj
  rw [← hk2]
  obtain ⟨v, hv⟩ : ∃ v, l[k]? = some v := ⟨l[k]'(by omega), by simp [hl, hk3]⟩
  have hx2 : ∀ o o', ((w.alloc o).alloc o').cell? ⟨g, k, none⟩ = some v := fun o o' => ((ha.alloc o).alloc o').cell hv
  have hf2 : ∀ o o', ((w.alloc o).alloc o').frozen? ⟨g, k, none⟩ = false := fun o o' => ((ha.alloc o).alloc o').frozen k
  have hlt := ha.lt
  clear hv ha hl hk2
  unfold matV plcV matO plcO
  generalize R * C = N at *
  go_enter Tryz.func101, Tryz.ntmps101
  go_wp2
  go_end0
  exact ⟨⟨_, rfl⟩, rfl⟩

theorem Tryz.infoU64 : (Tryz.prog.info? 65).map (fun i => (i.zero, i.size, i.bytes)) = some (some (.int .u64 0), 1, 8) := by kernel_rfl

theorem mat_new (w : World) (R C : Nat) (hR : R ≤ 40) (hC : C ≤ 40) :
    Calls Tryz.prog 100 #[.int .i64 (R : Int), .int .i64 (C : Int)] w fun e w' => e = .returned (matV R C (w.heap.size + 1)) ∧ w' = (w.alloc (matO R C (w.heap.size + 1))).alloc (.cells (Array.replicate (R * C) (.int .u64 0)) 65) := by
  have h2 : R * C ≤ 40 * 40 := Nat.mul_le_mul hR hC
  have hrc : (R : Int) * C = ((R * C : Nat) : Int) := by simp
  obtain ⟨i0, hi, hz0, hz1, hz2⟩ := info_parts Tryz.infoU64
  have hmk := run_make1 (P := Tryz.prog) 22 65 i0 (.int .u64 0) Tryz.underlying22 hi hz0 hz1 rfl (R * C) (by rw [hz2]; omega) (by omega)
  clear hi hz0 hz1 hz2
  unfold matV matO
  generalize R * C = N at *
  go_enter Tryz.func100, Tryz.ntmps100
  go_wp2
  exact bodyPost_ret (v := .agg #[.int .i64 (R : Int), .int .i64 (C : Int), .slice (some ⟨w.heap.size + 1, 0, none⟩) N N]) (by simp [results, Tryz.results100, go_sem]) rfl ⟨rfl, rfl⟩

end Go.Proofs.YthdcceackfdbbaaGreatDoor
