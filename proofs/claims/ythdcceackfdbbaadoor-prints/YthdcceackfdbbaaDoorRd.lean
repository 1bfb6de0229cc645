/- Walks over the reference: said of numbers; power, value. Own text. -/
import Derived.Test.YthdcceackfdbbaaDoorRc
import Derived.Test.YthdcceackfdbbaaDoorWg
namespace Go.Proofs.YthdcceackfdbbaaDoor
open Go.RowKit

/-- A number of at most 300 places. -/
def SmallB (a : Nat) : Prop := ∃ L, L ≤ 300 ∧ a < 1000000000 ^ L

theorem SmallB.le {a b : Nat} (h : SmallB b) (hl : a ≤ b) : SmallB a := by
  obtain ⟨L, h1, h2⟩ := h; exact ⟨L, h1, Nat.lt_of_le_of_lt hl h2⟩

theorem SmallB.of_lt {a k : Nat} (h : a < 2 ^ k) (hk : k ≤ 8700) : SmallB a := by
  refine ⟨(k + 28) / 29, by omega, Nat.lt_of_lt_of_le h ?_⟩
  refine Nat.le_trans (Nat.pow_le_pow_right (by omega) (show k ≤ 29 * ((k + 28) / 29) by omega)) ?_
  rw [Nat.pow_mul]
  exact Nat.pow_le_pow_left (by decide) _

theorem RepB.len {w : World} {B : Nat} {v : Value} {l : List Nat} {n : Nat} (_h : OwnB w B v l) (hc : Canon l) (hv : valB l = n) (hn : SmallB n) : l.length ≤ 300 := by
  obtain ⟨L, h1, h2⟩ := hn
  have := canon_lenB hc (by rw [hv]; exact h2)
  omega

theorem OwnB.drewN {w : World} {B : Nat} {v : Value} {l : List Nat} (h : OwnB w B v l) (n : Nat) : OwnB (w.drewN n) B v l := h.below (below_drewN (Below.refl _ _) n)
theorem RepB.drewN {w : World} {B : Nat} {v : Value} {a : Nat} (h : RepB w B v a) (n : Nat) : RepB (w.drewN n) B v a := h.below (below_drewN (Below.refl _ _) n)

theorem times_rep (w : World) (v : Value) (a n : Nat) (m : Int) (h : RepB w 0 v a) (ha : SmallB a) (hn : n ≤ 1000000000) (hm : m = (n : Int)) :
    Calls Tryd.prog 45 #[v, .int .i64 m] w fun e w' => ∃ v', e = .returned v' ∧ RepB w' w.heap.size v' (a * n) ∧ Below w.heap.size w w' := by
  subst hm
  obtain ⟨l, h1, h2, h3⟩ := h
  refine (times_any w v l n h1 (by have := RepB.len h1 h2 h3 ha; omega) hn).mono ?_
  rintro e w' ⟨v', l', he, ho, hc, hv, hb⟩
  exact ⟨v', he, ⟨l', ho, hc, by rw [hv, h3]⟩, hb⟩

theorem canon_le_lenB {la lb : List Nat} (hw : WdsB la) (hc : Canon lb) (h : valB lb ≤ valB la) : lb.length ≤ la.length := by
  by_cases hh : lb.length ≤ la.length
  · exact hh
  · have := val_lt_lenB hw hc (by omega); omega

theorem minus_rep (w : World) (va vb : Value) (a b : Nat) (ha : RepB w 0 va a) (hb : RepB w 0 vb b) (sa : SmallB a) :
    Calls Tryd.prog 47 #[va, vb] w fun e w' => ∃ v' d, e = .returned v' ∧ RepB w' w.heap.size v' d ∧ (b ≤ a → d = a - b) ∧ SmallB d ∧ Below w.heap.size w w' := by
  obtain ⟨l, h1, h2, h3⟩ := ha
  obtain ⟨k, k1, k2, k3⟩ := hb
  have hl := RepB.len h1 h2 h3 sa
  refine (minus_any w va vb l k h1 k1 (by omega)).mono ?_
  rintro e w' ⟨v', l', he, ho, hc, hv, hll, hb⟩
  refine ⟨v', valB l', he, ⟨l', ho, hc, rfl⟩, ?_, ⟨l'.length, by omega, val_ltB ho.2⟩, hb⟩
  intro hle
  rw [hv (canon_le_lenB h1.2 k2 (by omega)) (by omega), h3, k3]

theorem compareB_rep (w : World) (va vb : Value) (a b : Nat) (ha : RepB w 0 va a) (hb : RepB w 0 vb b) (sa : SmallB a) :
    Calls Tryd.prog 38 #[va, vb] w fun e w' => e = .returned (.int .i64 (cmpI a b)) ∧ ∃ n, w' = w.drewN n := by
  obtain ⟨l, h1, h2, h3⟩ := ha
  obtain ⟨k, k1, k2, k3⟩ := hb
  have := compareB_any w va vb l k h1 k1 h2 k2 (by have := RepB.len h1 h2 h3 sa; omega)
  rw [h3, k3] at this
  exact this

theorem pow_left {a p n m k : Nat} (hm : m + k ≤ n) : a * p ^ (n - (m + k)) * p ^ k = a * p ^ (n - m) := by
  rw [Nat.mul_assoc, ← Nat.pow_add]; congr 2; omega

theorem pow_part {a p n m : Nat} (hp : 1 ≤ p) (hs : SmallB (a * p ^ n)) : SmallB (a * p ^ (n - m)) :=
  hs.le (Nat.mul_le_mul_left _ (Nat.pow_le_pow_right hp (by omega)))


set_option maxRecDepth 5000 in
set_option maxHeartbeats 1600000 in
/-- power of 2. -/
theorem power2_any (w : World) (v : Value) (a n : Nat) (m0 : Int) (h : RepB w 0 v a) (hn : n ≤ 100000) (hm0 : m0 = (n : Int)) (hs : SmallB (a * 2 ^ n)) :
    Calls Tryd.prog 26 #[v, .int .i64 2, .int .i64 m0] w fun e w' => ∃ v', e = .returned v' ∧ RepB w' 0 v' (a * 2 ^ n) ∧ Below w.heap.size w w' := by
  subst hm0
  go_enter Tryd.func26, Tryd.ntmps26
  go_wp2
  go_loop [8, 9] (fun q i => ∃ k : Nat, k ≤ 29 ∧ i = .int .i64 k ∧ q = .int .i64 ((2 ^ k : Nat) : Int)) (fun _ i => 29 - (intOf i).toNat)
  case atStart => exact ⟨0, Nat.zero_le _, rfl, rfl⟩
  case round =>
    obtain ⟨k, hk, rfl, rfl⟩ := hrel
    have hq : 2 ^ k ≤ 536870912 := Nat.le_trans (Nat.pow_le_pow_right (by omega) hk) (by decide)
    generalize hQ : 2 ^ k = Q at *
    have HQ : Hid (2 ^ k = Q) := hQ
    clear hQ
    by_cases hlt : k < 29
    · go_wp2
      go_round
      case rel => exact ⟨k + 1, by omega, by go_num, by rw [Nat.pow_succ, HQ.out]; simp⟩
      case measure => simp [intOf]; omega
    · have hkk : k = 29 := by omega
      have hQ2 : Q = 536870912 := by rw [← HQ.out, hkk]
      subst hQ2
      clear HQ hkk
      go_wp2
      go_loopw [0, 2] (fun v q wr => ∃ m : Nat, m ≤ n ∧ q = .int .i64 m ∧ RepB wr 0 v (a * 2 ^ (n - m)) ∧ Below w.heap.size w wr) (fun _ q _ => (intOf q).toNat)
      case atStart => exact ⟨n, Nat.le_refl _, rfl, by simpa using h, Below.refl _ _⟩
      case round =>
        obtain ⟨m, hm, rfl, hr, hbel⟩ := hrel
        by_cases hge : 29 ≤ m
        · go_wp2_with fail
          refine (times_rep _ u0 _ 536870912 _ hr (pow_part (by omega) hs) (by omega) rfl).mono ?_
          rintro e w2 ⟨v2, rfl, r2, b2⟩
          go_wp2
          go_roundw
          case rel =>
            refine ⟨m - 29, by omega, by go_num, ?_, hbel.trans (b2.mono hbel.size)⟩
            have e := pow_left (a := a) (p := 2) (n := n) (m := m - 29) (k := 29) (by omega)
            rw [show m - 29 + 29 = m from by omega] at e
            rw [← e]
            exact r2.base (Nat.zero_le _)
          case measure => simp [intOf]; omega
        · go_wp2
          go_loopw [0, 2] (fun v q wr => ∃ m : Nat, m ≤ n ∧ q = .int .i64 m ∧ RepB wr 0 v (a * 2 ^ (n - m)) ∧ Below w.heap.size w wr) (fun _ q _ => (intOf q).toNat)
          case atStart => exact ⟨m, hm, rfl, hr, hbel⟩
          case round =>
            clear hr hbel hge
            obtain ⟨m, hm, rfl, hr, hbel⟩ := hrel
            by_cases hge : 1 ≤ m
            · go_wp2_with fail
              refine (times_rep _ u0 _ 2 _ hr (pow_part (by omega) hs) (by omega) rfl).mono ?_
              rintro e w2 ⟨v2, rfl, r2, b2⟩
              go_wp2
              go_roundw
              case rel =>
                refine ⟨m - 1, by omega, by go_num, ?_, hbel.trans (b2.mono hbel.size)⟩
                have e := pow_left (a := a) (p := 2) (n := n) (m := m - 1) (k := 1) (by omega)
                rw [show m - 1 + 1 = m from by omega, Nat.pow_one] at e
                rw [← e]
                exact r2.base (Nat.zero_le _)
              case measure => simp [intOf]; omega
            · have hm0 : m = 0 := by omega
              subst hm0
              go_wp2
              go_ret
              exact ⟨u0, rfl, by simpa using hr, hbel⟩

set_option maxRecDepth 5000 in
set_option maxHeartbeats 1600000 in
/-- power of 10. -/
theorem power10_any (w : World) (v : Value) (a n : Nat) (m0 : Int) (h : RepB w 0 v a) (hn : n ≤ 100000) (hm0 : m0 = (n : Int)) (hs : SmallB (a * 10 ^ n)) :
    Calls Tryd.prog 26 #[v, .int .i64 10, .int .i64 m0] w fun e w' => ∃ v', e = .returned v' ∧ RepB w' 0 v' (a * 10 ^ n) ∧ Below w.heap.size w w' := by
  subst hm0
  go_enter Tryd.func26, Tryd.ntmps26
  go_wp2
  go_loop [8, 9] (fun q i => ∃ k : Nat, k ≤ 8 ∧ i = .int .i64 k ∧ q = .int .i64 ((10 ^ k : Nat) : Int)) (fun _ i => 8 - (intOf i).toNat)
  case atStart => exact ⟨0, Nat.zero_le _, rfl, rfl⟩
  case round =>
    obtain ⟨k, hk, rfl, rfl⟩ := hrel
    have hq : 10 ^ k ≤ 100000000 := Nat.le_trans (Nat.pow_le_pow_right (by omega) hk) (by decide)
    generalize hQ : 10 ^ k = Q at *
    have HQ : Hid (10 ^ k = Q) := hQ
    clear hQ
    by_cases hlt : k < 8
    · go_wp2
      go_round
      case rel => exact ⟨k + 1, by omega, by go_num, by rw [Nat.pow_succ, HQ.out]; simp⟩
      case measure => simp [intOf]; omega
    · have hkk : k = 8 := by omega
      have hQ2 : Q = 100000000 := by rw [← HQ.out, hkk]
      subst hQ2
      clear HQ hkk
      go_wp2
      go_loopw [0, 2] (fun v q wr => ∃ m : Nat, m ≤ n ∧ q = .int .i64 m ∧ RepB wr 0 v (a * 10 ^ (n - m)) ∧ Below w.heap.size w wr) (fun _ q _ => (intOf q).toNat)
      case atStart => exact ⟨n, Nat.le_refl _, rfl, by simpa using h, Below.refl _ _⟩
      case round =>
        obtain ⟨m, hm, rfl, hr, hbel⟩ := hrel
        by_cases hge : 8 ≤ m
        · go_wp2_with fail
          refine (times_rep _ u0 _ 100000000 _ hr (pow_part (by omega) hs) (by omega) rfl).mono ?_
          rintro e w2 ⟨v2, rfl, r2, b2⟩
          go_wp2
          go_roundw
          case rel =>
            refine ⟨m - 8, by omega, by go_num, ?_, hbel.trans (b2.mono hbel.size)⟩
            have e := pow_left (a := a) (p := 10) (n := n) (m := m - 8) (k := 8) (by omega)
            rw [show m - 8 + 8 = m from by omega] at e
            rw [← e]
            exact r2.base (Nat.zero_le _)
          case measure => simp [intOf]; omega
        · go_wp2
          go_loopw [0, 2] (fun v q wr => ∃ m : Nat, m ≤ n ∧ q = .int .i64 m ∧ RepB wr 0 v (a * 10 ^ (n - m)) ∧ Below w.heap.size w wr) (fun _ q _ => (intOf q).toNat)
          case atStart => exact ⟨m, hm, rfl, hr, hbel⟩
          case round =>
            clear hr hbel hge
            obtain ⟨m, hm, rfl, hr, hbel⟩ := hrel
            by_cases hge : 1 ≤ m
            · go_wp2_with fail
              refine (times_rep _ u0 _ 10 _ hr (pow_part (by omega) hs) (by omega) rfl).mono ?_
              rintro e w2 ⟨v2, rfl, r2, b2⟩
              go_wp2
              go_roundw
              case rel =>
                refine ⟨m - 1, by omega, by go_num, ?_, hbel.trans (b2.mono hbel.size)⟩
                have e := pow_left (a := a) (p := 10) (n := n) (m := m - 1) (k := 1) (by omega)
                rw [show m - 1 + 1 = m from by omega, Nat.pow_one] at e
                rw [← e]
                exact r2.base (Nat.zero_le _)
              case measure => simp [intOf]; omega
            · have hm0 : m = 0 := by omega
              subst hm0
              go_wp2
              go_ret
              exact ⟨u0, rfl, by simpa using hr, hbel⟩

set_option maxRecDepth 5000 in
set_option maxHeartbeats 400000 in
theorem value_any (w : World) (v : Value) (l : List Nat) (h : OwnB w 0 v l) (hl : l.length ≤ 1000000) (hv : valB l < 4611686018427387904) :
    Calls Tryd.prog 48 #[v] w fun e w' => e = .returned (.int .i64 ((valB l : Nat) : Int)) ∧ w' = w := by
  obtain ⟨ao, cap, rfl, hlc, hcap, hcell⟩ := h.shape1
  have HA : Hid (∀ (i x : Nat), l[i]? = some x → x < 1000000000 ∧ ∃ g, ao = some ⟨g, 0, none⟩ ∧ 0 ≤ g ∧ g < w.heap.size ∧ w.cell? ⟨g, i, none⟩ = some (.int .i64 (x : Int))) := hcell
  have HV : Hid (valB l < 4611686018427387904) := hv
  clear hcell hcap hv
  go_enter Tryd.func48, Tryd.ntmps48
  go_wp2
  go_loop [3, 4] (fun q i => ∃ k : Nat, k ≤ l.length ∧ i = .int .i64 ((k : Int) - 1) ∧ q = .int .i64 ((valB (l.drop k) : Nat) : Int)) (fun _ i => (intOf i + 1).toNat)
  case atStart => exact ⟨l.length, Nat.le_refl _, rfl, by rw [List.drop_length]; rfl⟩
  case round =>
    obtain ⟨k, hk, rfl, rfl⟩ := hrel
    cases k with
    | zero =>
      go_wp2
      go_ret
      exact ⟨rfl, rfl⟩
    | succ k =>
      have e : ((k + 1 : Nat) : Int) - 1 = (k : Int) := by omega
      rw [e]
      obtain ⟨x, hx⟩ : ∃ x, l[k]? = some x := ⟨l[k], by simp⟩
      obtain ⟨hxl, g, rfl, _, hg, hc⟩ := HA.out k x hx
      have h1 := List.drop_eq_getElem_cons (l := l) (i := k) (by omega)
      rw [(List.getElem?_eq_some_iff.1 hx).2] at h1
      have h2 : valB (l.drop k) = x + 1000000000 * valB (l.drop (k + 1)) := by rw [h1]; rfl
      have h3 : valB (l.drop k) ≤ valB l := by
        have := congrArg valB (List.take_append_drop k l)
        rw [val_appendB] at this
        have hp : 0 < 1000000000 ^ (l.take k).length := Nat.pow_pos (by omega)
        have := Nat.le_mul_of_pos_left (valB (l.drop k)) hp
        omega
      have h4 : valB (l.drop k) < 4611686018427387904 := Nat.lt_of_le_of_lt h3 HV.out
      generalize hV : valB (l.drop (k + 1)) = V at *
      have HV2 : Hid (valB (l.drop k) = x + 1000000000 * V) := h2
      have hb : x + 1000000000 * V < 4611686018427387904 := by omega
      clear h1 h2 h3 h4 hV e hx
      go_wp2
      go_round
      case rel => exact ⟨k, by omega, rfl, by rw [HV2.out]; go_num⟩
      case measure => simp [intOf]

end Go.Proofs.YthdcceackfdbbaaDoor
