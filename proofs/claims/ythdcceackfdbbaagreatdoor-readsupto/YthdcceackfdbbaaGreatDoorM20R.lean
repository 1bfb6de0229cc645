import Derived.Test.YthdcceackfdbbaaGreatDoorM19R
import Derived.Test.YthdcceackfdbbaaGreatDoorM03R
import Derived.Laws.AppendOwnNone
namespace Go.Proofs.YthdcceackfdbbaaGreatDoor
open Go.RowKit
def SmallB (a : Nat) : Prop := ∃ L, L ≤ 300 ∧ a < 1000000000 ^ L
theorem SmallB.le {a b : Nat} (h : SmallB b) (hl : a ≤ b) : SmallB a := by
  obtain ⟨L, h1, h2⟩ := h; exact ⟨L, h1, Nat.lt_of_le_of_lt hl h2⟩
theorem SmallB.of_lt {a k : Nat} (h : a < 2 ^ k) (hk : k ≤ 8700) : SmallB a := by
  refine ⟨(k + 28) / 29, by omega, Nat.lt_of_lt_of_le h ?_⟩
  refine Nat.le_trans (Nat.pow_le_pow_right (by omega) (show k ≤ 29 * ((k + 28) / 29) by omega)) ?_
  rw [Nat.pow_mul]
  exact Nat.pow_le_pow_left (by decide) _
theorem RepB.len {w : World} {B : Nat} {v : Value} {l : List Nat} {n : Nat} (_h : OwnB w B v l) (hc : Canon l) (hv : valB l = n) (hn : SmallB n) : l.length ≤ 300 := by
  obtain ⟨L, h1, h2⟩ := hn
  have := canon_lenB hc (by rw [hv]; exact h2)
  omega
theorem RepB.drewN {w : World} {B : Nat} {v : Value} {a : Nat} (h : RepB w B v a) (n : Nat) : RepB (w.drewN n) B v a := h.below (below_drewN (Below.refl _ _) n)
theorem times_rep (w : World) (v : Value) (a n : Nat) (m : Int) (h : RepB w 0 v a) (ha : SmallB a) (hn : n ≤ 1000000000) (hm : m = (n : Int)) :
    Calls Tryz.prog 124 #[v, .int .i64 m] w fun e w' => ∃ v', e = .returned v' ∧ RepB w' w.heap.size v' (a * n) ∧ Below w.heap.size w w' := by
  subst hm
  obtain ⟨l, h1, h2, h3⟩ := h
  refine (times_any w v l n h1 (by have := RepB.len h1 h2 h3 ha; omega) hn).mono ?_
  rintro e w' ⟨v', l', he, ho, hc, hv, hb⟩
  exact ⟨v', he, ⟨l', ho, hc, by rw [hv, h3]⟩, hb⟩
theorem canon_le_lenB {la lb : List Nat} (hw : WdsB la) (hc : Canon lb) (h : valB lb ≤ valB la) : lb.length ≤ la.length := by
  by_cases hh : lb.length ≤ la.length
  · exact hh
  · have := val_lt_lenB hw hc (by omega); omega
theorem minus_rep (w : World) (va vb : Value) (a b : Nat) (ha : RepB w 0 va a) (hb : RepB w 0 vb b) (sa : SmallB a) :
    Calls Tryz.prog 128 #[va, vb] w fun e w' => ∃ v' d, e = .returned v' ∧ RepB w' w.heap.size v' d ∧ (b ≤ a → d = a - b) ∧ SmallB d ∧ Below w.heap.size w w' := by
  obtain ⟨l, h1, h2, h3⟩ := ha
  obtain ⟨k, k1, k2, k3⟩ := hb
  have hl := RepB.len h1 h2 h3 sa
  refine (minus_any w va vb l k h1 k1 (by omega)).mono ?_
  rintro e w' ⟨v', l', he, ho, hc, hv, hll, hb⟩
  refine ⟨v', valB l', he, ⟨l', ho, hc, rfl⟩, ?_, ⟨l'.length, by omega, val_ltB ho.2⟩, hb⟩
  intro hle
  rw [hv (canon_le_lenB h1.2 k2 (by omega)) (by omega), h3, k3]
theorem compareB_rep (w : World) (va vb : Value) (a b : Nat) (ha : RepB w 0 va a) (hb : RepB w 0 vb b) (sa : SmallB a) :
    Calls Tryz.prog 126 #[va, vb] w fun e w' => e = .returned (.int .i64 (cmpI a b)) ∧ ∃ n, w' = w.drewN n := by
  obtain ⟨l, h1, h2, h3⟩ := ha
  obtain ⟨k, k1, k2, k3⟩ := hb
  have := compareB_any w va vb l k h1 k1 h2 k2 (by have := RepB.len h1 h2 h3 sa; omega)
  rw [h3, k3] at this
  exact this
theorem pow_left {a p n m k : Nat} (hm : m + k ≤ n) : a * p ^ (n - (m + k)) * p ^ k = a * p ^ (n - m) := by
  rw [Nat.mul_assoc, ← Nat.pow_add]; congr 2; omega
theorem pow_part {a p n m : Nat} (hp : 1 ≤ p) (hs : SmallB (a * p ^ n)) : SmallB (a * p ^ (n - m)) :=
  hs.le (Nat.mul_le_mul_left _ (Nat.pow_le_pow_right hp (by omega)))
set_option maxRecDepth 5000 in
set_option maxHeartbeats 1600000 in
theorem power2_any (w : World) (v : Value) (a n : Nat) (m0 : Int) (h : RepB w 0 v a) (hn : n ≤ 100000) (hm0 : m0 = (n : Int)) (hs : SmallB (a * 2 ^ n)) :
    Calls Tryz.prog 91 #[v, .int .i64 2, .int .i64 m0] w fun e w' => ∃ v', e = .returned v' ∧ RepB w' 0 v' (a * 2 ^ n) ∧ Below w.heap.size w w' := by
  subst hm0
  go_enter Tryz.func91, Tryz.ntmps91
  go_wp2
  go_loop [8, 9] (fun q i => ∃ k : Nat, k ≤ 29 ∧ i = .int .i64 k ∧ q = .int .i64 ((2 ^ k : Nat) : Int)) (fun _ i => 29 - (intOf i).toNat)
  case atStart => exact ⟨0, Nat.zero_le _, rfl, rfl⟩
  case round =>
    obtain ⟨k, hk, rfl, rfl⟩ := hrel
    have hq : 2 ^ k ≤ 536870912 := Nat.le_trans (Nat.pow_le_pow_right (by omega) hk) (by decide)
    generalize hQ : 2 ^ k = Q at *
    have HQ : Hid (2 ^ k = Q) := hQ
    clear hQ
    by_cases hlt : k < 29
    · go_wp2
      go_round
      case rel => exact ⟨k + 1, by omega, by go_num, by rw [Nat.pow_succ, HQ.out]; simp⟩
      case measure => simp [intOf]; omega
    · have hkk : k = 29 := by omega
      have hQ2 : Q = 536870912 := by rw [← HQ.out, hkk]
      subst hQ2
      clear HQ hkk
      go_wp2
      go_loopw [0, 2] (fun v q wr => ∃ m : Nat, m ≤ n ∧ q = .int .i64 m ∧ RepB wr 0 v (a * 2 ^ (n - m)) ∧ Below w.heap.size w wr) (fun _ q _ => (intOf q).toNat)
      case atStart => exact ⟨n, Nat.le_refl _, rfl, by simpa using h, Below.refl _ _⟩
      case round =>
        obtain ⟨m, hm, rfl, hr, hbel⟩ := hrel
        by_cases hge : 29 ≤ m
        · go_wp2_with fail
          refine (times_rep _ u0 _ 536870912 _ hr (pow_part (by omega) hs) (by omega) rfl).mono ?_
          rintro e w2 ⟨v2, rfl, r2, b2⟩
          go_wp2
          go_roundw
          case rel =>
            refine ⟨m - 29, by omega, by go_num, ?_, hbel.trans (b2.mono hbel.size)⟩
            have e := pow_left (a := a) (p := 2) (n := n) (m := m - 29) (k := 29) (by omega)
            rw [show m - 29 + 29 = m from by omega] at e
            rw [← e]
            exact r2.base (Nat.zero_le _)
          case measure => simp [intOf]; omega
        · go_wp2
          go_loopw [0, 2] (fun v q wr => ∃ m : Nat, m ≤ n ∧ q = .int .i64 m ∧ RepB wr 0 v (a * 2 ^ (n - m)) ∧ Below w.heap.size w wr) (fun _ q _ => (intOf q).toNat)
          case atStart => exact ⟨m, hm, rfl, hr, hbel⟩
          case round =>
            clear hr hbel hge
            obtain ⟨m, hm, rfl, hr, hbel⟩ := hrel
            by_cases hge : 1 ≤ m
            · go_wp2_with fail
              refine (times_rep _ u0 _ 2 _ hr (pow_part (by omega) hs) (by omega) rfl).mono ?_
              rintro e w2 ⟨v2, rfl, r2, b2⟩
              go_wp2
              go_roundw
              case rel =>
                refine ⟨m - 1, by omega, by go_num, ?_, hbel.trans (b2.mono hbel.size)⟩
                have e := pow_left (a := a) (p := 2) (n := n) (m := m - 1) (k := 1) (by omega)
                rw [show m - 1 + 1 = m from by omega, Nat.pow_one] at e
                rw [← e]
                exact r2.base (Nat.zero_le _)
              case measure => simp [intOf]; omega
            · have hm0 : m = 0 := by omega
              subst hm0
              go_wp2
              go_ret
              exact ⟨u0, rfl, by simpa using hr, hbel⟩
set_option maxRecDepth 5000 in
set_option maxHeartbeats 1600000 in
theorem power10_any (w : World) (v : Value) (a n : Nat) (m0 : Int) (h : RepB w 0 v a) (hn : n ≤ 100000) (hm0 : m0 = (n : Int)) (hs : SmallB (a * 10 ^ n)) :
    Calls Tryz.prog 91 #[v, .int .i64 10, .int .i64 m0] w fun e w' => ∃ v', e = .returned v' ∧ RepB w' 0 v' (a * 10 ^ n) ∧ Below w.heap.size w w' := by
  subst hm0
  go_enter Tryz.func91, Tryz.ntmps91
  go_wp2
  go_loop [8, 9] (fun q i => ∃ k : Nat, k ≤ 8 ∧ i = .int .i64 k ∧ q = .int .i64 ((10 ^ k : Nat) : Int)) (fun _ i => 8 - (intOf i).toNat)
  case atStart => exact ⟨0, Nat.zero_le _, rfl, rfl⟩
  case round =>
    obtain ⟨k, hk, rfl, rfl⟩ := hrel
    have hq : 10 ^ k ≤ 100000000 := Nat.le_trans (Nat.pow_le_pow_right (by omega) hk) (by decide)
    generalize hQ : 10 ^ k = Q at *
    have HQ : Hid (10 ^ k = Q) := hQ
    clear hQ
    by_cases hlt : k < 8
    · go_wp2
      go_round
      case rel => exact ⟨k + 1, by omega, by go_num, by rw [Nat.pow_succ, HQ.out]; simp⟩
      case measure => simp [intOf]; omega
    · have hkk : k = 8 := by omega
      have hQ2 : Q = 100000000 := by rw [← HQ.out, hkk]
      subst hQ2
      clear HQ hkk
      go_wp2
      go_loopw [0, 2] (fun v q wr => ∃ m : Nat, m ≤ n ∧ q = .int .i64 m ∧ RepB wr 0 v (a * 10 ^ (n - m)) ∧ Below w.heap.size w wr) (fun _ q _ => (intOf q).toNat)
      case atStart => exact ⟨n, Nat.le_refl _, rfl, by simpa using h, Below.refl _ _⟩
      case round =>
        obtain ⟨m, hm, rfl, hr, hbel⟩ := hrel
        by_cases hge : 8 ≤ m
        · go_wp2_with fail
          refine (times_rep _ u0 _ 100000000 _ hr (pow_part (by omega) hs) (by omega) rfl).mono ?_
          rintro e w2 ⟨v2, rfl, r2, b2⟩
          go_wp2
          go_roundw
          case rel =>
            refine ⟨m - 8, by omega, by go_num, ?_, hbel.trans (b2.mono hbel.size)⟩
            have e := pow_left (a := a) (p := 10) (n := n) (m := m - 8) (k := 8) (by omega)
            rw [show m - 8 + 8 = m from by omega] at e
            rw [← e]
            exact r2.base (Nat.zero_le _)
          case measure => simp [intOf]; omega
        · go_wp2
          go_loopw [0, 2] (fun v q wr => ∃ m : Nat, m ≤ n ∧ q = .int .i64 m ∧ RepB wr 0 v (a * 10 ^ (n - m)) ∧ Below w.heap.size w wr) (fun _ q _ => (intOf q).toNat)
          case atStart => exact ⟨m, hm, rfl, hr, hbel⟩
          case round =>
            clear hr hbel hge
            obtain ⟨m, hm, rfl, hr, hbel⟩ := hrel
            by_cases hge : 1 ≤ m
            · go_wp2_with fail
              refine (times_rep _ u0 _ 10 _ hr (pow_part (by omega) hs) (by omega) rfl).mono ?_
              rintro e w2 ⟨v2, rfl, r2, b2⟩
              go_wp2
              go_roundw
              case rel =>
                refine ⟨m - 1, by omega, by go_num, ?_, hbel.trans (b2.mono hbel.size)⟩
                have e := pow_left (a := a) (p := 10) (n := n) (m := m - 1) (k := 1) (by omega)
                rw [show m - 1 + 1 = m from by omega, Nat.pow_one] at e
                rw [← e]
                exact r2.base (Nat.zero_le _)
              case measure => simp [intOf]; omega
            · have hm0 : m = 0 := by omega
              subst hm0
              go_wp2
              go_ret
              exact ⟨u0, rfl, by simpa using hr, hbel⟩
set_option maxRecDepth 5000 in
set_option maxHeartbeats 400000 in
theorem value_any (w : World) (v : Value) (l : List Nat) (h : OwnB w 0 v l) (hl : l.length ≤ 1000000) (hv : valB l < 4611686018427387904) :
    Calls Tryz.prog 129 #[v] w fun e w' => e = .returned (.int .i64 ((valB l : Nat) : Int)) ∧ w' = w := by
  obtain ⟨ao, cap, rfl, hlc, hcap, hcell⟩ := h.shape1
  have HA : Hid (∀ (i x : Nat), l[i]? = some x → x < 1000000000 ∧ ∃ g, ao = some ⟨g, 0, none⟩ ∧ 0 ≤ g ∧ g < w.heap.size ∧ w.cell? ⟨g, i, none⟩ = some (.int .i64 (x : Int))) := hcell
  have HV : Hid (valB l < 4611686018427387904) := hv
  clear hcell hcap hv
  go_enter Tryz.func129, Tryz.ntmps129
  go_wp2
  go_loop [3, 4] (fun q i => ∃ k : Nat, k ≤ l.length ∧ i = .int .i64 ((k : Int) - 1) ∧ q = .int .i64 ((valB (l.drop k) : Nat) : Int)) (fun _ i => (intOf i + 1).toNat)
  case atStart => exact ⟨l.length, Nat.le_refl _, rfl, by rw [List.drop_length]; rfl⟩
  case round =>
    obtain ⟨k, hk, rfl, rfl⟩ := hrel
    cases k with
    | zero =>
      go_wp2
      go_ret
      exact ⟨rfl, rfl⟩
    | succ k =>
      have e : ((k + 1 : Nat) : Int) - 1 = (k : Int) := by omega
      rw [e]
      obtain ⟨x, hx⟩ : ∃ x, l[k]? = some x := ⟨l[k], by simp⟩
      obtain ⟨hxl, g, rfl, _, hg, hc⟩ := HA.out k x hx
      have h1 := List.drop_eq_getElem_cons (l := l) (i := k) (by omega)
      rw [(List.getElem?_eq_some_iff.1 hx).2] at h1
      have h2 : valB (l.drop k) = x + 1000000000 * valB (l.drop (k + 1)) := by rw [h1]; rfl
      have h3 : valB (l.drop k) ≤ valB l := by
        have := congrArg valB (List.take_append_drop k l)
        rw [val_appendB] at this
        have hp : 0 < 1000000000 ^ (l.take k).length := Nat.pow_pos (by omega)
        have := Nat.le_mul_of_pos_left (valB (l.drop k)) hp
        omega
      have h4 : valB (l.drop k) < 4611686018427387904 := Nat.lt_of_le_of_lt h3 HV.out
      generalize hV : valB (l.drop (k + 1)) = V at *
      have HV2 : Hid (valB (l.drop k) = x + 1000000000 * V) := h2
      have hb : x + 1000000000 * V < 4611686018427387904 := by omega
      clear h1 h2 h3 h4 hV e hx
      go_wp2
      go_round
      case rel => exact ⟨k, by omega, rfl, by rw [HV2.out]; go_num⟩
      case measure => simp [intOf]
end Go.Proofs.YthdcceackfdbbaaGreatDoor
namespace Go.Proofs.YthdcceackfdbbaaGreatDoor
open Go.RowKit
theorem cells_of {w : World} {g cap : Nat} {l : List Nat} {B : Nat} (h : OwnB w B (.slice (some ⟨g, 0, none⟩) l.length cap) l) : ∀ j u, (i64s l)[j]? = some u → w.cell? ((⟨g, 0, none⟩ : Addr).add j) = some u := by
  intro j u hj
  rw [Addr.add_lit, Nat.zero_add]
  simp only [i64s, List.getElem?_map, Option.map_eq_some_iff] at hj
  obtain ⟨x, hx, rfl⟩ := hj
  exact h.cellW hx
theorem one_of (l : List Nat) : ∀ u ∈ i64s l, u.oneCell' = true := by
  intro u hu; obtain ⟨x, _, rfl⟩ := List.mem_map.1 hu; rfl
theorem i64s_append (a b : List Nat) : i64s (a ++ b) = i64s a ++ i64s b := by simp [i64s]
theorem wds_appendB {a b : List Nat} (ha : WdsB a) (hb : WdsB b) : WdsB (a ++ b) := by
  intro x hx
  rcases List.mem_append.1 hx with h | h
  · exact ha x h
  · exact hb x h
theorem prod_step {la lb s : List Nat} {k y : Nat} (hy : lb[k]? = some y) (h : valB s = valB la * valB (lb.drop (k + 1))) : 1000000000 * valB s + valB la * y = valB la * valB (lb.drop k) := by
  have h1 := List.drop_eq_getElem_cons (l := lb) (i := k) (List.getElem?_eq_some_iff.1 hy).1
  rw [(List.getElem?_eq_some_iff.1 hy).2] at h1
  rw [h1, h]
  simp only [valB]
  rw [Nat.mul_add, Nat.mul_left_comm]
  omega
set_option maxRecDepth 5000 in
set_option maxHeartbeats 1600000 in
theorem product_any (w : World) (va vb : Value) (la lb : List Nat) (ha : OwnB w 0 va la) (hb' : OwnB w 0 vb lb) (hla : la.length ≤ 310) (hlb : lb.length ≤ 310) :
    Calls Tryz.prog 125 #[va, vb] w fun e w' => ∃ v', e = .returned v' ∧ RepB w' w.heap.size v' (valB la * valB lb) ∧ Below w.heap.size w w' := by
  obtain ⟨ab, capb, rfl, hlcb, hcapb, hcellb⟩ := hb'.shape1
  have HB : Hid (∀ (i x : Nat), lb[i]? = some x → x < 1000000000 ∧ ∃ g, ab = some ⟨g, 0, none⟩ ∧ 0 ≤ g ∧ g < w.heap.size ∧ w.cell? ⟨g, i, none⟩ = some (.int .i64 (x : Int))) := hcellb
  clear hcellb hcapb
  obtain ⟨i0, hi, hz0, hz1, hz2⟩ := info_parts Tryz.infoInt
  go_enter Tryz.func125, Tryz.ntmps125
  go_wp2
  go_loopw [5, 6] (fun v i wr => ∃ (k : Nat) (s : List Nat), k ≤ lb.length ∧ i = .int .i64 ((k : Int) - 1) ∧ OwnB wr w.heap.size v s ∧ s.length + 320 * k ≤ 320 * lb.length ∧ valB s = valB la * valB (lb.drop k) ∧ Below w.heap.size w wr) (fun _ i _ => (intOf i + 1).toNat)
  case atStart => exact ⟨lb.length, [], Nat.le_refl _, rfl, ownB_nil _ _, by simp, by rw [List.drop_length]; simp [valB], Below.refl _ _⟩
  case round =>
    obtain ⟨k, s, hk, rfl, hown, hsl, hval, hbel⟩ := hrel
    have HV : Hid (valB s = valB la * valB (lb.drop k)) := hval
    have hsz := hbel.size
    clear hval
    cases k with
    | zero =>
      go_wp2_with fail
      refine (trimB_any _ _ _ _ hown).mono ?_
      rintro e w' ⟨v', rfl, hown3, rfl⟩
      go_wp2
      go_ret
      exact ⟨v', rfl, ⟨_, hown3, trimL_canon _, by rw [trimL_valB]; simpa using HV.out⟩, hbel⟩
    | succ k =>
      have e : ((k + 1 : Nat) : Int) - 1 = (k : Int) := by omega
      rw [e]
      obtain ⟨y, hy⟩ : ∃ y, lb[k]? = some y := ⟨lb[k], by simp⟩
      obtain ⟨hyl, g2, rfl, _, hg2, hc⟩ := HB.out k y hy
      have hcr := hbel.cell (p := ⟨g2, k, none⟩) hg2
      rw [hc] at hcr
      have HY : Hid (lb[k]? = some y) := hy
      clear hy hc e
      rcases hown.shape with ⟨hu, hs0⟩ | ⟨g, cap, hu, hgB, hg, hlc, hcp, _, _⟩
      · rw [hu, hs0] at hown
        have HS0 : Hid (s = []) := hs0
        rw [hu]
        clear hs0 hu
        go_wp2_with fail
        refine (times_any _ va la y ((ha.below hbel)) (by omega) (by omega)).mono ?_
        rintro e w3 ⟨v3, l3, rfl, o3, c3, hv3, b3⟩
        have hl3 : l3.length ≤ la.length + 1 := by
          refine canon_lenB c3 ?_
          rw [hv3, Nat.pow_succ]
          exact Nat.mul_lt_mul_of_lt_of_le (val_ltB ha.2) (by omega) (by omega)
        have HV3 : Hid (valB l3 = valB la * y) := hv3
        clear hv3
        go_wp2_with fail
        refine (plus_any _ (.slice none 0 0) v3 [] l3 ((ownB_nil wr 0).below b3) (o3.base (Nat.zero_le _)) (by simp) (by omega)).mono ?_
        rintro e w4 ⟨v4, l4, rfl, o4, hv4, hl4, b4⟩
        have HV4 : Hid (valB l4 = valB ([]) + valB l3) := hv4
        have hb4 : Below w.heap.size w w4 := (hbel).trans ((b3.mono (hbel).size).trans (b4.mono (Nat.le_trans (hbel).size b3.size)))
        have ho4 := o4.base (Nat.le_trans (hbel).size b3.size)
        simp only [List.length_nil] at hl4
        clear hv4 o4 b4 b3
        go_wp2
        go_roundw
        case rel =>
          refine ⟨k, l4, by omega, rfl, ho4, by omega, ?_, hb4⟩
          rw [HV4.out, HV3.out, ← prod_step HY.out HV.out]
          rw [HS0.out]; simp [valB]
        case measure => simp [intOf]
      · rw [hu] at hown
        rw [hu]
        clear hu
        by_cases hs0 : s.length = 0
        · have HS0 : Hid (s = []) := List.length_eq_zero_iff.1 hs0
          have hz : ((s.length : Int)) ≤ 0 := by omega
          go_wp2_with (at_builtin; refine wpList_append_own _ rfl _ _ 138 rfl w.heap.size 3 i0 (.int .i64 0) 1 8 Tryz.underlying138 hi hz0 hz1 hz2 rfl (by decide) _ _ _ rfl (World.ownsRow_nil wr w.heap.size _ _) ⟨g, 0, none⟩ s.length cap (i64s s) rfl ?x1a ?x2a ?x3a ?x4a ?x5a ?x6a ?_)
          case x1a => simp [i64s]
          case x2a => exact cells_of hown
          case x3a => exact one_of s
          case x4a => unfold maxLen; omega
          case x5a => omega
          case x6a => exact hsz
          intro v1 w1 hown1 hgrow hnil
          clear hnil
          have ho1 : OwnB w1 w.heap.size v1 s := OwnB.ofRow hown1 (by simp) hown.2
          have hb1 : Below w.heap.size w w1 := hbel.grown hgrow hsz (by intro q hq; simp [Value.ownBlock] at hq)
          have hcr1 : w1.cell? ⟨g2, k, none⟩ = some (.int .i64 (y : Int)) := (hb1.cell (p := ⟨g2, k, none⟩) hg2).trans ((hbel.cell (p := ⟨g2, k, none⟩) hg2).symm.trans hcr)
          clear hown1 hgrow
          go_wp2_with fail
          refine (times_any _ va la y ((ha.below hb1)) (by omega) (by omega)).mono ?_
          rintro e w3 ⟨v3, l3, rfl, o3, c3, hv3, b3⟩
          have hl3 : l3.length ≤ la.length + 1 := by
            refine canon_lenB c3 ?_
            rw [hv3, Nat.pow_succ]
            exact Nat.mul_lt_mul_of_lt_of_le (val_ltB ha.2) (by omega) (by omega)
          have HV3 : Hid (valB l3 = valB la * y) := hv3
          clear hv3
          go_wp2_with fail
          refine (plus_any _ v1 v3 s l3 ((ho1.base (Nat.zero_le _)).below b3) (o3.base (Nat.zero_le _)) (by omega) (by omega)).mono ?_
          rintro e w4 ⟨v4, l4, rfl, o4, hv4, hl4, b4⟩
          have HV4 : Hid (valB l4 = valB (s) + valB l3) := hv4
          have hb4 : Below w.heap.size w w4 := (hb1).trans ((b3.mono (hb1).size).trans (b4.mono (Nat.le_trans (hb1).size b3.size)))
          have ho4 := o4.base (Nat.le_trans (hb1).size b3.size)
          clear hv4 o4 b4 b3
          go_wp2
          go_roundw
          case rel =>
            refine ⟨k, l4, by omega, rfl, ho4, by omega, ?_, hb4⟩
            rw [HV4.out, HV3.out, ← prod_step HY.out HV.out]
            rw [HS0.out]; simp [valB]
          case measure => simp [intOf]
        · have hz : (0 : Int) < (s.length : Int) := by omega
          go_wp2_with ((at_builtin; refine wpList_append_own _ rfl _ _ 138 rfl w.heap.size 3 i0 (.int .i64 0) 1 8 Tryz.underlying138 hi hz0 hz1 hz2 rfl (by decide) _ _ _ rfl ((World.ownsRow_nil wr w.heap.size _ _).alloc _) ⟨wr.heap.size, 0, none⟩ 1 1 [.int .i64 0] rfl rfl ?c1 ?c2 ?c3 ?c4 ?c5 ?_))
          case c1 => exact cell_one_new _ _ _
          case c2 => intro u hu; simp at hu; subst hu; rfl
          case c3 => unfold maxLen; omega
          case c4 => omega
          case c5 => simp; omega
          intro v1 w1 hown1 hgrow hnil
          clear hnil
          have hb1 : Below w.heap.size w w1 := (hbel.alloc hsz _).grown hgrow (by simp; omega) (by intro q hq; simp [Value.ownBlock] at hq)
          have hos : OwnB w1 w.heap.size (.slice (some ⟨g, 0, none⟩) s.length cap) s := (hown.below ((Below.refl wr.heap.size wr).alloc (Nat.le_refl _) _)).below ((Below.refl _ _).grown hgrow (Nat.le_refl _) (by intro q hq; simp [Value.ownBlock] at hq))
          have ho1 : OwnB w1 w.heap.size v1 [0] := OwnB.ofRow hown1 (by simp [i64s]) (by intro x hx; simp at hx; omega)
          have hsz1 := hb1.size
          clear hgrow hown1
          go_wp2_with (at_builtin; refine wpList_append_own _ rfl _ _ 138 rfl w.heap.size 3 i0 (.int .i64 0) 1 8 Tryz.underlying138 hi hz0 hz1 hz2 rfl (by decide) _ _ _ rfl (ho1.1) ⟨g, 0, none⟩ s.length cap (i64s s) rfl ?x1c ?x2c ?x3c ?x4c ?x5c ?x6c ?_)
          case x1c => simp [i64s]
          case x2c => exact cells_of hos
          case x3c => exact one_of s
          case x4c => unfold maxLen; simp; omega
          case x5c => simp; omega
          case x6c => exact hsz1
          intro v2 w2 hown2 hgrow2 hnil
          clear hnil
          have ho2 : OwnB w2 w.heap.size v2 (0 :: s) := OwnB.ofRow hown2 (by rw [← i64s_append]; rfl) (wds_appendB ho1.2 hown.2)
          have hb2 : Below w.heap.size w w2 := hb1.grown hgrow2 hsz1 (fun q hq => (ho1.1.lt q hq).1)
          have hcr1 : w2.cell? ⟨g2, k, none⟩ = some (.int .i64 (y : Int)) := (hb2.cell (p := ⟨g2, k, none⟩) hg2).trans ((hbel.cell (p := ⟨g2, k, none⟩) hg2).symm.trans hcr)
          clear hown2 hgrow2
          go_wp2_with fail
          refine (times_any _ va la y ((ha.below hb2)) (by omega) (by omega)).mono ?_
          rintro e w3 ⟨v3, l3, rfl, o3, c3, hv3, b3⟩
          have hl3 : l3.length ≤ la.length + 1 := by
            refine canon_lenB c3 ?_
            rw [hv3, Nat.pow_succ]
            exact Nat.mul_lt_mul_of_lt_of_le (val_ltB ha.2) (by omega) (by omega)
          have HV3 : Hid (valB l3 = valB la * y) := hv3
          clear hv3
          go_wp2_with fail
          refine (plus_any _ v2 v3 (0 :: s) l3 ((ho2.base (Nat.zero_le _)).below b3) (o3.base (Nat.zero_le _)) (by simp; omega) (by omega)).mono ?_
          rintro e w4 ⟨v4, l4, rfl, o4, hv4, hl4, b4⟩
          have HV4 : Hid (valB l4 = valB ((0 :: s)) + valB l3) := hv4
          have hb4 : Below w.heap.size w w4 := (hb2).trans ((b3.mono (hb2).size).trans (b4.mono (Nat.le_trans (hb2).size b3.size)))
          have ho4 := o4.base (Nat.le_trans (hb2).size b3.size)
          simp only [List.length_cons] at hl4
          clear hv4 o4 b4 b3
          go_wp2
          go_roundw
          case rel =>
            refine ⟨k, l4, by omega, rfl, ho4, by omega, ?_, hb4⟩
            rw [HV4.out, HV3.out, ← prod_step HY.out HV.out]
            simp [valB]
          case measure => simp [intOf]
end Go.Proofs.YthdcceackfdbbaaGreatDoor
namespace Go.Proofs.YthdcceackfdbbaaGreatDoor
open Go.RowKit
theorem wpList_appendB {w : World} {ops : Array Oper} {rest : List Oper} {o : Oper} {a : Act} {Q : Exit → Act → World → Prop} (hgd : o.guard = none) (s x : Operand)
    (ho : o.op = .call { callee := .builtin .append, args := #[s, x], argTypes := #[138, 138] }) (base : Nat) (v vs : Value) (n : Nat) (xs : List Value) (ls : List Nat)
    (hs : a.eval s = v) (hx : a.eval x = vs) (hown : w.ownsRow base 3 1 v n xs) (hos : OwnB w 0 vs ls) (hn : n + ls.length ≤ 10000000) (hb : base ≤ w.heap.size)
    (h : ∀ v' w', w'.ownsRow base 3 1 v' (n + ls.length) (xs ++ i64s ls) → w.grownBy w' v.ownBlock → wpList Tryz.prog ops Q rest (a.put o.dst v') w') : wpList Tryz.prog ops Q (o :: rest) a w := by
  obtain ⟨i0, hi, hz0, hz1, hz2⟩ := info_parts Tryz.infoInt
  rcases hos.shape with ⟨rfl, rfl⟩ | ⟨g, cap, rfl, _, hg, hlc, hcp, _, _⟩
  · refine wpList_append_own_none hgd s x 138 ho base 3 i0 1 Tryz.underlying138 hi v n xs hs hown hx ?_
    exact h v w (by simpa [i64s] using hown) (grown_refl _ _)
  · refine wpList_append_own w hgd s x 138 ho base 3 i0 (.int .i64 0) 1 8 Tryz.underlying138 hi hz0 hz1 hz2 rfl (by decide) v n xs hs hown ⟨g, 0, none⟩ ls.length cap (i64s ls) hx ?_ ?_ ?_ ?_ ?_ ?_ ?_
    · simp [i64s]
    · exact cells_of hos
    · exact one_of ls
    · unfold maxLen; omega
    · omega
    · exact hb
    · intro v' w' h1 h2 _; exact h v' w' h1 h2
theorem RepB.own {w : World} {B : Nat} {v : Value} {n : Nat} (h : RepB w B v n) (hs : SmallB n) : ∃ l, OwnB w B v l ∧ Canon l ∧ valB l = n ∧ l.length ≤ 300 := by
  obtain ⟨l, h1, h2, h3⟩ := h; exact ⟨l, h1, h2, h3, RepB.len h1 h2 h3 hs⟩
theorem bis_mid {lo hi : Nat} (h : lo < hi) : lo < (lo + hi + 1) / 2 ∧ (lo + hi + 1) / 2 ≤ hi := by omega
theorem div_step {la lq : List Nat} {k x b r lo : Nat} (hx : la[k]? = some x) (h : valB (la.drop (k + 1)) = valB lq * b + r) (h1 : b * lo ≤ x + 1000000000 * r) :
    valB (la.drop k) = valB (lo :: lq) * b + (x + 1000000000 * r - b * lo) := by
  have e := List.drop_eq_getElem_cons (l := la) (i := k) (List.getElem?_eq_some_iff.1 hx).1
  rw [(List.getElem?_eq_some_iff.1 hx).2] at e
  rw [e]
  simp only [valB]
  rw [h, Nat.add_mul, Nat.mul_add, Nat.mul_assoc, Nat.mul_comm lo b]
  omega
set_option maxRecDepth 5000 in
set_option maxHeartbeats 3200000 in
theorem divided_any (w : World) (va vb : Value) (a b : Nat) (ha : RepB w 0 va a) (hb' : RepB w 0 vb b) (hb0 : b ≠ 0) (sa : SmallB a) (sb : SmallB (b * 1000000000)) :
    Calls Tryz.prog 127 #[va, vb] w fun e w' => ∃ v', e = .returned v' ∧ RepB w' w.heap.size v' (a / b) ∧ Below w.heap.size w w' := by
  obtain ⟨la, ha1, ca, hva, hla⟩ := ha.own sa
  obtain ⟨aa, capa, rfl, hlca, hcapa, hcella⟩ := ha1.shape1
  have HA : Hid (∀ (i x : Nat), la[i]? = some x → x < 1000000000 ∧ ∃ g, aa = some ⟨g, 0, none⟩ ∧ 0 ≤ g ∧ g < w.heap.size ∧ w.cell? ⟨g, i, none⟩ = some (.int .i64 (x : Int))) := hcella
  have HVA : Hid (valB la = a) := hva
  clear hcella hcapa hva
  obtain ⟨i0, hi, hz0, hz1, hz2⟩ := info_parts Tryz.infoInt
  go_enter Tryz.func127, Tryz.ntmps127
  go_wp2
  go_loopw [5, 6, 7] (fun vq vr i wr => ∃ (k : Nat) (lq : List Nat) (r : Nat), k ≤ la.length ∧ i = .int .i64 ((k : Int) - 1) ∧ OwnB wr w.heap.size vq lq ∧ RepB wr w.heap.size vr r ∧ r < b ∧ lq.length + k = la.length ∧ valB (la.drop k) = valB lq * b + r ∧ Below w.heap.size w wr) (fun _ _ i _ => (intOf i + 1).toNat)
  case atStart => exact ⟨la.length, [], 0, Nat.le_refl _, rfl, ownB_nil _ _, ⟨[], ownB_nil _ _, canon_nil, rfl⟩, by omega, by simp, by rw [List.drop_length]; simp [valB], Below.refl _ _⟩
  case round =>
    obtain ⟨k, lq, r, hk, rfl, hoq, hrr, hrb, hlq, hval, hbel⟩ := hrel
    have HV : Hid (valB (la.drop k) = valB lq * b + r) := hval
    have HRB : Hid (r < b) := hrb
    have HLQ : Hid (lq.length + k = la.length) := hlq
    have hlq2 : lq.length ≤ 300 := by omega
    have hsz := hbel.size
    clear hval hlq hrb
    cases k with
    | zero =>
      go_wp2_with fail
      refine (trimB_any _ _ _ _ hoq).mono ?_
      rintro e w' ⟨v', rfl, hown3, rfl⟩
      go_wp2
      go_ret
      refine ⟨v', rfl, ⟨_, hown3, trimL_canon _, ?_⟩, hbel⟩
      have hv := HV.out
      rw [List.drop_zero, HVA.out] at hv
      rw [trimL_valB]
      exact (div_of (d := valB lq) (by omega) HRB.out).1.symm
    | succ k =>
      have e : ((k + 1 : Nat) : Int) - 1 = (k : Int) := by omega
      rw [e]
      obtain ⟨x, hx⟩ : ∃ x, la[k]? = some x := ⟨la[k], by simp⟩
      obtain ⟨hxl, g, rfl, _, hg, hc⟩ := HA.out k x hx
      have hcr := hbel.cell (p := ⟨g, k, none⟩) hg
      rw [hc] at hcr
      have HX : Hid (la[k]? = some x) := hx
      obtain ⟨lr, hor, cr, hvr, hlr⟩ := hrr.own (sb.le (by have := HRB.out; omega))
      have HVR : Hid (valB lr = r) := hvr
      clear hx hc e hvr hrr
      go_wp2_with (at_builtin; refine wpList_append_own _ rfl _ _ 138 rfl wr.heap.size 3 i0 (.int .i64 0) 1 8 Tryz.underlying138 hi hz0 hz1 hz2 rfl (by decide) _ _ _ rfl ((World.ownsRow_nil wr wr.heap.size _ _).alloc _) ⟨wr.heap.size, 0, none⟩ 1 1 [.int .i64 (x : Int)] rfl rfl ?c1a ?c2a ?c3a ?c4a ?c5a ?_)
      case c1a => exact cell_one_new _ _ _
      case c2a => intro u hu; simp at hu; subst hu; rfl
      case c3a => unfold maxLen; omega
      case c4a => omega
      case c5a => simp
      intro v1 w1 hown1 hgrow hnil
      clear hnil
      have b1 : Below wr.heap.size wr w1 := ((Below.refl _ _).alloc (Nat.le_refl _) _).grown hgrow (by simp) (by intro q hq; simp [Value.ownBlock] at hq)
      have hsz1 := b1.size
      have hor1 := hor.below b1
      clear hgrow hor
      go_wp2_with (at_builtin; refine wpList_appendB rfl _ _ rfl wr.heap.size _ _ _ _ lr rfl rfl hown1 (hor1.base (Nat.zero_le _)) ?d1 ?d2 ?_)
      case d1 => omega
      case d2 => exact hsz1
      intro v2 w2 hown2 hgrow2
      have ho2 : OwnB w2 wr.heap.size v2 (x :: lr) := OwnB.ofRow hown2 (by simp [i64s]) (by intro z hz; rcases List.mem_cons.1 hz with h | h; omega; exact hor1.2 z h)
      have b2 : Below wr.heap.size wr w2 := b1.grown hgrow2 hsz1 (fun q hq => (hown1.lt q hq).1)
      have hR1 : x + 1000000000 * r < b * 1000000000 := by
        have h1 : 1000000000 * (r + 1) ≤ 1000000000 * b := Nat.mul_le_mul_left _ HRB.out
        rw [Nat.mul_add] at h1
        rw [Nat.mul_comm b]
        omega
      have sR : SmallB (x + 1000000000 * r) := sb.le (Nat.le_of_lt hR1)
      have sb1 : SmallB b := sb.le (by omega)
      have HR1 : Hid (x + 1000000000 * r < b * 1000000000) := hR1
      clear hown2 hgrow2 hown1 hor1 b1 hsz1 hR1
      go_wp2_with fail
      refine (trimB_any _ _ _ _ ho2).mono ?_
      rintro e w2' ⟨v3, rfl, ho3, rfl⟩
      have r3 : RepB w2' wr.heap.size v3 (x + 1000000000 * r) := ⟨_, ho3, trimL_canon _, by rw [trimL_valB]; simp only [valB]; rw [HVR.out]⟩
      generalize hRe : x + 1000000000 * r = R at *
      have HRE : Hid (x + 1000000000 * r = R) := hRe
      clear ho3 ho2 hRe
      go_wp2_with fail
      have bw2 : Below w.heap.size w w2' := hbel.trans (b2.mono hsz)
      refine (compareB_rep _ v3 vb R b (r3.base (Nat.zero_le _)) (hb'.below bw2) sR).mono ?_
      rintro e w3 ⟨rfl, nq, rfl⟩
      have key : ∃ (cm : Int) (h0 : Nat), cmpI (R : Int) (b : Int) = cm ∧ ((cm < 0 ∧ h0 = 0) ∨ (¬ cm < 0 ∧ h0 = 999999999)) ∧ h0 ≤ 999999999 ∧ R < b * (h0 + 1) := by
        by_cases hlt : R < b
        · exact ⟨-1, 0, cmpI_lt (by omega), .inl ⟨by omega, rfl⟩, by omega, by omega⟩
        · refine ⟨cmpI (R : Int) (b : Int), 999999999, rfl, .inr ⟨?_, rfl⟩, by omega, HR1.out⟩
          unfold cmpI; split <;> (try split) <;> omega
      obtain ⟨cm, h0, hcm, hcs, hh0, hRh⟩ := key
      rw [hcm]
      have HRH : Hid (R < b * (h0 + 1)) := hRh
      clear hcm hRh
      have r3n := (r3.drewN nq).base hsz
      have b2n : Below wr.heap.size wr (w2'.drewN nq) := below_drewN b2 nq
      have bwn : Below w.heap.size w (w2'.drewN nq) := below_drewN bw2 nq
      have hbn := hb'.below bwn
      have hoqn := hoq.below b2n
      clear r3 b2 bw2 hoq
      rcases hcs with ⟨hc1, rfl⟩ | ⟨hc1, rfl⟩
      all_goals
        go_wp2_with fail
        go_loopw [9, 10] (fun lo hg wx => ∃ l h : Nat, l ≤ h ∧ h ≤ 999999999 ∧ lo = .int .i64 l ∧ hg = .int .i64 h ∧ b * l ≤ R ∧ R < b * (h + 1) ∧ Below (w2'.drewN nq).heap.size (w2'.drewN nq) wx) (fun lo hg _ => (intOf hg).toNat - (intOf lo).toNat)
        case atStart => exact ⟨0, _, Nat.zero_le _, hh0, rfl, rfl, by simp, HRH.out, Below.refl _ _⟩
        case round =>
          obtain ⟨l, h, hlh, hh9, rfl, rfl, hl1, hl2, bx⟩ := hrel
          have HL1 : Hid (b * l ≤ R) := hl1
          have HL2 : Hid (R < b * (h + 1)) := hl2
          clear hl1 hl2
          by_cases hlt : l < h
          · have hm := bis_mid hlt
            obtain ⟨mid, hmid⟩ : ∃ mid : Nat, mid = (l + h + 1) / 2 := ⟨_, rfl⟩
            rw [← hmid] at hm
            obtain ⟨hm1, hm2⟩ := hm
            have HMID : Hid (mid = (l + h + 1) / 2) := hmid
            clear hmid
            go_wp2_with fail
            refine (times_rep _ vb b mid (((l : Int) + (h : Int) + 1) / 2) (hbn.below bx) sb1 (by omega) (by have := HMID.out; omega)).mono ?_
            rintro e w4 ⟨v4, rfl, r4, b4⟩
            have em : ((l : Int) + (h : Int) + 1) / 2 = (mid : Int) := by have := HMID.out; omega
            have EM : Hid (((l : Int) + (h : Int) + 1) / 2 = (mid : Int)) := em
            clear em
            have s4 : SmallB (b * mid) := sb.le (Nat.mul_le_mul_left _ (by omega))
            have bx4 : Below (w2'.drewN nq).heap.size (w2'.drewN nq) w4 := bx.trans (b4.mono bx.size)
            go_wp2_with fail
            refine (compareB_rep _ v4 v3 (b * mid) R (r4.base (Nat.zero_le _)) ((r3n.below bx4).base (Nat.zero_le _)) s4).mono ?_
            rintro e w5 ⟨rfl, nq2, rfl⟩
            by_cases hcx : b * mid ≤ R
            · have hcm : cmpI ((b * mid : Nat) : Int) (R : Int) ≤ 0 := by unfold cmpI; split <;> (try split) <;> omega
              generalize cmpI ((b * mid : Nat) : Int) (R : Int) = cq at hcm ⊢
              have HCX : Hid (b * mid ≤ R) := hcx
              clear hcx
              go_wp2
              go_roundw
              case rel => exact ⟨mid, h, hm2, hh9, by rw [EM.out], rfl, HCX.out, HL2.out, below_drewN bx4 nq2⟩
              case measure => simp only [intOf]; rw [EM.out]; omega
            · have hcm : 0 < cmpI ((b * mid : Nat) : Int) (R : Int) := by unfold cmpI; split <;> (try split) <;> omega
              generalize cmpI ((b * mid : Nat) : Int) (R : Int) = cq at hcm ⊢
              have HCX : Hid (¬ b * mid ≤ R) := hcx
              clear hcx
              go_wp2
              go_roundw
              case rel => exact ⟨l, mid - 1, by omega, by omega, rfl, by rw [EM.out]; go_num, HL1.out, by have := HCX.out; rw [show mid - 1 + 1 = mid from by omega]; omega, below_drewN bx4 nq2⟩
              case measure => simp only [intOf]; rw [EM.out]; omega
          · have hll : h = l := by omega
            subst hll
            go_wp2_with fail
            refine (times_rep _ vb b h (h : Int) (hbn.below bx) sb1 (by omega) rfl).mono ?_
            rintro e w4 ⟨v4, rfl, r4, b4⟩
            have bx4 : Below (w2'.drewN nq).heap.size (w2'.drewN nq) w4 := bx.trans (b4.mono bx.size)
            go_wp2_with fail
            refine (minus_rep _ v3 v4 R (b * h) ((r3n.below bx4).base (Nat.zero_le _)) (r4.base (Nat.zero_le _)) sR).mono ?_
            rintro e w5 ⟨v5, d5, rfl, r5, hd5, s5, b5⟩
            have HD5 : Hid (d5 = R - b * h) := hd5 HL1.out
            have bx5 : Below (w2'.drewN nq).heap.size (w2'.drewN nq) w5 := bx4.trans (b5.mono bx4.size)
            have bw5 : Below w.heap.size w w5 := bwn.trans (bx5.mono bwn.size)
            have hoq5 := hoqn.below bx5
            have r5w := r5.base (Nat.le_trans bwn.size bx4.size)
            clear hd5 b4 bx4 b5 r4 bx r5 r3n
            go_wp2_with (at_builtin; refine wpList_append_own _ rfl _ _ 138 rfl w5.heap.size 3 i0 (.int .i64 0) 1 8 Tryz.underlying138 hi hz0 hz1 hz2 rfl (by decide) _ _ _ rfl ((World.ownsRow_nil w5 w5.heap.size _ _).alloc _) ⟨w5.heap.size, 0, none⟩ 1 1 [.int .i64 (h : Int)] rfl rfl ?c1z ?c2z ?c3z ?c4z ?c5z ?_)
            case c1z => exact cell_one_new _ _ _
            case c2z => intro u hu; simp at hu; subst hu; rfl
            case c3z => unfold maxLen; omega
            case c4z => omega
            case c5z => simp
            intro v6 w6 hown6 hgrow6 hnil
            clear hnil
            have b6 : Below w5.heap.size w5 w6 := ((Below.refl _ _).alloc (Nat.le_refl _) _).grown hgrow6 (by simp) (by intro q hq; simp [Value.ownBlock] at hq)
            have hsz6 := b6.size
            have hoq6 := hoq5.below b6
            clear hgrow6
            go_wp2_with (at_builtin; refine wpList_appendB rfl _ _ rfl w5.heap.size _ _ _ _ lq rfl rfl hown6 (hoq6.base (Nat.zero_le _)) ?e1 ?e2 ?_)
            case e1 => omega
            case e2 => exact hsz6
            intro v7 w7 hown7 hgrow7
            have b7 : Below w5.heap.size w5 w7 := b6.grown hgrow7 hsz6 (fun q hq => (hown6.lt q hq).1)
            have ho7 : OwnB w7 w5.heap.size v7 (h :: lq) := OwnB.ofRow hown7 (by simp [i64s]) (by intro z hz; rcases List.mem_cons.1 hz with hz | hz; omega; exact hoq6.2 z hz)
            have hbf : Below w.heap.size w w7 := bw5.trans (b7.mono bw5.size)
            have rf := r5w.below b7
            have hof := ho7.base bw5.size
            clear hown7 hgrow7 hown6 hoq6 b6
            go_wp2
            go_roundw
            case rel =>
              refine ⟨k, h :: lq, d5, by omega, rfl, hof, rf, ?_, by have := HLQ.out; simp; omega, ?_, hbf⟩
              · have h1 := HL2.out
                rw [HD5.out]
                rw [Nat.mul_add] at h1
                omega
              · rw [HD5.out, ← HRE.out]
                exact div_step HX.out HV.out (by rw [HRE.out]; exact HL1.out)
            case measure => simp [intOf]
end Go.Proofs.YthdcceackfdbbaaGreatDoor
