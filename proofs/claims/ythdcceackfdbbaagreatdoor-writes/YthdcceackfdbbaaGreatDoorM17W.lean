import Derived.Test.YthdcceackfdbbaaGreatDoorQbQ
import Derived.Test.YthdcceackfdbbaaGreatDoorM15W
import Derived.Test.YthdcceackfdbbaaGreatDoorM14W

/- Walk over the reference: shortest. Own text. -/
namespace Go.Proofs.YthdcceackfdbbaaGreatDoor
open Go.RowKit
attribute [local go_sem ↓] Go.wp_at_zero Go.wp_at_succ

theorem tupS {t : ByteArray} {a b : Int} (h : a = b) : Ending.returned (.tuple #[.string t, .int .i64 a]) = .returned (.tuple #[.string t, .int .i64 b]) := by rw [h]

/-- What a round of the reference's shortest has to know. -/
structure Rnd1 (s : Nat) (K : Int) (N B A D : Nat) : Prop where
  eN : N = sizeS s * 10 ^ (-K).toNat
  eB : B = belowS s * 10 ^ (-K).toNat
  eA : A = aboveS s * 10 ^ (-K).toNat
  eD : D = oneS s * 10 ^ K.toNat
  le : D ≤ N
  lt : N / D < 1000000000000000000
  D0 : D ≠ 0
  B0 : 0 < B
  A0 : 0 < A

theorem rnd1_of {s : Nat} {K top : Int} {i : Nat} (h1 : leT s top) (h2 : ¬ leT s (top + 1)) (hK : K = top - i) (hi : i ≤ 16) : Rnd1 s K (sizeS s * 10 ^ (-K).toNat) (belowS s * 10 ^ (-K).toNat) (aboveS s * 10 ^ (-K).toNat) (oneS s * 10 ^ K.toNat) := by
  have hD0 : oneS s * 10 ^ K.toNat ≠ 0 := Nat.mul_ne_zero (one_ne s) (Nat.ne_of_gt (ten_pow_pos _))
  refine ⟨rfl, rfl, rfl, rfl, leT_le h1 (by omega), ?_, hD0, Nat.mul_pos (below_pos s) (ten_pow_pos _), Nat.mul_pos (above_pos s) (ten_pow_pos _)⟩
  rw [leT_iff (a := (-K).toNat) (b := K.toNat + (i + 1)) (by omega), Nat.pow_add, ← Nat.mul_assoc] at h2
  refine Nat.lt_of_lt_of_le (Nat.div_lt_of_lt_mul (Nat.lt_of_not_le h2)) ?_
  exact Nat.le_trans (Nat.pow_le_pow_right (by omega) (show i + 1 ≤ 17 by omega)) (by decide)

theorem RepB.head {w : World} {B : Nat} {a : Option Addr} {k p n : Nat} (h : RepB w B (.slice a k p) n) (hn : n ≠ 0) (sm : SmallB n) :
    ∃ g x : Nat, a = some ⟨g, 0, none⟩ ∧ 0 < k ∧ k ≤ 300 ∧ w.cell? ⟨g, 0, none⟩ = some (.int .i64 (x : Int)) ∧ x % 2 = n % 2 ∧ x < 1000000000 ∧ g < w.heap.size := by
  obtain ⟨l, h1, h2, h3, h4⟩ := h.own sm
  have hk := h1.lenW
  cases l with
  | nil => simp [valB] at h3; omega
  | cons x l =>
    rcases h1.shape with ⟨_, e⟩ | ⟨g, cap, e, _, hg, _, _, h5, _⟩
    · simp at e
    · injection e with e1 e2 e3
      refine ⟨g, x, e1, by rw [hk]; simp, by omega, h5 0 x (by simp), ?_, h1.2 x (by simp), hg⟩
      rw [← h3]
      exact valB_parity.symm

theorem divided_form (w : World) (va vb : Value) (a b : Nat) (ha : RepB w 0 va a) (hb' : RepB w 0 vb b) (hb0 : b ≠ 0) (sa : SmallB a) (sb : SmallB (b * 1000000000)) :
    Calls Tryz.prog 127 #[va, vb] w fun e w' => ∃ a' k' p', e = .returned (.slice a' k' p') ∧ RepB w' w.heap.size (.slice a' k' p') (a / b) ∧ Below w.heap.size w w' := by
  refine (divided_any w va vb a b ha hb' hb0 sa sb).mono ?_
  rintro e w' ⟨v', rfl, r, b⟩
  obtain ⟨a', k', p', rfl⟩ := r.form
  exact ⟨a', k', p', rfl, r, b⟩

theorem plus_form (w : World) (va vb : Value) (a b : Nat) (ha : RepB w 0 va a) (hb : RepB w 0 vb b) (sa : SmallB a) (sb : SmallB b) :
    Calls Tryz.prog 135 #[va, vb] w fun e w' => ∃ a' k' p', e = .returned (.slice a' k' p') ∧ RepB w' w.heap.size (.slice a' k' p') (a + b) ∧ Below w.heap.size w w' := by
  refine (plusOne_rep w va vb a b ha hb sa sb).mono ?_
  rintro e w' ⟨v', rfl, r, b⟩
  obtain ⟨a', k', p', rfl⟩ := r.form
  exact ⟨a', k', p', rfl, r, b⟩

set_option maxRecDepth 20000 in
set_option maxHeartbeats 3200000 in
theorem refshort_any (w : World) (s d : Nat) (p : Int) (h0 : s ≠ 0) (hs : s < 9218868437227405312) (hsh : ShortAt s d p) :
    Calls Tryz.prog 94 #[.int .u64 (s : Int)] w fun e w' => ∃ t : ByteArray, e = .returned (.tuple #[.string t, .int .i64 (p + ((Lib.decDigits d).length : Int) - 1)]) ∧ t.data.toList = Lib.decDigits d ∧ Below w.heap.size w w' := by
  obtain ⟨j, hj, t1, t2, st1, st2⟩ := hsh.steps
  obtain ⟨hp1, hp2⟩ := hsh.pow h0 hs
  have hd17 := hsh.bd.2.1
  have hd1 := hsh.bd.1
  obtain ⟨ev, hev⟩ : ∃ ev, decide (s % 2 = 0) = ev := ⟨_, rfl⟩
  have hev2 : ((mS s : Int) % 2 == 0) = ev := by
    rw [← hev, (size_eq hs).2.2.2.2]
    by_cases h : mS s % 2 = 0
    · rw [decide_eq_true h]; simp; omega
    · rw [decide_eq_false h]; simp; omega
  have hm := mS_lt s
  have HS1 := Hid.mk' st1
  have HS2 := Hid.mk' st2
  have HT := Hid.mk' (And.intro t1 t2)
  have HEV := Hid.mk' hev
  clear st1 st2 t1 t2 hev hsh
  go_enter Tryz.func94, Tryz.ntmps94
  go_wp2_with fail
  refine (scaled_any _ s h0 hs).mono ?_
  rintro e w1 ⟨a0, k0, p0, a1, k1, p1, a2, k2, p2, a3, k3, p3, rfl, r0, r1, r2, r3, b1⟩
  go_upto_region 2 with fail
  have hb2 := (Below.refl w1.heap.size w1).alloc (Nat.le_refl _) (.cells #[.slice a0 k0 p0, .slice a1 k1 p1, .slice a2 k2 p2, .slice a3 k3 p3] 190)
  have q0 : (w1.alloc (.cells #[.slice a0 k0 p0, .slice a1 k1 p1, .slice a2 k2 p2, .slice a3 k3 p3] 190)).cell? ⟨w1.heap.size, 0, none⟩ = some (.slice a0 k0 p0) := by simp
  have q1 : (w1.alloc (.cells #[.slice a0 k0 p0, .slice a1 k1 p1, .slice a2 k2 p2, .slice a3 k3 p3] 190)).cell? ⟨w1.heap.size, 1, none⟩ = some (.slice a1 k1 p1) := by simp
  have q2 : (w1.alloc (.cells #[.slice a0 k0 p0, .slice a1 k1 p1, .slice a2 k2 p2, .slice a3 k3 p3] 190)).cell? ⟨w1.heap.size, 2, none⟩ = some (.slice a2 k2 p2) := by simp
  have q3 : (w1.alloc (.cells #[.slice a0 k0 p0, .slice a1 k1 p1, .slice a2 k2 p2, .slice a3 k3 p3] 190)).cell? ⟨w1.heap.size, 3, none⟩ = some (.slice a3 k3 p3) := by simp
  have hlt1 : w1.heap.size < (w1.alloc (.cells #[.slice a0 k0 p0, .slice a1 k1 p1, .slice a2 k2 p2, .slice a3 k3 p3] 190)).heap.size := by simp
  have bel : Below w.heap.size w (w1.alloc (.cells #[.slice a0 k0 p0, .slice a1 k1 p1, .slice a2 k2 p2, .slice a3 k3 p3] 190)) := b1.trans (hb2.mono b1.size)
  have R0 := r0.below hb2
  have R1 := r1.below hb2
  have R2 := r2.below hb2
  have R3 := r3.below hb2
  have hgw := b1.size
  generalize w1.alloc (.cells #[.slice a0 k0 p0, .slice a1 k1 p1, .slice a2 k2 p2, .slice a3 k3 p3] 190) = W at *
  generalize w1.heap.size = g at *
  clear r0 r1 r2 r3 b1 hb2
  go_wp2_with fail
  refine (refparts_any _ s hs).mono ?_
  rintro e w2 ⟨rfl, rfl⟩
  generalize mS s = m at *
  generalize eS s = ee at *
  go_wp2_with fail
  refine (magnitude_any _ s h0 hs a0 k0 p0 a1 k1 p1 a2 k2 p2 a3 k3 p3 R0 R3).mono ?_
  rintro e w3 ⟨top, rfl, u1, u2, b3⟩
  have htop : top = p + j := top_unique u1 u2 HT.out.1 HT.out.2
  have htb := leT_bd hs u1
  have HU := Hid.mk' (And.intro u1 u2)
  have y0 := (b3.cell (p := ⟨g, 0, none⟩) hlt1).trans q0
  have y1 := (b3.cell (p := ⟨g, 1, none⟩) hlt1).trans q1
  have y2 := (b3.cell (p := ⟨g, 2, none⟩) hlt1).trans q2
  have y3 := (b3.cell (p := ⟨g, 3, none⟩) hlt1).trans q3
  have hlt3 : g < w3.heap.size := Nat.lt_of_lt_of_le hlt1 b3.size
  have HR := Hid.mk' (And.intro (R0.below b3) (And.intro (R1.below b3) (And.intro (R2.below b3) (R3.below b3))))
  have HB3 := Hid.mk' (bel.trans (b3.mono (Nat.le_of_lt (Nat.lt_of_le_of_lt hgw hlt1))))
  have hgw3 : w.heap.size ≤ w3.heap.size := HB3.out.size
  have HTOP := Hid.mk' htop
  clear q0 q1 q2 q3 hlt1 R0 R1 R2 R3 b3 bel u1 u2 HT
  have htop1 : -450 ≤ top ∧ top ≤ 400 := by omega
  clear htop
  go_wp2_with fail
  go_loopw [9] (fun q wr => ∃ i : Nat, i ≤ j ∧ q = .int .i64 ((i : Int) + 1) ∧ Below w3.heap.size w3 wr) (fun q _ => (18 - intOf q).toNat)
  case atStart => exact ⟨0, Nat.zero_le _, rfl, Below.refl _ _⟩
  case round =>
    obtain ⟨i, hi, rfl, hbel⟩ := hrel
    have z0 := (hbel.cell (p := ⟨g, 0, none⟩) hlt3).trans y0
    have z1 := (hbel.cell (p := ⟨g, 1, none⟩) hlt3).trans y1
    have z2 := (hbel.cell (p := ⟨g, 2, none⟩) hlt3).trans y2
    have z3 := (hbel.cell (p := ⟨g, 3, none⟩) hlt3).trans y3
    have hltr : g < wr.heap.size := Nat.lt_of_lt_of_le hlt3 hbel.size
    have HBE := Hid.mk' hbel
    have HRr := Hid.mk' (And.intro (HR.out.1.below hbel) (And.intro (HR.out.2.1.below hbel) (And.intro (HR.out.2.2.1.below hbel) (HR.out.2.2.2.below hbel))))
    clear hbel
    obtain ⟨K, hK⟩ : ∃ K : Int, top - ((i : Int) + 1) + 1 = K := ⟨_, rfl⟩
    have HK : Hid (K = top - i) := by unfold Hid; omega
    have hK1 : -450 ≤ K ∧ K ≤ 400 := by have := HTOP.out; omega
    obtain ⟨N, B, A, D, hrd⟩ : ∃ (N B A D : Nat), Rnd1 s K N B A D := ⟨_, _, _, _, rnd1_of HU.out.1 HU.out.2 HK.out (by omega)⟩
    have HRD := Hid.mk' hrd
    clear hrd
    go_upto_region 10 with fail
    have smN : SmallB N := by rw [HRD.out.eN]; exact ten_mulB (size_bl hs).1 (by omega)
    have smD9 : SmallB (D * 1000000000) := by
      rw [HRD.out.eD]
      have q1 := bl_mul (oneS s * 10 ^ K.toNat) 1000000000
      have q2 := bl_mul (oneS s) (10 ^ K.toNat)
      have q3 := ten_bl K.toNat
      have q4 := (size_bl hs).2.2.2
      have q5 : bl 1000000000 ≤ 30 := bl_le (n := 1000000000) (k := 30) (by omega)
      exact smallB_of_bl (k := 4000) (by omega) (by omega)
    have hD0 := HRD.out.D0
    obtain ⟨pos, hpos⟩ : ∃ pos : Bool, decide (0 ≤ K) = pos := ⟨_, rfl⟩
    go_cut [46] from 45 to 45 (fun t wx => t = .bool pos ∧ wx = wr)
    case first =>
      go_wp2_with fail
      go_meet
      exact ⟨rfl, rfl⟩
    case rest =>
    obtain ⟨rfl, rfl⟩ := hcut
    apply_assumption
    go_cut [11, 12] from 47 to 53 (fun ta tb wx => ∃ aa ka pa ab kb pb, ta = .slice aa ka pa ∧ tb = .slice ab kb pb ∧ RepB wx 0 (.slice aa ka pa) N ∧ RepB wx 0 (.slice ab kb pb) D ∧ Below wc.heap.size wc wx)
    case first =>
      cases pos
      · obtain ⟨n, hn⟩ : ∃ n : Nat, -K = (n : Int) := ⟨(-K).toNat, by simp at hpos; omega⟩
        have hn2 : n ≤ 450 := by omega
        have HKK : Hid (K.toNat = 0 ∧ (-K).toNat = n) := by simp at hpos; exact ⟨by omega, by omega⟩
        have HE : Hid (-K = (n : Int)) := hn
        clear hn hpos hK
        go_wp2_with fail
        refine (power10_form _ _ (sizeS s) n (-K) HRr.out.1 (by omega) HE.out (ten_mulB (size_bl hs).1 (by omega))).mono ?_
        rintro e w8 ⟨a8, k8, p8, rfl, r8, b8⟩
        go_wp2_with fail
        go_meet
        have e0 : N = sizeS s * 10 ^ n := by rw [HRD.out.eN, HKK.out.2]
        have e3 : D = oneS s := by rw [HRD.out.eD, HKK.out.1]; simp
        rw [e0, e3]
        exact ⟨_, _, _, _, _, _, rfl, rfl, r8, HRr.out.2.2.2.below b8, b8⟩
      · obtain ⟨n, hn⟩ : ∃ n : Nat, K = (n : Int) := ⟨K.toNat, by simp at hpos; omega⟩
        have hn2 : n ≤ 450 := by omega
        have HKK : Hid (K.toNat = n ∧ (-K).toNat = 0) := ⟨by omega, by omega⟩
        have HE : Hid (K = (n : Int)) := hn
        clear hn hpos hK
        go_wp2_with fail
        refine (power10_form _ _ (oneS s) n K HRr.out.2.2.2 (by omega) HE.out (ten_mulB (size_bl hs).2.2.2 (by omega))).mono ?_
        rintro e w8 ⟨a8, k8, p8, rfl, r8, b8⟩
        go_wp2_with fail
        go_meet
        have e0 : N = sizeS s := by rw [HRD.out.eN, HKK.out.2]; simp
        have e3 : D = oneS s * 10 ^ n := by rw [HRD.out.eD, HKK.out.1]
        rw [e0, e3]
        exact ⟨_, _, _, _, _, _, rfl, rfl, HRr.out.1.below b8, r8, b8⟩
    case rest =>
    obtain ⟨aa, ka, pa, ab, kb, pb, rfl, rfl, ra, rb, bx⟩ := hcut
    clear hpos
    have HRA := Hid.mk' ra
    have HRB := Hid.mk' rb
    clear ra rb
    go_wp2_with fail
    refine (divided_form _ _ _ N D HRA.out HRB.out hD0 smN smD9).mono ?_
    rintro e wd ⟨al, kl, pl, rfl, rl, bd⟩
    have HRL := Hid.mk' rl
    have HBD := Hid.mk' bd
    have HBX := Hid.mk' bx
    clear rl bd bx HRA HRB
    go_wp2_with fail
    refine (small_form _ 1 (by omega)).mono ?_
    rintro e wb ⟨ao, ko, po, rfl, ro, bo⟩
    obtain ⟨lo, hlo⟩ : ∃ lo, N / D = lo := ⟨_, rfl⟩
    have HLO := Hid.mk' hlo
    have hlo1 : 1 ≤ lo := by rw [← hlo, Nat.le_div_iff_mul_le (Nat.pos_of_ne_zero hD0), Nat.one_mul]; exact HRD.out.le
    have hlo2 : lo < 1000000000000000000 := by rw [← hlo]; exact HRD.out.lt
    have smlo : SmallB lo := SmallB.of_lt (k := 60) (by omega) (by omega)
    have blo : bl lo ≤ 60 := bl_le (n := lo) (k := 60) (by omega)
    have bhi : bl (lo + 1) ≤ 60 := bl_le (n := lo + 1) (k := 60) (by omega)
    have smo : SmallB 1 := SmallB.of_lt (k := 1) (by omega) (by omega)
    rw [hlo] at HRL
    have HRO := Hid.mk' (ro.base (Nat.zero_le _))
    have HRL2 := Hid.mk' ((HRL.out.base (Nat.zero_le _)).below bo)
    have HBO := Hid.mk' bo
    clear ro bo HRL hlo
    go_wp2_with fail
    refine (plus_form _ (.slice al kl pl) (.slice ao ko po) lo 1 HRL2.out HRO.out smlo smo).mono ?_
    rintro e wp ⟨ah, kh, ph, rfl, rh, bh⟩
    have s1 := Nat.le_trans HBX.out.size HBD.out.size
    have bAll := ((HBX.out.trans (HBD.out.mono HBX.out.size)).trans (HBO.out.mono s1)).trans (bh.mono (Nat.le_trans s1 HBO.out.size))
    have x0 := (bAll.cell (p := ⟨g, 0, none⟩) hltr).trans z0
    have x1 := (bAll.cell (p := ⟨g, 1, none⟩) hltr).trans z1
    have x2 := (bAll.cell (p := ⟨g, 2, none⟩) hltr).trans z2
    have x3 := (bAll.cell (p := ⟨g, 3, none⟩) hltr).trans z3
    have hltp : g < wp.heap.size := Nat.lt_of_lt_of_le hltr bAll.size
    have HRp := Hid.mk' (And.intro (HRr.out.1.below bAll) (And.intro (HRr.out.2.1.below bAll) (And.intro (HRr.out.2.2.1.below bAll) (HRr.out.2.2.2.below bAll))))
    have HLp := Hid.mk' (HRL2.out.below bh)
    have HHp := Hid.mk' (rh.base (Nat.zero_le _))
    have HBp := Hid.mk' (HBE.out.trans (bAll.mono HBE.out.size))
    clear z0 z1 z2 z3 hltr HRr HRL2 HRO HBO HBX HBD HBE rh bh bAll s1
    obtain ⟨down, hdown⟩ : ∃ down, N % D = down := ⟨_, rfl⟩
    obtain ⟨up, hup⟩ : ∃ up, D - down = up := ⟨_, rfl⟩
    obtain ⟨il, hil⟩ : ∃ il, inS down B ev = il := ⟨_, rfl⟩
    obtain ⟨ih, hih⟩ : ∃ ih, inS up A ev = ih := ⟨_, rfl⟩
    have HIL := Hid.mk' hil
    have HIH := Hid.mk' hih
    have HDO := Hid.mk' hdown
    have HUP := Hid.mk' hup
    obtain ⟨bS, bB, bA, bO⟩ := size_bl hs
    have hw1 := within_ref wp a0 k0 p0 a1 k1 p1 a2 k2 p2 a3 k3 p3 al kl pl (sizeS s) (belowS s) (aboveS s) (oneS s) lo K ev (lo * D) N B A HRp.out.1 HRp.out.2.1 HRp.out.2.2.1 HRp.out.2.2.2 HLp.out (by omega) (by omega) (Nat.ne_of_gt (size_ne h0)) (Nat.ne_of_gt (below_pos s)) (Nat.ne_of_gt (above_pos s)) bS bB bA bO (by omega) (by rw [HRD.out.eD]; ac_rfl) HRD.out.eN HRD.out.eB HRD.out.eA
    have g1 : gap (lo * D) N = down := by rw [← HLO.out, gap_low hD0, hdown]
    have g2 : inS (gap (lo * D) N) (reach (lo * D) N B A) ev = il := by rw [← HLO.out, in_low hD0 HRD.out.B0 HRD.out.A0, hdown, hil]
    rw [g2, g1] at hw1
    clear g1 g2
    go_wp2_with fail
    refine hw1.mono ?_
    rintro e wi ⟨af, kf, pf, rfl, rf, smf, bf⟩
    clear hw1
    have v0 := (bf.cell (p := ⟨g, 0, none⟩) hltp).trans x0
    have v1 := (bf.cell (p := ⟨g, 1, none⟩) hltp).trans x1
    have v2 := (bf.cell (p := ⟨g, 2, none⟩) hltp).trans x2
    have v3 := (bf.cell (p := ⟨g, 3, none⟩) hltp).trans x3
    have hlti : g < wi.heap.size := Nat.lt_of_lt_of_le hltp bf.size
    have HRi := Hid.mk' (And.intro (HRp.out.1.below bf) (And.intro (HRp.out.2.1.below bf) (And.intro (HRp.out.2.2.1.below bf) (HRp.out.2.2.2.below bf))))
    have HLi := Hid.mk' (HLp.out.below bf)
    have HHi := Hid.mk' (HHp.out.below bf)
    have HBi := Hid.mk' (HBp.out.trans (bf.mono HBp.out.size))
    have HFi := Hid.mk' rf
    clear x0 x1 x2 x3 hltp HRp HLp HHp HBp rf bf
    have hw2 := within_ref wi a0 k0 p0 a1 k1 p1 a2 k2 p2 a3 k3 p3 ah kh ph (sizeS s) (belowS s) (aboveS s) (oneS s) (lo + 1) K ev ((lo + 1) * D) N B A HRi.out.1 HRi.out.2.1 HRi.out.2.2.1 HRi.out.2.2.2 HHi.out (by omega) (by omega) (Nat.ne_of_gt (size_ne h0)) (Nat.ne_of_gt (below_pos s)) (Nat.ne_of_gt (above_pos s)) bS bB bA bO (by omega) (by rw [HRD.out.eD]; ac_rfl) HRD.out.eN HRD.out.eB HRD.out.eA
    have g1 : gap ((lo + 1) * D) N = up := by rw [← HLO.out, gap_high hD0, hdown, hup]
    have g2 : inS (gap ((lo + 1) * D) N) (reach ((lo + 1) * D) N B A) ev = ih := by rw [← HLO.out, in_high hD0, hdown, hup, hih]
    rw [g2, g1] at hw2
    clear g1 g2
    go_wp2_with fail
    refine hw2.mono ?_
    rintro e wn ⟨an, kn, pn, rfl, rn, smn, bn⟩
    clear hw2
    have HVL := Hid.mk' (HLi.out.below bn)
    have HVH := Hid.mk' (HHi.out.below bn)
    have HVF := Hid.mk' (HFi.out.below bn)
    have HVN := Hid.mk' rn
    have HBn := Hid.mk' (HBi.out.trans (bn.mono HBi.out.size))
    have HBF := Hid.mk' (HB3.out.trans (HBn.out.mono hgw3))
    clear v0 v1 v2 v3 hlti HRi HLi HHi HBi HFi rn bn bS bB bA bO
    obtain ⟨gl, x, hal, hkl1, hkl2, hcl, hpar, hxb, hgl⟩ := HVL.out.head (by omega) smlo
    subst hal
    obtain ⟨odd, hodd⟩ : ∃ odd : Bool, ((x : Int) % 2 == 1) = odd := ⟨_, rfl⟩
    have HOD : Hid (odd = decide (lo % 2 = 1)) := by
      unfold Hid
      rw [← hodd]
      by_cases h : lo % 2 = 1
      · rw [decide_eq_true h]; simp; omega
      · rw [decide_eq_false h]; simp; omega
    have HPK : Hid (PK s K = pickO N B A D ev) := by
      unfold Hid PK
      rw [← HRD.out.eN, ← HRD.out.eB, ← HRD.out.eA, ← HRD.out.eD, HEV.out]
    have HSTEP : Hid (∀ y, PK s K = some y → i = j ∧ y = d) := by
      intro y hy
      have e1 := HK.out
      have e2 := HTOP.out
      by_cases hij : i < j
      · have := HS2.out i hij
        rw [show p + (j : Int) - i = K by omega, hy] at this
        simp at this
      · have hij' : i = j := by omega
        have := HS1.out
        rw [show p = K by omega, hy] at this
        exact ⟨hij', by simpa using this⟩
    have HNONE : Hid (PK s K = none → i < j) := by
      intro hy
      have e1 := HK.out
      have e2 := HTOP.out
      by_cases hij : i < j
      · exact hij
      · have := HS1.out
        rw [show p = K by omega, hy] at this
        simp at this
    have smd : SmallB d := SmallB.of_lt (k := 60) (by omega) (by omega)
    have hdl : (Lib.decDigits d).length ≤ 30 := Nat.le_trans (dd_len (u := d) (k := 18) (by omega) (by omega)) (by omega)
    clear hpar hlo1 hlo2 smN smD9 hD0 hdown hup hil hih hK
    cases il <;> cases ih
    · have hij := HNONE.out (HPK.out.trans (pick_none HLO.out HDO.out HUP.out HIL.out HIH.out))
      go_wp2_with fail
      go_roundw
      case rel => exact ⟨i + 1, by omega, by go_num, HBn.out⟩
      case measure => simp [intOf]; omega
    · go_wp2_with fail
      refine (compareB_rep _ _ _ up down HVN.out HVF.out smn).mono ?_
      rintro e wo ⟨rfl, nq, rfl⟩
      have hdr := below_drewN (Below.refl wn.heap.size wn) nq
      have hclq := (hdr.cell (p := ⟨gl, 0, none⟩) hgl).trans hcl
      have HVL := Hid.mk' (HVL.out.below hdr)
      have HVH := Hid.mk' (HVH.out.below hdr)
      have HBF := Hid.mk' (HBF.out.trans (hdr.mono HBF.out.size))
      clear hcl hgl hdr HBn HVN HVF
      generalize wn.drewN nq = wq at *
      generalize cmpI (up : Int) (down : Int) = cc at *
      have hx : i = j ∧ lo + 1 = d := HSTEP.out _ (HPK.out.trans (pick_upper HLO.out HDO.out HUP.out HIL.out HIH.out))
      have rx : RepB _ 0 (.slice ah kh ph) d := hx.2 ▸ HVH.out
      have HX := Hid.mk' hx
      clear hx
      go_wp2_with fail
      refine (decimals_any _ _ d rx smd (by omega)).mono ?_
      rintro e wz ⟨t, rfl, ht, bz⟩
      have hts := bytes_size ht
      have hts2 : t.size ≤ 30 := by rw [hts]; exact hdl
      go_wp2_with fail
      go_ret2
      refine ⟨t, tupS ?_, ht, HBF.out.trans (bz.mono HBF.out.size)⟩
      have e1 := HK.out
      have e2 := HTOP.out
      have e3 := HX.out.1
      omega
    · have hx : i = j ∧ lo = d := HSTEP.out _ (HPK.out.trans (pick_lower HLO.out HDO.out HUP.out HIL.out HIH.out))
      have rx : RepB _ 0 (.slice (some ⟨gl, 0, none⟩) kl pl) d := hx.2 ▸ HVL.out
      have HX := Hid.mk' hx
      clear hx
      go_wp2_with fail
      refine (decimals_any _ _ d rx smd (by omega)).mono ?_
      rintro e wz ⟨t, rfl, ht, bz⟩
      have hts := bytes_size ht
      have hts2 : t.size ≤ 30 := by rw [hts]; exact hdl
      go_wp2_with fail
      go_ret2
      refine ⟨t, tupS ?_, ht, HBF.out.trans (bz.mono HBF.out.size)⟩
      have e1 := HK.out
      have e2 := HTOP.out
      have e3 := HX.out.1
      omega
    · go_wp2_with fail
      refine (compareB_rep _ _ _ up down HVN.out HVF.out smn).mono ?_
      rintro e wo ⟨rfl, nq, rfl⟩
      have hdr := below_drewN (Below.refl wn.heap.size wn) nq
      have hclq := (hdr.cell (p := ⟨gl, 0, none⟩) hgl).trans hcl
      have HVL := Hid.mk' (HVL.out.below hdr)
      have HVH := Hid.mk' (HVH.out.below hdr)
      have HBF := Hid.mk' (HBF.out.trans (hdr.mono HBF.out.size))
      clear hcl hgl hdr HBn HVN HVF
      generalize wn.drewN nq = wq at *
      rcases Nat.lt_trichotomy up down with hud | hud | hud
      · rw [cmpI_lt (by omega)]
        have hns : nearS lo down up = 1 := by unfold nearS; rw [if_neg (by omega), if_pos hud]
        have HPB : Hid (pickO N B A D ev = some (lo + 1)) := by unfold Hid; rw [pick_both HLO.out HDO.out HUP.out HIL.out HIH.out, hns]
        clear hns hud
        have hx : i = j ∧ lo + 1 = d := HSTEP.out _ (HPK.out.trans (HPB.out))
        have rx : RepB _ 0 (.slice ah kh ph) d := hx.2 ▸ HVH.out
        have HX := Hid.mk' hx
        clear hx
        go_wp2_with fail
        refine (decimals_any _ _ d rx smd (by omega)).mono ?_
        rintro e wz ⟨t, rfl, ht, bz⟩
        have hts := bytes_size ht
        have hts2 : t.size ≤ 30 := by rw [hts]; exact hdl
        go_wp2_with fail
        go_ret2
        refine ⟨t, tupS ?_, ht, HBF.out.trans (bz.mono HBF.out.size)⟩
        have e1 := HK.out
        have e2 := HTOP.out
        have e3 := HX.out.1
        omega
      · rw [cmpI_eq (by omega)]
        have hns : nearS lo down up = lo % 2 := by unfold nearS; rw [if_neg (by omega), if_neg (by omega)]
        cases odd
        · have hl2 : lo % 2 = 0 := by
            have := HOD.out
            have h2 : ¬ lo % 2 = 1 := of_decide_eq_false this.symm
            omega
          have HPB : Hid (pickO N B A D ev = some lo) := by unfold Hid; rw [pick_both HLO.out HDO.out HUP.out HIL.out HIH.out, hns, hl2]; rfl
          clear hns hud hl2
          have hx : i = j ∧ lo = d := HSTEP.out _ (HPK.out.trans (HPB.out))
          have rx : RepB _ 0 (.slice (some ⟨gl, 0, none⟩) kl pl) d := hx.2 ▸ HVL.out
          have HX := Hid.mk' hx
          clear hx
          go_wp2_with fail
          refine (decimals_any _ _ d rx smd (by omega)).mono ?_
          rintro e wz ⟨t, rfl, ht, bz⟩
          have hts := bytes_size ht
          have hts2 : t.size ≤ 30 := by rw [hts]; exact hdl
          go_wp2_with fail
          go_ret2
          refine ⟨t, tupS ?_, ht, HBF.out.trans (bz.mono HBF.out.size)⟩
          have e1 := HK.out
          have e2 := HTOP.out
          have e3 := HX.out.1
          omega
        · have hl2 : lo % 2 = 1 := of_decide_eq_true HOD.out.symm
          have HPB : Hid (pickO N B A D ev = some (lo + 1)) := by unfold Hid; rw [pick_both HLO.out HDO.out HUP.out HIL.out HIH.out, hns, hl2]
          clear hns hud hl2
          have hx : i = j ∧ lo + 1 = d := HSTEP.out _ (HPK.out.trans (HPB.out))
          have rx : RepB _ 0 (.slice ah kh ph) d := hx.2 ▸ HVH.out
          have HX := Hid.mk' hx
          clear hx
          go_wp2_with fail
          refine (decimals_any _ _ d rx smd (by omega)).mono ?_
          rintro e wz ⟨t, rfl, ht, bz⟩
          have hts := bytes_size ht
          have hts2 : t.size ≤ 30 := by rw [hts]; exact hdl
          go_wp2_with fail
          go_ret2
          refine ⟨t, tupS ?_, ht, HBF.out.trans (bz.mono HBF.out.size)⟩
          have e1 := HK.out
          have e2 := HTOP.out
          have e3 := HX.out.1
          omega
      · rw [cmpI_gt (by omega)]
        have hns : nearS lo down up = 0 := by unfold nearS; rw [if_pos hud]
        have HPB : Hid (pickO N B A D ev = some lo) := by unfold Hid; rw [pick_both HLO.out HDO.out HUP.out HIL.out HIH.out, hns]; rfl
        clear hns hud
        have hx : i = j ∧ lo = d := HSTEP.out _ (HPK.out.trans (HPB.out))
        have rx : RepB _ 0 (.slice (some ⟨gl, 0, none⟩) kl pl) d := hx.2 ▸ HVL.out
        have HX := Hid.mk' hx
        clear hx
        go_wp2_with fail
        refine (decimals_any _ _ d rx smd (by omega)).mono ?_
        rintro e wz ⟨t, rfl, ht, bz⟩
        have hts := bytes_size ht
        have hts2 : t.size ≤ 30 := by rw [hts]; exact hdl
        go_wp2_with fail
        go_ret2
        refine ⟨t, tupS ?_, ht, HBF.out.trans (bz.mono HBF.out.size)⟩
        have e1 := HK.out
        have e2 := HTOP.out
        have e3 := HX.out.1
        omega

end Go.Proofs.YthdcceackfdbbaaGreatDoor
/- Walks: the reference's Print; Prints. Own text. -/
namespace Go.Proofs.YthdcceackfdbbaaGreatDoor
open Go.RowKit
attribute [local go_sem ↓] Go.wp_at_zero Go.wp_at_succ

theorem drop_zeros (z : Nat) (l : List UInt8) : (List.replicate z 48 ++ l).dropWhile (· == 48) = l.dropWhile (· == 48) := by
  induction z with
  | zero => rfl
  | succ z ih => rw [List.replicate_succ, List.cons_append, List.dropWhile_cons_of_pos (by rfl), ih]

theorem trim_end {F r : List UInt8} {y : UInt8} {z : Nat} (h : F = r ++ [y] ++ List.replicate z 48) (hy : y.toNat ≠ 48) : Lib.trimRightB F 48 = r ++ [y] := by
  have hb : (y == 48) = false := by
    cases hc : y == 48
    · rfl
    · rw [eq_of_beq hc] at hy; exact absurd rfl hy
  unfold Lib.trimRightB
  rw [h, List.reverse_append, List.reverse_replicate, drop_zeros, List.reverse_append, List.reverse_singleton, List.singleton_append, List.dropWhile_cons_of_neg (by simp [hb])]
  simp

theorem last_of {u : ByteArray} {n : Nat} (h : u.size = n + 2) : ∃ r y, u.data.toList = r ++ [y] ∧ r.length = n + 1 ∧ (∀ h' : n + 1 < u.size, u[n + 1] = y) ∧ (u.extract 0 (n + 1)).data.toList = r := by
  have hl : u.data.toList.length = n + 2 := by rw [← h]; simp
  have hne : u.data.toList ≠ [] := by intro e; rw [e] at hl; simp at hl
  have e := (List.dropLast_concat_getLast hne).symm
  have hr : u.data.toList.dropLast.length = n + 1 := by rw [List.length_dropLast]; omega
  refine ⟨u.data.toList.dropLast, u.data.toList.getLast hne, e, hr, ?_, ?_⟩
  · intro h'
    have q := take_get h'
    rw [e, List.getElem?_append_right (by omega), hr] at q
    simpa using q.symm
  · rw [extract_take]
    conv => lhs; rw [e]
    rw [List.take_append_of_le_length (by omega), List.take_of_length_le (by omega)]

theorem pt_one {r : ByteArray} (h : r.size = 1) : (r.extract 0 1).data.toList = ptL r.data.toList := by
  have hl : r.data.toList.length = 1 := by rw [← h]; simp
  rw [extract_take, ptL, if_neg (by omega), List.take_of_length_le (by omega)]

set_option maxRecDepth 20000 in
set_option maxHeartbeats 3200000 in
theorem refprint_any (w : World) (x : Nat) (l : List UInt8) (hx : x < 18446744073709551616) (hl : PrintOk x l) :
    Calls Tryz.prog 59 #[.int .u64 (x : Int)] w fun e w' => ∃ t : ByteArray, e = .returned (.string t) ∧ t.data.toList = l ∧ Below w.heap.size w w' := by
  have h1 := andNot_sign hx
  have h2 := and_sign hx
  obtain ⟨s, hs⟩ : ∃ s, x % 9223372036854775808 = s := ⟨_, rfl⟩
  have hs2 : s < 9223372036854775808 := by omega
  unfold PrintOk at hl
  rw [hs] at h1 hl
  clear hs
  by_cases hg : 9223372036854775808 ≤ x
  · rw [if_pos hg] at h2
    have hb : (bits BinOp.and IntKind.u64 (x : Int) 9223372036854775808 != 0) = true := by rw [h2]; rfl
    have HG : Hid (sgL x = [45]) := by unfold Hid sgL; rw [if_pos hg]
    clear h2 hg
    rcases hl with ⟨c1, rfl⟩ | ⟨c2, rfl⟩ | ⟨c3, rfl⟩ | ⟨c3, c4, d, p, hsa, rfl⟩
    · have c1b : decide ((9218868437227405312 : Int) < (s : Int)) = true := by simp; omega
      go_enter Tryz.func59, Tryz.ntmps59
      go_wp2
      go_ret
      exact ⟨_, rfl, rfl, Below.refl _ _⟩
    · have c1b : decide ((9218868437227405312 : Int) < (s : Int)) = false := by simp; omega
      have c2b : ((s : Int) == 9218868437227405312) = true := by simp; omega
      clear c2
      go_enter Tryz.func59, Tryz.ntmps59
      go_wp2
      go_ret
      exact ⟨_, rfl, by rw [HG.out]; rfl, Below.refl _ _⟩
    · have c1b : decide ((9218868437227405312 : Int) < (s : Int)) = false := by simp; omega
      have c2b : ((s : Int) == 9218868437227405312) = false := by simp; omega
      have c3b : ((s : Int) == 0) = true := by simp; omega
      clear c3
      go_enter Tryz.func59, Tryz.ntmps59
      go_wp2
      go_ret
      exact ⟨_, rfl, by rw [HG.out]; rfl, Below.refl _ _⟩
    · have c1b : decide ((9218868437227405312 : Int) < (s : Int)) = false := by simp; omega
      have c2b : ((s : Int) == 9218868437227405312) = false := by simp; omega
      have c3b : ((s : Int) == 0) = false := by simp; omega
      obtain ⟨d1, d2, _, _⟩ := hsa.bd
      obtain ⟨p1, p2⟩ := hsa.pow c3 c4
      have hlen : (Lib.decDigits d).length ≤ 18 := dd_len (by omega) (by omega)
      have HOUT : Hid (outL d p = ptL (Lib.trimRightB (Lib.decDigits d) 48) ++ 101 :: Lib.itoa (p + ((Lib.decDigits d).length : Int) - 1)) := rfl
      obtain ⟨_, _, hhead, hnil⟩ := dd_all d
      have HH := Hid.mk' (hhead (by omega))
      have HNIL := Hid.mk' hnil
      clear hhead hnil
      go_enter Tryz.func59, Tryz.ntmps59
      go_wp2_with fail
      refine (refshort_any _ s d p c3 c4 hsa).mono ?_
      rintro e w1 ⟨t, rfl, ht, b1⟩
      have hts := bytes_size ht
      have hts1 : 1 ≤ t.size := by rw [hts]; exact List.length_pos_iff.2 HNIL.out
      have hts2 : t.size ≤ 30 := by omega
      obtain ⟨E, hE⟩ : ∃ E : Int, p + ((Lib.decDigits d).length : Int) - 1 = E := ⟨_, rfl⟩
      have hE1 : -100000 ≤ E := by omega
      have hE2 : E ≤ 100000 := by omega
      rw [hE] at HOUT ⊢
      generalize Lib.decDigits d = F at *
      have HT := Hid.mk' ht
      have HB1 := Hid.mk' b1
      clear ht b1 hts hE hsa
      go_wp2_with fail
      go_loop [5] (fun q => ∃ u : ByteArray, q = .string u ∧ 1 ≤ u.size ∧ u.size ≤ 30 ∧ ∃ z, F = u.data.toList ++ List.replicate z 48) (fun q => strSz q)
      case atStart => exact ⟨t, rfl, hts1, hts2, 0, by rw [HT.out]; simp⟩
      case round =>
        obtain ⟨u, rfl, hu1, hu2, z, hz⟩ := hrel
        have HZ := Hid.mk' hz
        clear hz
        by_cases hsz : 1 < u.size
        · obtain ⟨n, hn⟩ : ∃ n, u.size = n + 2 := ⟨u.size - 2, by omega⟩
          obtain ⟨r, y, hr1, hr2, hr3, hr4⟩ := last_of hn
          have HR := Hid.mk' (And.intro hr1 (And.intro hr2 hr4))
          have hlast := hr3 (by omega)
          clear hr1 hr2 hr4 hr3
          by_cases hy : y.toNat = 48
          · have hbl : ∀ (h : n + 1 < u.size), ((u[n + 1].toNat : Int) == 48) = true := by intro h; rw [hlast, hy]; rfl
            have hbl2 := hbl (by omega)
            clear hbl hlast
            go_wp2_with fail
            go_round
            case rel =>
              have hs' := bytes_size HR.out.2.2
              refine ⟨u.extract 0 (n + 1), rfl, by rw [hs', HR.out.2.1]; omega, by rw [hs', HR.out.2.1]; omega, z + 1, ?_⟩
              rw [HR.out.2.2, HZ.out, HR.out.1, List.replicate_succ, List.append_assoc, show y = 48 from UInt8.toNat_inj.1 hy]
              rfl
            case measure =>
              have hs' := bytes_size HR.out.2.2
              simp only [strSz]
              first | (show (u.extract 0 (n + 1)).size < u.size; rw [hs', HR.out.2.1]; omega) | (simp; omega)
          · have hbl : ∀ (h : n + 1 < u.size), ((u[n + 1].toNat : Int) == 48) = false := by intro h; rw [hlast]; simp; omega
            have hbl2 := hbl (by omega)
            have HF : Hid (Lib.trimRightB F 48 = u.data.toList) := by
              unfold Hid
              rw [HR.out.1]
              exact trim_end (by rw [← HR.out.1]; exact HZ.out) hy
            have hi1 : (1 : Int) ≤ (u.size : Int) := by omega
            clear hbl hlast
            go_wp2_with fail
            refine (count_any _ E hE1 hE2).mono ?_
            rintro e w2 ⟨q, rfl, hq, b2⟩
            have hqs : q.size ≤ 7 := by rw [bytes_size hq]; exact itoa_len (by omega) (by omega)
            have HQ := Hid.mk' hq
            clear hq
            go_wp2_with fail
            go_ret
            refine ⟨_, rfl, ?_, HB1.out.trans (b2.mono HB1.out.size)⟩
            have e1 := lay_dot (r := u) (by omega)
            rw [bytes_append_list, bytes_append_list, dotB_list] at e1
            simp only [bytes_append_list]
            rw [HOUT.out, HF.out, ← e1, HQ.out, HG.out]
            simp
            omega
        · have hsz1 : u.size = 1 := by omega
          obtain ⟨c, hc⟩ : ∃ c, u.data.toList = [c] := by
            have hl : u.data.toList.length = 1 := by rw [← hsz1]; simp
            exact List.length_eq_one_iff.1 hl
          have HF : Hid (Lib.trimRightB F 48 = u.data.toList) := by
            unfold Hid
            rw [hc]
            have hzz := HZ.out
            rw [hc] at hzz
            exact trim_end (r := []) (y := c) (z := z) (by simpa using hzz) (HH.out c (List.replicate z 48) (by simpa using hzz))
          clear hc
          go_wp2_with fail
          refine (count_any _ E hE1 hE2).mono ?_
          rintro e w2 ⟨q, rfl, hq, b2⟩
          have hqs : q.size ≤ 7 := by rw [bytes_size hq]; exact itoa_len (by omega) (by omega)
          have HQ := Hid.mk' hq
          clear hq
          go_wp2_with fail
          go_ret
          refine ⟨_, rfl, ?_, HB1.out.trans (b2.mono HB1.out.size)⟩
          have e1 := pt_one hsz1
          simp only [bytes_append_list]
          rw [HOUT.out, HF.out, ← e1, HQ.out, HG.out]
          simp
  · rw [if_neg hg] at h2
    have hb : (bits BinOp.and IntKind.u64 (x : Int) 9223372036854775808 != 0) = false := by rw [h2]; rfl
    have HG : Hid (sgL x = []) := by unfold Hid sgL; rw [if_neg hg]
    clear h2 hg
    rcases hl with ⟨c1, rfl⟩ | ⟨c2, rfl⟩ | ⟨c3, rfl⟩ | ⟨c3, c4, d, p, hsa, rfl⟩
    · have c1b : decide ((9218868437227405312 : Int) < (s : Int)) = true := by simp; omega
      go_enter Tryz.func59, Tryz.ntmps59
      go_wp2
      go_ret
      exact ⟨_, rfl, rfl, Below.refl _ _⟩
    · have c1b : decide ((9218868437227405312 : Int) < (s : Int)) = false := by simp; omega
      have c2b : ((s : Int) == 9218868437227405312) = true := by simp; omega
      clear c2
      go_enter Tryz.func59, Tryz.ntmps59
      go_wp2
      go_ret
      exact ⟨_, rfl, by rw [HG.out]; rfl, Below.refl _ _⟩
    · have c1b : decide ((9218868437227405312 : Int) < (s : Int)) = false := by simp; omega
      have c2b : ((s : Int) == 9218868437227405312) = false := by simp; omega
      have c3b : ((s : Int) == 0) = true := by simp; omega
      clear c3
      go_enter Tryz.func59, Tryz.ntmps59
      go_wp2
      go_ret
      exact ⟨_, rfl, by rw [HG.out]; rfl, Below.refl _ _⟩
    · have c1b : decide ((9218868437227405312 : Int) < (s : Int)) = false := by simp; omega
      have c2b : ((s : Int) == 9218868437227405312) = false := by simp; omega
      have c3b : ((s : Int) == 0) = false := by simp; omega
      obtain ⟨d1, d2, _, _⟩ := hsa.bd
      obtain ⟨p1, p2⟩ := hsa.pow c3 c4
      have hlen : (Lib.decDigits d).length ≤ 18 := dd_len (by omega) (by omega)
      have HOUT : Hid (outL d p = ptL (Lib.trimRightB (Lib.decDigits d) 48) ++ 101 :: Lib.itoa (p + ((Lib.decDigits d).length : Int) - 1)) := rfl
      obtain ⟨_, _, hhead, hnil⟩ := dd_all d
      have HH := Hid.mk' (hhead (by omega))
      have HNIL := Hid.mk' hnil
      clear hhead hnil
      go_enter Tryz.func59, Tryz.ntmps59
      go_wp2_with fail
      refine (refshort_any _ s d p c3 c4 hsa).mono ?_
      rintro e w1 ⟨t, rfl, ht, b1⟩
      have hts := bytes_size ht
      have hts1 : 1 ≤ t.size := by rw [hts]; exact List.length_pos_iff.2 HNIL.out
      have hts2 : t.size ≤ 30 := by omega
      obtain ⟨E, hE⟩ : ∃ E : Int, p + ((Lib.decDigits d).length : Int) - 1 = E := ⟨_, rfl⟩
      have hE1 : -100000 ≤ E := by omega
      have hE2 : E ≤ 100000 := by omega
      rw [hE] at HOUT ⊢
      generalize Lib.decDigits d = F at *
      have HT := Hid.mk' ht
      have HB1 := Hid.mk' b1
      clear ht b1 hts hE hsa
      go_wp2_with fail
      go_loop [5] (fun q => ∃ u : ByteArray, q = .string u ∧ 1 ≤ u.size ∧ u.size ≤ 30 ∧ ∃ z, F = u.data.toList ++ List.replicate z 48) (fun q => strSz q)
      case atStart => exact ⟨t, rfl, hts1, hts2, 0, by rw [HT.out]; simp⟩
      case round =>
        obtain ⟨u, rfl, hu1, hu2, z, hz⟩ := hrel
        have HZ := Hid.mk' hz
        clear hz
        by_cases hsz : 1 < u.size
        · obtain ⟨n, hn⟩ : ∃ n, u.size = n + 2 := ⟨u.size - 2, by omega⟩
          obtain ⟨r, y, hr1, hr2, hr3, hr4⟩ := last_of hn
          have HR := Hid.mk' (And.intro hr1 (And.intro hr2 hr4))
          have hlast := hr3 (by omega)
          clear hr1 hr2 hr4 hr3
          by_cases hy : y.toNat = 48
          · have hbl : ∀ (h : n + 1 < u.size), ((u[n + 1].toNat : Int) == 48) = true := by intro h; rw [hlast, hy]; rfl
            have hbl2 := hbl (by omega)
            clear hbl hlast
            go_wp2_with fail
            go_round
            case rel =>
              have hs' := bytes_size HR.out.2.2
              refine ⟨u.extract 0 (n + 1), rfl, by rw [hs', HR.out.2.1]; omega, by rw [hs', HR.out.2.1]; omega, z + 1, ?_⟩
              rw [HR.out.2.2, HZ.out, HR.out.1, List.replicate_succ, List.append_assoc, show y = 48 from UInt8.toNat_inj.1 hy]
              rfl
            case measure =>
              have hs' := bytes_size HR.out.2.2
              simp only [strSz]
              first | (show (u.extract 0 (n + 1)).size < u.size; rw [hs', HR.out.2.1]; omega) | (simp; omega)
          · have hbl : ∀ (h : n + 1 < u.size), ((u[n + 1].toNat : Int) == 48) = false := by intro h; rw [hlast]; simp; omega
            have hbl2 := hbl (by omega)
            have HF : Hid (Lib.trimRightB F 48 = u.data.toList) := by
              unfold Hid
              rw [HR.out.1]
              exact trim_end (by rw [← HR.out.1]; exact HZ.out) hy
            have hi1 : (1 : Int) ≤ (u.size : Int) := by omega
            clear hbl hlast
            go_wp2_with fail
            refine (count_any _ E hE1 hE2).mono ?_
            rintro e w2 ⟨q, rfl, hq, b2⟩
            have hqs : q.size ≤ 7 := by rw [bytes_size hq]; exact itoa_len (by omega) (by omega)
            have HQ := Hid.mk' hq
            clear hq
            go_wp2_with fail
            go_ret
            refine ⟨_, rfl, ?_, HB1.out.trans (b2.mono HB1.out.size)⟩
            have e1 := lay_dot (r := u) (by omega)
            rw [bytes_append_list, bytes_append_list, dotB_list] at e1
            simp only [bytes_append_list]
            rw [HOUT.out, HF.out, ← e1, HQ.out, HG.out]
            simp
            omega
        · have hsz1 : u.size = 1 := by omega
          obtain ⟨c, hc⟩ : ∃ c, u.data.toList = [c] := by
            have hl : u.data.toList.length = 1 := by rw [← hsz1]; simp
            exact List.length_eq_one_iff.1 hl
          have HF : Hid (Lib.trimRightB F 48 = u.data.toList) := by
            unfold Hid
            rw [hc]
            have hzz := HZ.out
            rw [hc] at hzz
            exact trim_end (r := []) (y := c) (z := z) (by simpa using hzz) (HH.out c (List.replicate z 48) (by simpa using hzz))
          clear hc
          go_wp2_with fail
          refine (count_any _ E hE1 hE2).mono ?_
          rintro e w2 ⟨q, rfl, hq, b2⟩
          have hqs : q.size ≤ 7 := by rw [bytes_size hq]; exact itoa_len (by omega) (by omega)
          have HQ := Hid.mk' hq
          clear hq
          go_wp2_with fail
          go_ret
          refine ⟨_, rfl, ?_, HB1.out.trans (b2.mono HB1.out.size)⟩
          have e1 := pt_one hsz1
          simp only [bytes_append_list]
          rw [HOUT.out, HF.out, ← e1, HQ.out, HG.out]
          simp

theorem bytes_eq {a b : ByteArray} (h : a.data.toList = b.data.toList) : a = b := by
  cases a with
  | mk a =>
    cases b with
    | mk b =>
      have h' : a = b := Array.toList_inj.1 h
      rw [h']

set_option maxHeartbeats 800000 in
theorem prints_any (w : World) (x : Nat) (hx : x < 18446744073709551616) (htab : Lib.TabIs Tryz.prog w "internal/strconv.uint64pow10" .u64 Lib.pow10Tab) :
    Calls Tryz.prog 37 #[.int .u64 (x : Int)] w fun e w' => e = .returned (.bool true) ∧ Below w.heap.size w w' := by
  go_enter Tryz.func37, Tryz.ntmps37
  go_wp2_with fail
  refine (print_any _ x hx htab).mono ?_
  rintro e w1 ⟨t, rfl, h1, h2, b1⟩
  go_wp2_with fail
  refine (refprint_any _ x _ hx h1).mono ?_
  rintro e w2 ⟨u, rfl, hu, b2⟩
  have e1 : t = u := bytes_eq hu.symm
  subst e1
  go_wp2_with fail
  go_ret
  exact ⟨ret_bool (by simp), b1.trans (b2.mono b1.size)⟩

theorem prints_law (w : World) (n : Int) (h1 : 0 ≤ n) (h2 : n ≤ 18446744073709551615) (htab : Lib.TabIs Tryz.prog w "internal/strconv.uint64pow10" .u64 Lib.pow10Tab) :
    Calls Tryz.prog 37 #[.int .u64 n] w fun e w' => e = .returned (.bool true) ∧ Below w.heap.size w w' := by
  obtain ⟨x, rfl⟩ := Int.eq_ofNat_of_zero_le h1
  exact prints_any w x (by omega) htab

end Go.Proofs.YthdcceackfdbbaaGreatDoor
