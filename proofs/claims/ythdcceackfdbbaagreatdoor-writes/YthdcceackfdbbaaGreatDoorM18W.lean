import Derived.Test.YthdcceackfdbbaaGreatDoorM04W
import Derived.Test.YthdcceackfdbbaaGreatDoorM13W
import Derived.Test.YthdcceackfdbbaaGreatDoorM02W
import Derived.Test.YthdcceackfdbbaaGreatDoorOdQ
import Derived.Test.YthdcceackfdbbaaGreatDoorM05W

/- Own text: the canonical nan, in the program and in the reference. -/
namespace Go.Proofs.YthdcceackfdbbaaGreatDoor
open Go Go.RowKit Go.Shelf

theorem and_hi52 (x M : Nat) : x &&& (M * 2 ^ 52) = ((x / 2 ^ 52) &&& M) * 2 ^ 52 := by
  apply Nat.eq_of_testBit_eq
  intro i
  rw [Nat.testBit_and, Nat.testBit_mul_two_pow, Nat.testBit_mul_two_pow, Nat.testBit_and, Nat.testBit_div_two_pow]
  by_cases hi : 52 ≤ i
  · rw [show i - 52 + 52 = i by omega]
    simp [hi]
  · simp [hi]

theorem and_infin {x : Nat} (h : x < 18446744073709551616) : bits BinOp.and IntKind.u64 (x : Int) 9218868437227405312 = ((x / 4503599627370496 % 2048 * 4503599627370496 : Nat) : Int) := by
  rw [show (9218868437227405312 : Int) = ((2047 * 2 ^ 52 : Nat) : Int) from rfl, u64_and_nat _ _ h (by omega), and_hi52]
  congr 2
  exact Nat.and_two_pow_sub_one_eq_mod (x / 2 ^ 52) 11

theorem canon_any : CanonOk := by
  intro w x hx
  have h1 := andNot_sign hx
  obtain ⟨s, hs⟩ : ∃ s, x % 9223372036854775808 = s := ⟨_, rfl⟩
  rw [hs] at h1
  by_cases c : 9218868437227405312 < s
  · have cb : decide ((9218868437227405312 : Int) < (s : Int)) = true := by simp; omega
    have hc : canon x = 9221120237041090560 := by unfold canon; rw [hs, if_pos c]
    rw [hc]
    go_enter Tryz.func102, Tryz.ntmps102
    go_wp2
    go_ret
    exact ⟨rfl, rfl⟩
  · have cb : decide ((9218868437227405312 : Int) < (s : Int)) = false := by simp; omega
    have hc : canon x = x := by unfold canon; rw [hs, if_neg c]
    rw [hc]
    go_enter Tryz.func102, Tryz.ntmps102
    go_wp2
    go_ret
    exact ⟨rfl, rfl⟩

theorem refcanon_any (w : World) (x : Nat) (hx : x < 18446744073709551616) : Calls Tryz.prog 74 #[.int .u64 (x : Int)] w fun e w' => e = .returned (.int .u64 (canon x : Int)) ∧ w' = w := by
  have h1 := and_infin hx
  have h2 := and_frac hx
  obtain ⟨s, hs⟩ : ∃ s, x / 4503599627370496 % 2048 * 4503599627370496 = s := ⟨_, rfl⟩
  obtain ⟨f, hf⟩ : ∃ f, x % 4503599627370496 = f := ⟨_, rfl⟩
  rw [hs] at h1
  rw [hf] at h2
  by_cases c : s = 9218868437227405312
  · have cb : ((s : Int) == 9218868437227405312) = true := by simp; omega
    by_cases d : f = 0
    · have db : ((f : Int) != 0) = false := by simp; omega
      have hc : canon x = x := by unfold canon; rw [if_neg (by omega)]
      rw [hc]
      clear hs hf hc c d
      go_enter Tryz.func74, Tryz.ntmps74
      go_wp2
      go_ret
      exact ⟨rfl, rfl⟩
    · have db : ((f : Int) != 0) = true := by simp; omega
      have hc : canon x = 9221120237041090560 := by unfold canon; rw [if_pos (by omega)]
      rw [hc]
      clear hs hf hc c d
      go_enter Tryz.func74, Tryz.ntmps74
      go_wp2
      go_ret
      exact ⟨rfl, rfl⟩
  · have cb : ((s : Int) == 9218868437227405312) = false := by simp; omega
    have hc : canon x = x := by unfold canon; rw [if_neg (by omega)]
    rw [hc]
    clear hs hf hc c
    go_enter Tryz.func74, Tryz.ntmps74
    go_wp2
    go_ret
    exact ⟨rfl, rfl⟩

end Go.Proofs.YthdcceackfdbbaaGreatDoor
namespace Go.Proofs.YthdcceackfdbbaaGreatDoor
open Go Go.RowKit

theorem isSide_b (w : World) (k : Int) (b : Bool) (hb : decide (0 ≤ k ∧ k ≤ 40) = b) : Calls Tryz.prog 60 #[.int .i64 k] w fun e w' => e = .returned (.bool b) ∧ w' = w := by
  rw [← hb]; exact isSide_any w k

set_option maxHeartbeats 1000000 in
theorem fits_any (w : World) (R C off rs cs : Int) (n : Nat) (hn : n < 9223372036854775808) :
    Calls Tryz.prog 39 #[viewV R C off rs cs, .int .i64 (n : Int)] w fun e w' => BoolOk (FitV R C off rs cs n) e ∧ Below w.heap.size w w' := by
  have HB : Hid (∀ o, Below w.heap.size w (w.alloc o)) := fun o => (Below.refl _ _).alloc (Nat.le_refl _) _
  unfold viewV
  by_cases c0 : 100000 < n
  · have HN : Hid (¬ FitV R C off rs cs n) := fun h => by have := h.1; omega
    have c0' : (100000 : Int) < n := by omega
    go_enter Tryz.func39, Tryz.ntmps39
    go_wp2
    go_ret
    exact ⟨boolOk_f HN.out, HB.out _⟩
  have c0' : ¬ (100000 : Int) < n := by omega
  by_cases c1 : ¬ (0 ≤ R ∧ R ≤ 40)
  · have e1 : decide (0 ≤ R ∧ R ≤ 40) = false := by simp only [decide_eq_false_iff_not]; exact c1
    have HN : Hid (¬ FitV R C off rs cs n) := fun h => c1 h.2.1
    clear c1
    go_enter Tryz.func39, Tryz.ntmps39
    go_wp2_with fail
    refine (isSide_b _ _ false e1).mono ?_
    rintro e w1 ⟨rfl, rfl⟩
    clear e1
    go_wp2
    go_ret
    exact ⟨boolOk_f HN.out, HB.out _⟩
  replace c1 := Decidable.not_not.1 c1
  have e1 : decide (0 ≤ R ∧ R ≤ 40) = true := by simp only [decide_eq_true_eq]; exact c1
  by_cases c2 : ¬ (0 ≤ C ∧ C ≤ 40)
  · have e2 : decide (0 ≤ C ∧ C ≤ 40) = false := by simp only [decide_eq_false_iff_not]; exact c2
    have HN : Hid (¬ FitV R C off rs cs n) := fun h => c2 h.2.2.1
    clear c1 c2
    go_enter Tryz.func39, Tryz.ntmps39
    go_wp2_with fail
    refine (isSide_b _ _ true e1).mono ?_
    rintro e w1 ⟨rfl, rfl⟩
    clear e1
    go_wp2_with fail
    refine (isSide_b _ _ false e2).mono ?_
    rintro e w1 ⟨rfl, rfl⟩
    clear e2
    go_wp2
    go_ret
    exact ⟨boolOk_f HN.out, HB.out _⟩
  replace c2 := Decidable.not_not.1 c2
  have e2 : decide (0 ≤ C ∧ C ≤ 40) = true := by simp only [decide_eq_true_eq]; exact c2
  obtain ⟨r, rfl⟩ := Int.eq_ofNat_of_zero_le c1.1
  obtain ⟨c, rfl⟩ := Int.eq_ofNat_of_zero_le c2.1
  by_cases hr : r = 0
  · subst hr
    have HN : Hid (FitV ((0 : Nat) : Int) c off rs cs n) := ⟨by omega, c1, c2, .inl rfl⟩
    clear c1 c2
    go_enter Tryz.func39, Tryz.ntmps39
    go_wp2_with fail
    refine (isSide_b _ _ true e1).mono ?_
    rintro e w1 ⟨rfl, rfl⟩
    clear e1
    go_wp2_with fail
    refine (isSide_b _ _ true e2).mono ?_
    rintro e w1 ⟨rfl, rfl⟩
    clear e2
    go_wp2
    go_ret
    exact ⟨boolOk_t HN.out, HB.out _⟩
  have hr' : ¬ (r : Int) = 0 := by omega
  by_cases hc : c = 0
  · subst hc
    have HN : Hid (FitV r ((0 : Nat) : Int) off rs cs n) := ⟨by omega, c1, c2, .inr (.inl rfl)⟩
    clear c1 c2
    go_enter Tryz.func39, Tryz.ntmps39
    go_wp2_with fail
    refine (isSide_b _ _ true e1).mono ?_
    rintro e w1 ⟨rfl, rfl⟩
    clear e1
    go_wp2_with fail
    refine (isSide_b _ _ true e2).mono ?_
    rintro e w1 ⟨rfl, rfl⟩
    clear e2
    go_wp2
    go_ret
    exact ⟨boolOk_t HN.out, HB.out _⟩
  have hc' : ¬ (c : Int) = 0 := by omega
  have hr2 : ((r : Int) == 0) = false := by simp; omega
  have hc2 : ((c : Int) == 0) = false := by simp; omega
  have HF : Hid (FitV r c off rs cs n ↔ Fit r c off rs cs n) := by
    show _ ↔ _
    unfold FitV
    simp only [Int.toNat_natCast]
    constructor
    · rintro ⟨_, _, _, h | h | h⟩
      · omega
      · omega
      · exact h
    · exact fun h => ⟨by omega, c1, c2, .inr (.inr h)⟩
  have hrr : 1 ≤ r ∧ r ≤ 40 := by omega
  have hcc : 1 ≤ c ∧ c ≤ 40 := by omega
  have HI : Hid _ := hid (fun w => inside_any w r c off rs cs n hrr hcc (by omega))
  have HM : Hid _ := hid (fun w => meets_any w r c off rs cs hrr hcc)
  have HP : Hid (Fit r c off rs cs n ↔ Corner r c off rs cs n ∧ ¬ Meets r c rs cs) := fit_prog (by omega) (by omega)
  clear c1 c2
  go_enter Tryz.func39, Tryz.ntmps39
  go_wp2_with fail
  refine (isSide_b _ _ true e1).mono ?_
  rintro e w1 ⟨rfl, rfl⟩
  clear e1
  go_wp2_with fail
  refine (isSide_b _ _ true e2).mono ?_
  rintro e w1 ⟨rfl, rfl⟩
  clear e2
  go_wp2_with fail
  refine (HI.out _).mono ?_
  rintro e w1 ⟨⟨b, rfl, hb, hs⟩, b1⟩
  have HB1 : Hid _ := hid b1
  have hsz := b1.size
  simp only [World.size_alloc] at hsz
  have k0 : w1.cell? ⟨w.heap.size, 0, none⟩ = some (.int .i64 (r : Int)) := (b1.cell (p := ⟨w.heap.size, 0, none⟩) (by simp)).trans (by simp [go_sem])
  have k1 : w1.cell? ⟨w.heap.size, 1, none⟩ = some (.int .i64 (c : Int)) := (b1.cell (p := ⟨w.heap.size, 1, none⟩) (by simp)).trans (by simp [go_sem])
  have k2 : w1.cell? ⟨w.heap.size, 2, none⟩ = some (.int .i64 off) := (b1.cell (p := ⟨w.heap.size, 2, none⟩) (by simp)).trans (by simp [go_sem])
  have k3 : w1.cell? ⟨w.heap.size, 3, none⟩ = some (.int .i64 rs) := (b1.cell (p := ⟨w.heap.size, 3, none⟩) (by simp)).trans (by simp [go_sem])
  have k4 : w1.cell? ⟨w.heap.size, 4, none⟩ = some (.int .i64 cs) := (b1.cell (p := ⟨w.heap.size, 4, none⟩) (by simp)).trans (by simp [go_sem])
  have HB2 : Hid (Below w.heap.size w w1) := (HB.out _).trans (b1.mono (by simp))
  clear b1
  have HH := hid hb
  have HS := hid hs
  clear hb hs
  cases b with
  | false =>
    go_wp2
    go_ret
    exact ⟨boolOk_f (fun h => by have := HH.out.2 (HP.out.1 (HF.out.1 h)).1; cases this), HB2.out⟩
  | true =>
    have HC0 := hid (HH.out.1 rfl)
    have HS0 := hid (HS.out rfl)
    clear HH HS
    go_wp2_with fail
    refine (HM.out _ HS0.out.1 HS0.out.2).mono ?_
    rintro e w2 ⟨⟨b, rfl, hb⟩, b2⟩
    have HH2 := hid hb
    have HB3 := hid b2
    clear hb b2
    go_wp2
    go_ret
    refine ⟨⟨!b, rfl, ?_⟩, HB2.out.trans (HB3.out.mono HB2.out.size)⟩
    rw [HF.out, HP.out, ← HH2.out]
    have := HC0.out
    cases b <;> simp [this]

end Go.Proofs.YthdcceackfdbbaaGreatDoor
/- Own text: write: the whole file, or the error. -/
namespace Go.Proofs.YthdcceackfdbbaaGreatDoor
open Go Go.RowKit Go.Shelf
attribute [local go_sem] Oper.semAt_some

/-- the matrix that a view shows -/
def seenF (xs : List Nat) (off rs cs : Int) (i j : Nat) : Nat := canon (xs.getD (off + i * rs + j * cs).toNat 0)

open Classical in
/-- the file, or nothing; and the error's number -/
noncomputable def fileL (xs : List Nat) (R C off rs cs kind : Int) : List UInt8 × Int :=
  if ¬ FitV R C off rs cs xs.length then ([], 2) else
  if ¬ (0 ≤ kind ∧ kind ≤ 5) then ([], 3) else
  if (kind = 1 ∨ kind = 3) ∧ R ≠ C then ([], 4) else
  if (kind = 1 ∨ kind = 3) ∧ ¬ SymM R.toNat (seenF xs off rs cs) then ([], 5) else
  if kind = 4 ∨ kind = 5 then (boxL kind.toNat R.toNat C.toNat (seenF xs off rs cs), 0) else
  (textL kind.toNat R.toNat C.toNat (seenF xs off rs cs), 0)

theorem seenF_lt {xs : List Nat} (h : ∀ x ∈ xs, x < 18446744073709551616) (off rs cs : Int) (i j : Nat) : seenF xs off rs cs i j < 18446744073709551616 := by
  unfold seenF
  refine canon_lt ?_
  rw [List.getD_eq_getElem?_getD]
  cases hx : xs[(off + i * rs + j * cs).toNat]? with
  | none => simp
  | some x => exact h x (List.mem_of_getElem? hx)

def FileR (L : List UInt8 × Int) (e : Ending) : Prop := ∃ s : ByteArray, e = .returned (.tuple #[.string s, .int .i64 L.2]) ∧ s.data.toList = L.1

theorem fileR_err {L : List UInt8 × Int} {n : Int} (h : L = ([], n)) : FileR L (.returned (.tuple #[.string { data := #[] }, .int .i64 n])) := by
  subst h; exact ⟨_, rfl, rfl⟩
theorem fileR_ok {L : List UInt8 × Int} {s : ByteArray} (h : L = (s.data.toList, 0)) : FileR L (.returned (.tuple #[.string s, .int .i64 0])) := by
  subst h; exact ⟨_, rfl, rfl⟩

set_option maxRecDepth 20000 in
set_option maxHeartbeats 4000000 in
theorem write_any (w : World) (R C off rs cs kind : Int) (bb n cap : Nat) (xs : List Nat) (hn : xs.length = n) (hn1 : n < 9223372036854775808) (hx : ∀ x ∈ xs, x < 18446744073709551616)
    (hbuf : ∀ (k x : Nat), xs[k]? = some x → w.cell? ⟨bb, k, none⟩ = some (.int .u64 (x : Int))) (hbb : bb < w.heap.size) (htab : Lib.TabIs Tryz.prog w "internal/strconv.uint64pow10" .u64 Lib.pow10Tab) :
    Calls Tryz.prog 42 #[.slice (some ⟨bb, 0, none⟩) n cap, viewV R C off rs cs, .int .i64 kind] w fun e w' => FileR (fileL xs R C off rs cs kind) e ∧ Below w.heap.size w w' := by
  obtain ⟨b, hb⟩ : ∃ b, w.heap.size = b := ⟨_, rfl⟩
  have HB := hid hbuf
  have HX := hid hx
  have HT := hid htab
  clear hbuf hx htab
  obtain ⟨L, hL⟩ : ∃ L, fileL xs R C off rs cs kind = L := ⟨_, rfl⟩
  rw [hL]
  have HL := hid hL
  clear hL
  unfold viewV
  go_enter Tryz.func42, Tryz.ntmps42
  go_wp2_with fail
  obtain ⟨V, hV⟩ : ∃ V, w.alloc (.cells #[.int .i64 R, .int .i64 C, .int .i64 off, .int .i64 rs, .int .i64 cs] 24) = V := ⟨_, rfl⟩
  have mV : Arr V b 24 [.int .i64 R, .int .i64 C, .int .i64 off, .int .i64 rs, .int .i64 cs] := by rw [← hV, ← hb]; exact Arr.newL w _ _
  have bV : Below b w V := by rw [← hV, ← hb]; exact Below.refl' _ _
  have zV : b + 1 = V.heap.size := by rw [← hV]; simp [hb]
  rw [hV]
  clear hV
  refine (fits_any V R C off rs cs n hn1).mono ?_
  rintro e W1 ⟨⟨bo, rfl, hbo⟩, b1⟩
  have m1 := mV.below b1 (by omega)
  have q1 : Below b w W1 := bV.trans (b1.mono (by omega))
  have HQ := hid q1
  have HM := hid m1
  have z1 : b + 1 ≤ W1.heap.size := by have := b1.size; omega
  have HZ := hid z1
  have HBO := hid hbo
  clear mV bV zV b1 m1 q1 z1 hbo
  cases bo with
  | false =>
    go_wp2
    go_ret2
    refine ⟨fileR_err ?_, by rw [hb]; exact HQ.out⟩
    rw [← HL.out]
    unfold fileL
    rw [if_pos (by rw [hn]; exact fun h => by have := HBO.out.2 h; cases this)]
  | true =>
    have hfit := HBO.out.1 rfl
    have HFV := hid hfit
    clear HBO
    obtain ⟨hn5, hR, hC, hF⟩ := hfit
    obtain ⟨r, rfl⟩ : ∃ r : Nat, R = (r : Int) := ⟨R.toNat, by omega⟩
    obtain ⟨c, rfl⟩ : ∃ c : Nat, C = (c : Int) := ⟨C.toNat, by omega⟩
    have c0 := HM.out.cell (i := 0) rfl
    have c1 := HM.out.cell (i := 1) rfl
    have c2 := HM.out.cell (i := 2) rfl
    have c3 := HM.out.cell (i := 3) rfl
    have c4 := HM.out.cell (i := 4) rfl
    have HF := hid hF
    clear hF
    go_wp2_with fail
    refine (known_any W1 kind).mono ?_
    rintro e W ⟨rfl, e1⟩
    obtain rfl : W1 = W := e1.symm
    by_cases hk : 0 ≤ kind ∧ kind ≤ 5
    · obtain ⟨k, rfl⟩ : ∃ k : Nat, kind = (k : Int) := ⟨kind.toNat, by omega⟩
      have hkb : decide (0 ≤ (k : Int) ∧ (k : Int) ≤ 5) = true := by simpa using hk
      rw [hkb]
      go_wp2_with fail
      refine (ksym_any W1 k).mono ?_
      rintro e W ⟨rfl, e1⟩
      obtain rfl : W1 = W := e1.symm
      have HBUF : Hid (∀ (k x : Nat), xs[k]? = some x → x < 18446744073709551616 ∧ W1.cell? ⟨bb, k, none⟩ = some (.int .u64 (x : Int))) :=
        hid fun k x h => ⟨HX.out x (List.mem_of_getElem? h), (HQ.out.cell (p := ⟨bb, k, none⟩) (by show bb < b; omega)).trans (HB.out k x h)⟩
      have HFit : Hid (r = 0 ∨ c = 0 ∨ Fit r c off rs cs n) := hid (by
        rcases HF.out with h | h | h
        · exact .inl (by omega)
        · exact .inr (.inl (by omega))
        · exact .inr (.inr h))
      by_cases hs : (k : Int) = 1 ∨ (k : Int) = 3
      · have hsb : decide ((k : Int) = 1 ∨ (k : Int) = 3) = true := by simpa using hs
        rw [hsb]
        by_cases hrc : r = c
        · subst hrc
          go_wp2_with fail
          refine (copy_any canon_any W1 r r off rs cs bb n cap xs (by omega) (by omega) hn HFit.out hn5 HBUF.out (by have := HZ.out; omega)).mono ?_
          rintro e W2 ⟨g, rfl, hm, hg, b2, l, hl⟩
          unfold matV
          have HG := hid hg
          clear hg
          go_wp2_with fail
          obtain ⟨p, hp⟩ : ∃ p, W2.heap.size = p := ⟨_, rfl⟩
          obtain ⟨W3, hW3⟩ : ∃ W3, W2.alloc (.cells #[.int .i64 (r : Int), .int .i64 (r : Int), .slice (some ⟨g, 0, none⟩) (r * r) (r * r)] 88) = W3 := ⟨_, rfl⟩
          have a3 : Arr W3 p 88 [.int .i64 (r : Int), .int .i64 (r : Int), .slice (some ⟨g, 0, none⟩) (r * r) (r * r)] := by rw [← hW3, ← hp]; exact Arr.newL _ _ _
          have b3 : Below p W2 W3 := by rw [← hW3, ← hp]; exact Below.refl' _ _
          have hm3 : MemM r g r (seenF xs off rs cs) W3 := MemM.below hm b3 (by rw [← hp]; exact hm.1)
          have hl3 : Arr W3 g 65 l := by rw [← hW3]; exact hl.alloc _
          have hgp : g < p := by rw [← hp]; exact hm.1
          have q3 : Below b w W3 := (HQ.out.trans (b2.mono (by have := HZ.out; omega))).trans (b3.mono (by have := HZ.out; have := b2.size; omega))
          have z3 : p < W3.heap.size := a3.lt
          have T3 : Hid (Lib.TabIs Tryz.prog W3 "internal/strconv.uint64pow10" .u64 Lib.pow10Tab) := hid (tab_below HT.out (hb ▸ q3))
          rw [hW3, hp]
          clear hW3 b2 b3 hm hl
          have HA := hid a3
          have HM3 := hid hm3
          have HL3 := hid hl3
          have HQ3 := hid q3
          clear a3 hm3 hl3 q3
          refine (ksym_any W3 k).mono ?_
          rintro e W ⟨rfl, e1⟩
          obtain rfl : W3 = W := e1.symm
          rw [hsb]
          have d0 := HA.out.cell (i := 0) rfl
          have d1 := HA.out.cell (i := 1) rfl
          have d2 := HA.out.cell (i := 2) rfl
          go_wp2_with fail
          refine (sym_any W3 r g (seenF xs off rs cs) (by omega) HM3.out (seenF_lt HX.out off rs cs)).mono ?_
          rintro e W4 ⟨⟨bo, rfl, hbo⟩, b4⟩
          have HBO := hid hbo
          have q4 := HQ3.out.trans (b4.mono (by have := HQ3.out.size; omega))
          have HQ4 := hid q4
          have HA4 := hid (HA.out.below b4 z3)
          have HM4 := hid (HM3.out.below b4 (by omega))
          have HL4 := hid (HL3.out.below b4 (by omega))
          clear hbo q4 d0 d1 d2
          cases bo with
          | false =>
            clear b4
            go_wp2
            go_ret2
            refine ⟨fileR_err ?_, by rw [hb]; exact HQ4.out⟩
            rw [← HL.out]
            unfold fileL
            rw [if_neg (fun h => h (by rw [hn]; exact HFV.out)), if_neg (fun h => h hk), if_neg (fun h => h.2 rfl), if_pos ⟨hs, fun h => by have := HBO.out.2 h; cases this⟩]
          | true =>
            have hsy := HBO.out.1 rfl
            have HS := hid hsy
            have T4 : Hid (Lib.TabIs Tryz.prog W4 "internal/strconv.uint64pow10" .u64 Lib.pow10Tab) := hid (tab_below HT.out (hb ▸ HQ4.out))
            clear HBO hsy b4
            go_wp2_with fail
            refine (kbox_any W4 k).mono ?_
            rintro e W ⟨rfl, e1⟩
            obtain rfl : W4 = W := e1.symm
            have hxb : decide ((k : Int) = 4 ∨ (k : Int) = 5) = false := by simp; omega
            rw [hxb]
            have d0 := HA4.out.cell (i := 0) rfl
            have d1 := HA4.out.cell (i := 1) rfl
            have d2 := HA4.out.cell (i := 2) rfl
            go_wp2_with fail
            refine (market_any W4 k r r g (seenF xs off rs cs) l (by omega) (by omega) (by omega) HM4.out HL4.out (seenF_lt HX.out off rs cs) T4.out).mono ?_
            rintro e W5 ⟨t, rfl, ht, b5⟩
            have HH := hid ht
            have HB5 := hid b5
            clear ht b5
            go_wp2
            go_ret2
            refine ⟨fileR_ok ?_, by rw [hb]; exact HQ4.out.trans (HB5.out.mono (by have := HQ4.out.size; omega))⟩
            rw [← HL.out]
            unfold fileL
            rw [if_neg (fun h => h (by rw [hn]; exact HFV.out)), if_neg (fun h => h hk), if_neg (fun h => h.2 rfl), if_neg (fun h => h.2 HS.out), if_neg (by omega), HH.out]
            rfl
        · have hrb : ((r : Int) != (c : Int)) = true := by simp; omega
          go_wp2
          go_ret2
          refine ⟨fileR_err ?_, by rw [hb]; exact HQ.out⟩
          rw [← HL.out]
          unfold fileL
          rw [if_neg (fun h => h (by rw [hn]; exact HFV.out)), if_neg (fun h => h hk), if_pos ⟨hs, by omega⟩]
      · have hsb : decide ((k : Int) = 1 ∨ (k : Int) = 3) = false := by simpa using hs
        rw [hsb]
        go_wp2_with fail
        refine (copy_any canon_any W1 r c off rs cs bb n cap xs (by omega) (by omega) hn HFit.out hn5 HBUF.out (by have := HZ.out; omega)).mono ?_
        rintro e W2 ⟨g, rfl, hm, hg, b2, l, hl⟩
        unfold matV
        have HG := hid hg
        clear hg
        go_wp2_with fail
        obtain ⟨p, hp⟩ : ∃ p, W2.heap.size = p := ⟨_, rfl⟩
        obtain ⟨W3, hW3⟩ : ∃ W3, W2.alloc (.cells #[.int .i64 (r : Int), .int .i64 (c : Int), .slice (some ⟨g, 0, none⟩) (r * c) (r * c)] 88) = W3 := ⟨_, rfl⟩
        have a3 : Arr W3 p 88 [.int .i64 (r : Int), .int .i64 (c : Int), .slice (some ⟨g, 0, none⟩) (r * c) (r * c)] := by rw [← hW3, ← hp]; exact Arr.newL _ _ _
        have b3 : Below p W2 W3 := by rw [← hW3, ← hp]; exact Below.refl' _ _
        have hm3 : MemM c g r (seenF xs off rs cs) W3 := MemM.below hm b3 (by rw [← hp]; exact hm.1)
        have hl3 : Arr W3 g 65 l := by rw [← hW3]; exact hl.alloc _
        have hgp : g < p := by rw [← hp]; exact hm.1
        have q3 : Below b w W3 := (HQ.out.trans (b2.mono (by have := HZ.out; omega))).trans (b3.mono (by have := HZ.out; have := b2.size; omega))
        have z3 : p < W3.heap.size := a3.lt
        have T3 : Hid (Lib.TabIs Tryz.prog W3 "internal/strconv.uint64pow10" .u64 Lib.pow10Tab) := hid (tab_below HT.out (hb ▸ q3))
        rw [hW3, hp]
        clear hW3 b2 b3 hm hl
        have HA := hid a3
        have HM3 := hid hm3
        have HL3 := hid hl3
        have HQ3 := hid q3
        clear a3 hm3 hl3 q3
        refine (ksym_any W3 k).mono ?_
        rintro e W ⟨rfl, e1⟩
        obtain rfl : W3 = W := e1.symm
        rw [hsb]
        go_wp2_with fail
        refine (kbox_any W3 k).mono ?_
        rintro e W ⟨rfl, e1⟩
        obtain rfl : W3 = W := e1.symm
        have d0 := HA.out.cell (i := 0) rfl
        have d1 := HA.out.cell (i := 1) rfl
        have d2 := HA.out.cell (i := 2) rfl
        by_cases hx : (k : Int) = 4 ∨ (k : Int) = 5
        · have hxb : decide ((k : Int) = 4 ∨ (k : Int) = 5) = true := by simpa using hx
          rw [hxb]
          go_wp2_with fail
          refine (boxWrite_any W3 k r c g (seenF xs off rs cs) l (by omega) (by omega) (by omega) HM3.out HL3.out).mono ?_
          rintro e W5 ⟨t, rfl, ht, b5⟩
          have HH := hid ht
          have HB5 := hid b5
          clear ht b5
          go_wp2
          go_ret2
          refine ⟨fileR_ok ?_, by rw [hb]; exact HQ3.out.trans (HB5.out.mono (by have := HQ3.out.size; omega))⟩
          rw [← HL.out]
          unfold fileL
          rw [if_neg (fun h => h (by rw [hn]; exact HFV.out)), if_neg (fun h => h hk), if_neg (fun h => hs h.1), if_neg (fun h => hs h.1), if_pos hx, HH.out]
          rfl
        · have hxb : decide ((k : Int) = 4 ∨ (k : Int) = 5) = false := by simpa using hx
          rw [hxb]
          go_wp2_with fail
          refine (market_any W3 k r c g (seenF xs off rs cs) l (by omega) (by omega) (by omega) HM3.out HL3.out (seenF_lt HX.out off rs cs) T3.out).mono ?_
          rintro e W5 ⟨t, rfl, ht, b5⟩
          have HH := hid ht
          have HB5 := hid b5
          clear ht b5
          go_wp2
          go_ret2
          refine ⟨fileR_ok ?_, by rw [hb]; exact HQ3.out.trans (HB5.out.mono (by have := HQ3.out.size; omega))⟩
          rw [← HL.out]
          unfold fileL
          rw [if_neg (fun h => h (by rw [hn]; exact HFV.out)), if_neg (fun h => h hk), if_neg (fun h => hs h.1), if_neg (fun h => hs h.1), if_neg hx, HH.out]
          rfl
    · have hkb : decide (0 ≤ kind ∧ kind ≤ 5) = false := by simpa using hk
      rw [hkb]
      go_wp2
      go_ret2
      refine ⟨fileR_err ?_, by rw [hb]; exact HQ.out⟩
      rw [← HL.out]
      unfold fileL
      rw [if_neg (fun h => h (by rw [hn]; exact HFV.out)), if_pos hk]

end Go.Proofs.YthdcceackfdbbaaGreatDoor
/- Own text: the reference: Seen. -/
namespace Go.Proofs.YthdcceackfdbbaaGreatDoor
open Go Go.RowKit

def u64s (l : List Nat) : List Value := l.map fun x : Nat => Value.int .u64 (x : Int)

theorem ownsRow_other {w : World} {B e size n : Nat} {v : Value} {l : List Value} (h : w.ownsRow B e size v n l) {g i : Nat} (hg : g < B) (x : Value) : (w.setCell ⟨g, i, none⟩ x).ownsRow B e size v n l := by
  refine ⟨h.1, ?_⟩
  rcases h.2 with h | ⟨g', cap, cur, e, hb, hg', r⟩
  · exact .inl h
  · exact .inr ⟨g', cap, cur, e, hb, by rw [Below.heap_setCell _ _ _ _ (by simp; omega)]; exact hg', r⟩

/-- the first k numbers, row by row -/
def leadL (C : Nat) (f : Nat → Nat → Nat) (k : Nat) : List Nat := (List.range k).map fun q => f (q / C) (q % C)

theorem leadL_len (C : Nat) (f : Nat → Nat → Nat) (k : Nat) : (leadL C f k).length = k := by simp [leadL]

theorem leadL_snoc {C i j : Nat} (f : Nat → Nat → Nat) (hj : j < C) : leadL C f (i * C + j + 1) = leadL C f (i * C + j) ++ [f i j] := by
  unfold leadL
  rw [List.range_succ, List.map_append]
  have h1 : (i * C + j) / C = i := by rw [Nat.mul_comm, Nat.mul_add_div (by omega), Nat.div_eq_of_lt hj]; omega
  have h2 : (i * C + j) % C = j := by rw [Nat.mul_comm, Nat.mul_add_mod, Nat.mod_eq_of_lt hj]
  simp [h1, h2]

/-- the reference's matrix while it is filled -/
structure SeenS (b R C : Nat) (off rs cs : Int) (f : Nat → Nat → Nat) (k : Nat) (w wr : World) : Prop where
  view : Arr wr b 24 [.int .i64 (R : Int), .int .i64 (C : Int), .int .i64 off, .int .i64 rs, .int .i64 cs]
  mat : ∃ sl, Arr wr (b + 1) 37 [.int .i64 (R : Int), .int .i64 (C : Int), sl] ∧ wr.ownsRow (b + 2) 65 1 sl k (u64s (leadL C f k))
  bel : Below b w wr

/-- a buffer's numbers, where it has any -/
def BufIs (w : World) (ao : Option Addr) (xs : List Nat) : Prop := ∀ (k x : Nat), xs[k]? = some x → x < 18446744073709551616 ∧ ∃ ad : Addr, ao = some ad ∧ ad.block < w.heap.size ∧ w.cell? (ad.add k) = some (.int .u64 (x : Int))

theorem seenS_rmat {b R C : Nat} {off rs cs : Int} {f : Nat → Nat → Nat} {w wr : World} (hR : R ≤ 40) (hC : C ≤ 40) (h : SeenS b R C off rs cs f (R * C) w wr) : RMat wr (b + 1) R C f := by
  obtain ⟨sl, h1, h2⟩ := h.mat
  refine ⟨hR, hC, sl, h1, ?_⟩
  by_cases h0 : R * C = 0
  · exact .inl h0
  · rcases h2.2 with ⟨_, h3⟩ | ⟨g, cap, cur, e, hb, hg, _⟩
    · exact absurd h3 h0
    · refine .inr ⟨g, cap, e, (Array.getElem?_eq_some_iff.1 hg).1, fun i j hi hj => ?_⟩
      subst e
      have hlt := idx_lt hi hj
      rw [h2.cellAt (i * C + j) (by omega)]
      have q1 : (i * C + j) / C = i := by rw [Nat.mul_comm, Nat.mul_add_div (by omega), Nat.div_eq_of_lt hj]; omega
      have q2 : (i * C + j) % C = j := by rw [Nat.mul_comm, Nat.mul_add_mod, Nat.mod_eq_of_lt hj]
      simp [u64s, leadL, hlt, q1, q2]

set_option maxRecDepth 20000 in
set_option maxHeartbeats 4000000 in
theorem seen_any (w : World) (R C : Nat) (off rs cs : Int) (ao : Option Addr) (n cap : Nat) (xs : List Nat) (hR : R ≤ 40) (hC : C ≤ 40) (hn : xs.length = n) (hn1 : n ≤ 100000) (hfit : R = 0 ∨ C = 0 ∨ Fit R C off rs cs n) (hbuf : BufIs w ao xs) :
    Calls Tryz.prog 43 #[.slice ao n cap, viewV R C off rs cs] w fun e w' => ∃ p, e = .returned (.pointer (some ⟨p, 0, none⟩)) ∧ RMat w' p R C (seenF xs off rs cs) ∧ w.heap.size ≤ p ∧ Below w.heap.size w w' := by
  obtain ⟨b, hb⟩ : ∃ b, w.heap.size = b := ⟨_, rfl⟩
  obtain ⟨i0, hi, hz0, hz1, hz2⟩ := info_parts Tryz.infoU64
  have HI := hid hi
  have HBUF := hid hbuf
  have HFIT := hid hfit
  clear hbuf hfit hi
  obtain ⟨F, hF⟩ : ∃ F, seenF xs off rs cs = F := ⟨_, rfl⟩
  rw [hF]
  have HF := hid hF
  clear hF
  unfold viewV
  go_enter Tryz.func43, Tryz.ntmps43
  go_wp2
  go_loopw [6] (fun vi wr => ∃ i : Nat, vi = .int .i64 (i : Int) ∧ i ≤ R ∧ Hid (SeenS b R C off rs cs F (i * C) w wr)) (fun vi _ => R - (intOf vi).toNat)
  case atStart =>
    refine ⟨0, rfl, by omega, ?_⟩
    rw [Nat.zero_mul]
    refine ⟨?_, ⟨.slice none 0 0, ?_, World.ownsRow_nil _ _ _ _⟩, ?_⟩
    · rw [← hb]; exact (Arr.newL w _ _).alloc _
    · have := Arr.newL (w.alloc (.cells #[.int .i64 (R : Int), .int .i64 (C : Int), .int .i64 off, .int .i64 rs, .int .i64 cs] 24)) 37 [.int .i64 (R : Int), .int .i64 (C : Int), .slice none 0 0]
      rw [show (w.alloc (.cells #[.int .i64 (R : Int), .int .i64 (C : Int), .int .i64 off, .int .i64 rs, .int .i64 cs] 24)).heap.size = b + 1 by simp [hb]] at this
      exact this
    · rw [← hb]; exact (Below.refl' _ _).alloc (by simp) _
  case round =>
    obtain ⟨i, rfl, hi, HS⟩ := hrel
    have k0 := HS.out.view.cell (i := 0) rfl
    by_cases hlt : i < R
    · have hlt' : (i : Int) < R := by omega
      go_wp2
      go_loopw [7] (fun vj wx => ∃ j : Nat, vj = .int .i64 (j : Int) ∧ j ≤ C ∧ Hid (SeenS b R C off rs cs F (i * C + j) w wx)) (fun vj _ => C - (intOf vj).toNat)
      case atStart => exact ⟨0, rfl, by omega, by have := HS.out; exact this⟩
      case round =>
        clear k0 HS
        obtain ⟨j, rfl, hj, HS⟩ := hrel
        have k0 := HS.out.view.cell (i := 0) rfl
        have k1 := HS.out.view.cell (i := 1) rfl
        have k2 := HS.out.view.cell (i := 2) rfl
        have k3 := HS.out.view.cell (i := 3) rfl
        have k4 := HS.out.view.cell (i := 4) rfl
        by_cases hjt : j < C
        · have hjt' : (j : Int) < C := by omega
          have hfit' : Fit R C off rs cs n := by
            rcases HFIT.out with h | h | h
            · omega
            · omega
            · exact h
          have hin := hfit'.1 i j hlt hjt
          have hin0 := hfit'.1 0 0 (by omega) (by omega)
          have hst := fit_step (by omega) (by omega) hfit'
          obtain ⟨q, hq⟩ : ∃ q : Nat, off + i * rs + j * cs = (q : Int) := ⟨_, (Int.toNat_of_nonneg hin.1).symm⟩
          have hqn : q < n := by omega
          obtain ⟨X, hX⟩ : ∃ X, xs[q]? = some X := ⟨xs[q]'(by omega), by simp [hn, hqn]⟩
          obtain ⟨hX64, ad, rfl, hg, hcell⟩ := HBUF.out q X hX
          have hFX : F i j = canon X := by rw [← HF.out]; unfold seenF; rw [hq, Int.toNat_natCast, List.getD_eq_getElem?_getD, hX]; rfl
          have HP := hid (place_p wr R C off rs cs i j (q : Int) (by omega) (by omega) (by simp at hin0; omega) (by omega) (by omega) hq)
          unfold viewV at HP
          have hcell1 : wr.cell? (ad.add q) = some (.int .u64 (X : Int)) := (HS.out.bel.cell (p := ad.add q) (by rw [Go.ChangeShapes.block_add]; omega)).trans hcell
          have HC := hid hcell1
          obtain ⟨sl, hm, hown⟩ := HS.out.mat
          clear hin hin0 hst hq hX hfit' hcell hcell1
          go_wp2_with fail
          refine HP.out.mono ?_
          rintro e w1 ⟨rfl, hw1⟩
          have v1 : Arr w1 b 24 [.int .i64 (R : Int), .int .i64 (C : Int), .int .i64 off, .int .i64 rs, .int .i64 cs] := by rw [hw1]; exact HS.out.view.alloc _
          have m1 : Arr w1 (b + 1) 37 [.int .i64 (R : Int), .int .i64 (C : Int), sl] := by rw [hw1]; exact hm.alloc _
          have o1 : w1.ownsRow (b + 2) 65 1 sl (i * C + j) (u64s (leadL C F (i * C + j))) := by rw [hw1]; exact hown.alloc _
          have z1 : b + 2 ≤ w1.heap.size := by have := m1.lt; omega
          have bw1 : Below b w w1 := by rw [hw1]; exact HS.out.bel.alloc (by have := hm.lt; omega) _
          have x1 : w1.cell? (ad.add q) = some (.int .u64 (X : Int)) := (bw1.cell (p := ad.add q) (by rw [Go.ChangeShapes.block_add]; omega)).trans ((HS.out.bel.cell (p := ad.add q) (by rw [Go.ChangeShapes.block_add]; omega)).symm.trans HC.out)
          have d2 := m1.cell (i := 2) rfl
          have hk1 : i * C + j < 1600 := by have := idx_lt hlt hjt; have := Nat.mul_le_mul hR hC; omega
          have HV1 := hid v1
          have HM1 := hid m1
          have HO1 := hid o1
          have HBW := hid bw1
          clear hw1 hm hown HS HP HC k0 k1 k2 k3 k4 v1 m1 o1 bw1
          go_wp2_with fail
          refine (refcanon_any w1 X hX64).mono ?_
          rintro e w2 ⟨rfl, e2⟩
          obtain rfl : w1 = w2 := e2.symm
          rw [← hFX]
          have HFX := hid hFX
          clear x1 e2 hFX
          generalize hK : i * C + j = K at *
          have HK := hid hK
          clear hK
          go_wp2_with (at_builtin; refine wpList_append_own _ rfl _ _ 22 rfl (b + 2) 65 i0 (.int .u64 0) 1 8 Tryz.underlying22 HI.out hz0 hz1 hz2 rfl (by decide) _ _ _ rfl (HO1.out.alloc _) ⟨w1.heap.size, 0, none⟩ 1 1 [.int .u64 ((F i j : Nat) : Int)] rfl rfl ?c1 ?c2 ?c3 ?c4 ?c5 ?_)
          case c1 => exact cell_one_new _ _ _
          case c2 => intro u hu; simp at hu; subst hu; rfl
          case c3 => unfold maxLen; omega
          case c4 => omega
          case c5 => simp; omega
          · intro v' w2 hown' hgrow _
            have b12 : Below (b + 2) w1 w2 := ((Below.refl _ w1).alloc z1 _).grown hgrow (by simp; omega) (fun k hk => (HO1.out.lt k hk).1)
            have HV2 := hid (HV1.out.below b12 (by omega))
            have m2 := HM1.out.below b12 (by omega)
            have HM2 := hid m2
            have HB2 := hid (HBW.out.trans (b12.mono (by omega)))
            obtain ⟨g', cap', rfl⟩ : ∃ g' cap', v' = .slice (some ⟨g', 0, none⟩) (K + 1) cap' := by
              rcases hown'.2 with ⟨_, h3⟩ | ⟨g', cap', cur, e, _⟩
              · omega
              · exact ⟨g', cap', e⟩
            have HO2 := hid hown'
            have f2 := m2.frozen 2
            have g2 := m2.cell (i := 2) rfl
            clear b12 m2 hown' hgrow
            go_wp2
            go_round
            case rel =>
              refine ⟨j + 1, by simp, by omega, ⟨HV2.out.other _ (by omega), ⟨.slice (some ⟨g', 0, none⟩) (K + 1) cap', HM2.out.set 2 _, ?_⟩, HB2.out.setCell (p := ⟨b + 1, 2, none⟩) (by show b ≤ b + 1; omega) _⟩⟩
              have e1 : i * C + (j + 1) = K + 1 := by have := HK.out; omega
              rw [e1]
              refine ownsRow_other ?_ (by omega) _
              have e2 : u64s (leadL C F (K + 1)) = u64s (leadL C F K) ++ [.int .u64 ((F i j : Nat) : Int)] := by rw [← HK.out, leadL_snoc F hjt]; simp [u64s]
              rw [e2]
              exact HO2.out
            case measure => simp [intOf]; omega
        · have hjt' : ¬ (j : Int) < C := by omega
          obtain rfl : j = C := by omega
          go_wp2
          go_round
          case rel => exact ⟨i + 1, by simp, by omega, by have := HS.out; rw [Nat.succ_mul]; exact this⟩
          case measure => simp [intOf]; omega
    · have hlt' : ¬ (i : Int) < R := by omega
      obtain rfl : i = R := by omega
      go_wp2
      go_ret
      exact ⟨b + 1, rfl, seenS_rmat hR hC HS.out, by omega, HS.out.bel⟩

end Go.Proofs.YthdcceackfdbbaaGreatDoor
/- Own text: the reference: Fits for every view. -/
namespace Go.Proofs.YthdcceackfdbbaaGreatDoor
open Go Go.RowKit

set_option maxRecDepth 20000 in
set_option maxHeartbeats 2000000 in
theorem refFits_any (w : World) (R C off rs cs : Int) (n : Nat) (hn : n < 9223372036854775808) :
    Calls Tryz.prog 30 #[viewV R C off rs cs, .int .i64 (n : Int)] w fun e w' => BoolOk (FitV R C off rs cs n) e ∧ Below w.heap.size w w' := by
  have HB0 : Hid (∀ o, Below w.heap.size w (w.alloc o)) := fun o => (Below.refl _ _).alloc (Nat.le_refl _) _
  by_cases h0 : 100000 < n
  · have c0 : (100000 : Int) < n := by omega
    have HN : Hid (¬ FitV R C off rs cs n) := fun h => by have := h.1; omega
    unfold viewV
    go_enter Tryz.func30, Tryz.ntmps30
    go_wp2
    go_ret
    exact ⟨boolOk_f HN.out, HB0.out _⟩
  have c0 : ¬ (100000 : Int) < n := by omega
  by_cases h1 : R < 0
  · have HN : Hid (¬ FitV R C off rs cs n) := fun h => by have := h.2.1; omega
    unfold viewV
    go_enter Tryz.func30, Tryz.ntmps30
    go_wp2
    go_ret
    exact ⟨boolOk_f HN.out, HB0.out _⟩
  by_cases h2 : 40 < R
  · have HN : Hid (¬ FitV R C off rs cs n) := fun h => by have := h.2.1; omega
    unfold viewV
    go_enter Tryz.func30, Tryz.ntmps30
    go_wp2
    go_ret
    exact ⟨boolOk_f HN.out, HB0.out _⟩
  by_cases h3 : C < 0
  · have HN : Hid (¬ FitV R C off rs cs n) := fun h => by have := h.2.2.1; omega
    unfold viewV
    go_enter Tryz.func30, Tryz.ntmps30
    go_wp2
    go_ret
    exact ⟨boolOk_f HN.out, HB0.out _⟩
  by_cases h4 : 40 < C
  · have HN : Hid (¬ FitV R C off rs cs n) := fun h => by have := h.2.2.1; omega
    unfold viewV
    go_enter Tryz.func30, Tryz.ntmps30
    go_wp2
    go_ret
    exact ⟨boolOk_f HN.out, HB0.out _⟩
  by_cases h5 : R = 0
  · subst h5
    have HN : Hid (FitV 0 C off rs cs n) := ⟨by omega, by omega, by omega, .inl rfl⟩
    unfold viewV
    go_enter Tryz.func30, Tryz.ntmps30
    go_wp2
    go_ret
    exact ⟨boolOk_t HN.out, HB0.out _⟩
  by_cases h6 : C = 0
  · subst h6
    have HN : Hid (FitV R 0 off rs cs n) := ⟨by omega, by omega, by omega, .inr (.inl rfl)⟩
    have hr : (R == 0) = false := by simpa using h5
    unfold viewV
    go_enter Tryz.func30, Tryz.ntmps30
    go_wp2
    go_ret
    exact ⟨boolOk_t HN.out, HB0.out _⟩
  obtain ⟨r, rfl⟩ : ∃ r : Nat, R = (r : Int) := ⟨R.toNat, by omega⟩
  obtain ⟨c, rfl⟩ : ∃ c : Nat, C = (c : Int) := ⟨C.toNat, by omega⟩
  refine (refFits_main w r c off rs cs n (by omega) (by omega) (by omega)).mono ?_
  rintro e w' ⟨⟨bo, rfl, hbo⟩, hbe⟩
  refine ⟨⟨bo, rfl, hbo.trans ⟨fun h => ⟨by omega, by omega, by omega, .inr (.inr h)⟩, fun h => ?_⟩⟩, hbe⟩
  rcases h.2.2.2 with h | h | h
  · omega
  · omega
  · exact h

end Go.Proofs.YthdcceackfdbbaaGreatDoor
