import Derived.Test.YthdcceackfdbbaaGreatDoorM29K
import Derived.Test.YthdcceackfdbbaaGreatDoorM30K
import Derived.Test.YthdcceackfdbbaaGreatDoorProg
import Derived.Test.YthdcceackfdbbaaGreatDoorM32K
import Derived.WalkKit
import Derived.Lib.ConvBytes
import Derived.Lib.SmallJoins
import Derived.WideShapes
import Derived.RegionTactic
/- Own text: containers: an error stays; turned bits. -/
namespace Go.Proofs.YthdcceackfdbbaaGreatDoor
open Go Go.RowKit

theorem mark_app {l m : List UInt8} (h : ¬ markOk l) : ¬ markOk (l ++ m) := fun hh => h (fun i x hx => hh i x (by
  rw [List.getElem?_append_left (List.getElem?_eq_some_iff.1 hx).1]; exact hx))

theorem cut_app (l m : List UInt8) {a k : Nat} (h : a + k ≤ l.length) : ((l ++ m).drop a).take k = (l.drop a).take k := by
  rw [List.drop_append_of_le_length (by omega), List.take_append_of_le_length (by rw [List.length_drop]; omega)]

theorem boxE_app {l : List UInt8} (m : List UInt8) (h : boxE l ≠ 0) : boxE (l ++ m) = boxE l := by
  unfold boxE at h ⊢
  by_cases h1 : ¬ markOk l
  · rw [if_pos h1, if_pos (mark_app h1)]
  · have hm : markOk l := Classical.byContradiction h1
    rw [if_neg h1] at h
    rw [if_neg h1]
    by_cases h2 : l.length < 14
    · rw [if_pos h2] at h; exact (h rfl).elim
    · have hm' : markOk (l ++ m) := fun i x hx => by
        by_cases hi : i < l.length
        · exact hm i x (by rwa [List.getElem?_append_left hi] at hx)
        · exact ⟨fun h => by omega, fun h => by omega⟩
      have hl : (l ++ m).length = l.length + m.length := List.length_append
      rw [if_neg h2] at h
      rw [if_neg h2, if_neg (fun k => k hm'), if_neg (by omega : ¬ (l ++ m).length < 14)]
      have e10 : (l ++ m).take 10 = l.take 10 := List.take_append_of_le_length (by omega)
      have eR : rowsB (l ++ m) = rowsB l := by unfold rowsB; rw [cut_app l m (by omega)]
      have eC : colsB (l ++ m) = colsB l := by unfold colsB; rw [cut_app l m (by omega)]
      rw [cut_app l m (show 10 + 4 ≤ l.length by omega), e10, eR, eC]
      by_cases h3 : valL ((l.drop 10).take 4) ≠ sumL (l.take 10)
      · rw [if_pos h3, if_pos h3]
      · rw [if_neg h3] at h
        rw [if_neg h3, if_neg h3]
        by_cases h4 : 40 < rowsB l ∨ 40 < colsB l
        · rw [if_pos h4, if_pos h4]
        · rw [if_neg h4] at h
          rw [if_neg h4, if_neg h4]
          generalize rowsB l * colsB l = N at *
          by_cases h5 : l.length < 18 + 8 * N
          · rw [if_pos h5] at h; exact (h rfl).elim
          · rw [if_neg h5] at h
            rw [if_neg h5, if_neg (by omega : ¬ (l ++ m).length < 18 + 8 * N), cut_app l m (show 14 + 8 * N + 4 ≤ l.length by omega), cut_app l m (show 14 + 8 * N ≤ l.length by omega)]
            have en : ∀ k, k < N → numB (l ++ m) k = numB l k := fun k hk => by unfold numB; rw [cut_app l m (by omega)]
            by_cases h6 : valL ((l.drop (14 + 8 * N)).take 4) ≠ sumL ((l.drop 14).take (8 * N))
            · rw [if_pos h6, if_pos h6]
            · rw [if_neg h6] at h
              rw [if_neg h6, if_neg h6]
              have e7 : (∃ k, k < N ∧ canon (numB (l ++ m) k) ≠ numB (l ++ m) k) ↔ ∃ k, k < N ∧ canon (numB l k) ≠ numB l k :=
                ⟨fun ⟨k, hk, h⟩ => ⟨k, hk, by rwa [en k hk] at h⟩, fun ⟨k, hk, h⟩ => ⟨k, hk, by rwa [en k hk]⟩⟩
              by_cases h7 : ∃ k, k < N ∧ canon (numB l k) ≠ numB l k
              · rw [if_pos h7, if_pos (e7.2 h7)]
              · rw [if_neg h7] at h
                rw [if_neg h7, if_neg (fun k => h7 (e7.1 k))]
                by_cases h8 : 18 + 8 * N < l.length
                · rw [if_pos h8, if_pos (by omega)]
                · rw [if_neg h8] at h; exact (h rfl).elim

theorem boxE_nil : boxE [] = 0 := by
  unfold boxE
  rw [if_neg (fun k => k (fun i x hx => by simp at hx)), if_pos (by decide)]

theorem box_take (l : List UInt8) : ∀ n, n ≤ l.length → (bytesF (.box []) (l.take n)).1 = boxE (l.take n) ∧ (boxE (l.take n) = 0 → bytesF (.box []) (l.take n) = (0, .box (l.take n)))
  | 0, _ => by rw [List.take_zero, boxE_nil]; exact ⟨rfl, fun _ => rfl⟩
  | n + 1, hn => by
    obtain ⟨h1, h2⟩ := box_take l n (by omega)
    have e : l.take (n + 1) = l.take n ++ [l[n]'(by omega)] := by rw [List.take_add_one]; simp [show n < l.length by omega]
    rw [e]
    by_cases h0 : boxE (l.take n) = 0
    · rw [bytesF_snoc (h2 h0)]
      refine ⟨rfl, fun h => ?_⟩
      simp only [takeF, h]
    · rw [boxE_app _ h0, bytesF_app (by rw [h1]; exact h0)]
      exact ⟨h1, fun h => (h0 h).elim⟩

/-- the bytes of a container at once -/
theorem box_bytes (l : List UInt8) : (bytesF (.box []) l).1 = boxE l ∧ (boxE l = 0 → bytesF (.box []) l = (0, .box l)) := by
  have := box_take l l.length (Nat.le_refl _)
  rwa [List.take_length] at this

theorem valL_take (l : List UInt8) : ∀ n, valL (l.take n) = valL l % 256 ^ n := by
  induction l with
  | nil => intro n; simp [valL]
  | cons b r ih =>
    intro n
    cases n with
    | zero => simp [valL, Nat.mod_one]
    | succ n =>
      have hb := b.toNat_lt
      rw [List.take_succ_cons]
      simp only [valL]
      rw [ih n, Nat.pow_succ, Nat.mul_comm (256 ^ n), Nat.mod_mul]
      have e1 : (b.toNat + 256 * valL r) % 256 = b.toNat := by omega
      have e2 : (b.toNat + 256 * valL r) / 256 = valL r := by omega
      rw [e1, e2]

theorem valL_drop (l : List UInt8) : ∀ n, valL (l.drop n) = valL l / 256 ^ n := by
  induction l with
  | nil => intro n; simp [valL]
  | cons b r ih =>
    intro n
    cases n with
    | zero => simp
    | succ n =>
      have hb := b.toNat_lt
      rw [List.drop_succ_cons, ih n, Nat.pow_succ, Nat.mul_comm (256 ^ n), ← Nat.div_div_eq_div_mul]
      simp only [valL]
      have e2 : (b.toNat + 256 * valL r) / 256 = valL r := by omega
      rw [e2]

theorem valL_inj : ∀ {a b : List UInt8}, a.length = b.length → valL a = valL b → a = b
  | [], [], _, _ => rfl
  | [], _ :: _, h, _ => by simp at h
  | _ :: _, [], h, _ => by simp at h
  | x :: r, y :: s, h, hv => by
    simp only [valL] at hv
    have hx := x.toNat_lt
    have hy := y.toNat_lt
    have e1 : x = y := UInt8.toNat_inj.1 (by omega)
    have e2 : r = s := valL_inj (by simpa using h) (by omega)
    rw [e1, e2]

theorem p256 (n : Nat) : (256 : Nat) ^ n = 2 ^ (8 * n) := by rw [Nat.pow_mul]

theorem valL_bits (b : UInt8) (r : List UInt8) (j : Nat) : (valL (b :: r)).testBit j = if j < 8 then b.toNat.testBit j else (valL r).testBit (j - 8) := by
  have := Nat.testBit_two_pow_mul_add (valL r) (b := b.toNat) (i := 8) b.toNat_lt j
  simp only [valL]
  rw [Nat.add_comm]
  exact this

/-- a bit that is turned -/
theorem valL_flip : ∀ (l : List UInt8) (k : Nat) (x : UInt8), l[k / 8]? = some x → valL (l.set (k / 8) (UInt8.ofNat (x.toNat ^^^ 2 ^ (k % 8)))) = valL l ^^^ 2 ^ k
  | [], k, x, h => by simp at h
  | b :: r, k, x, h => by
    apply Nat.eq_of_testBit_eq
    intro j
    rw [Nat.testBit_xor, Nat.testBit_two_pow, valL_bits]
    by_cases hk : k < 8
    · have e0 : k / 8 = 0 := by omega
      have e1 : k % 8 = k := by omega
      rw [e0] at h
      simp at h
      subst h
      rw [e0, e1, List.set_cons_zero, valL_bits]
      have hlt : b.toNat ^^^ 2 ^ k < 2 ^ 8 := Nat.xor_lt_two_pow b.toNat_lt (Nat.pow_lt_pow_right (by omega) hk)
      have hn : (UInt8.ofNat (b.toNat ^^^ 2 ^ k)).toNat = b.toNat ^^^ 2 ^ k := by rw [UInt8.toNat_ofNat']; exact Nat.mod_eq_of_lt hlt
      rw [hn, Nat.testBit_xor, Nat.testBit_two_pow]
      by_cases hj : j < 8
      · rw [if_pos hj, if_pos hj]
      · rw [if_neg hj, if_neg hj, decide_eq_false (show ¬ k = j by omega), Bool.xor_false]
    · obtain ⟨i, hi⟩ : ∃ i, k = i + 8 := ⟨k - 8, by omega⟩
      subst hi
      have e0 : (i + 8) / 8 = i / 8 + 1 := by omega
      have e1 : (i + 8) % 8 = i % 8 := by omega
      rw [e0] at h
      rw [e0, e1, List.set_cons_succ, valL_bits]
      have ih := valL_flip r i x (by simpa using h)
      rw [ih, Nat.testBit_xor, Nat.testBit_two_pow]
      by_cases hj : j < 8
      · rw [if_pos hj, if_pos hj, decide_eq_false (show ¬ i + 8 = j by omega), Bool.xor_false]
      · rw [if_neg hj, if_neg hj]
        congr 1
        rw [Bool.eq_iff_iff]; simp; omega

theorem xor_add_pow {a k : Nat} (h : a < 2 ^ k) : a ^^^ 2 ^ k = a + 2 ^ k := by
  apply Nat.eq_of_testBit_eq
  intro j
  have e : a + 2 ^ k = 2 ^ k * 1 + a := by omega
  rw [e, Nat.testBit_two_pow_mul_add 1 h, Nat.testBit_xor, Nat.testBit_two_pow]
  by_cases hj : j < k
  · rw [if_pos hj, decide_eq_false (by omega), Bool.xor_false]
  · rw [if_neg hj, Nat.testBit_lt_two_pow (Nat.lt_of_lt_of_le h (Nat.pow_le_pow_right (by omega) (by omega))), Bool.false_xor]
    rw [Bool.eq_iff_iff, Nat.testBit_one_eq_true_iff_self_eq_zero, decide_eq_true_eq]
    omega

/-- the first word of a line -/
theorem wordsGo_head : ∀ (l cur x : List UInt8) (rest : List (List UInt8)), cur ≠ [] → wordsGo cur l = x :: rest → ∃ m, cur ++ l = x ++ m
  | [], cur, x, rest, hc, h => by
    simp only [wordsGo] at h
    rw [if_neg hc] at h
    cases h
    exact ⟨[], rfl⟩
  | b :: r, cur, x, rest, hc, h => by
    simp only [wordsGo] at h
    split at h
    · try rw [if_neg hc] at h
      cases h
      exact ⟨b :: r, rfl⟩
    · obtain ⟨m, hm⟩ := wordsGo_head r (cur ++ [b]) x rest (by simp) h
      exact ⟨m, by rw [← hm]; simp⟩

theorem firstWL_mark (k : Nat) : ∃ r, firstWL k = [37, 37, 77, 97, 116, 114, 105, 120, 77, 97, 114, 107, 101, 116] :: r := by
  unfold firstWL firstW
  split <;> exact ⟨_, rfl⟩

theorem split10 : ∀ l : List UInt8, (∀ b ∈ l, b ≠ 10) ∨ ∃ a z, l = a ++ 10 :: z ∧ ∀ b ∈ a, b ≠ 10
  | [] => .inl (by simp)
  | b :: r => by
    by_cases hb : b = 10
    · exact .inr ⟨[], r, by rw [hb]; rfl, by simp⟩
    · rcases split10 r with h | ⟨a, z, h1, h2⟩
      · exact .inl (by intro c hc; rcases List.mem_cons.1 hc with rfl | hc; · exact hb
                       exact h c hc)
      · exact .inr ⟨b :: a, z, by rw [h1]; rfl, by intro c hc; rcases List.mem_cons.1 hc with rfl | hc; · exact hb
                                                   exact h2 c hc⟩

/-- a line that is too long -/
theorem bytesF_long {t : TSt} {l : List UInt8} (h : ∀ b ∈ l, b ≠ 10) (hl : 200 < l.length) (m : List UInt8) : (bytesF (.text t []) (l ++ m)).1 = 7 := by
  have e : l = l.take 200 ++ (l[200]'hl :: l.drop 201) := by
    conv => lhs; rw [← List.take_append_drop 200 l]
    rw [List.drop_eq_getElem_cons hl]
  have h1 : bytesF (.text t []) (l.take 200) = (0, .text t (l.take 200)) := by
    have := bytesF_line (t := t) (cur := []) (l := l.take 200) (fun b hb => h b (List.mem_of_mem_take hb)) (by simp; omega)
    simpa using this
  have h2 : bytesF (.text t []) (l.take 200 ++ [l[200]'hl]) = (7, .text t (l.take 200)) := by
    rw [bytesF_snoc h1]
    simp only [takeF]
    unfold takeT
    rw [if_neg (h _ (List.getElem_mem hl)), if_pos (by rw [List.length_take]; omega)]
    rfl
  rw [e, List.append_assoc]
  have : l.take 200 ++ (l[200]'hl :: l.drop 201 ++ m) = (l.take 200 ++ [l[200]'hl]) ++ (l.drop 201 ++ m) := by rw [List.append_assoc (l.take 200) [l[200]'hl]]; rfl
  rw [this, bytesF_app (by rw [h2]; show (7 : Int) ≠ 0; decide), h2]

/-- a text that is read to its end begins with its mark -/
theorem text_mark {l : List UInt8} (h1 : l.head? = some 37) (h : (bytesF (.text .first []) l).1 = 0) (he : endF (bytesF (.text .first []) l).2 ≠ none) : l[5]? = some 114 := by
  rcases split10 l with h0 | ⟨a, z, rfl, ha⟩
  · exfalso
    by_cases hl : 200 < l.length
    · have := bytesF_long (t := .first) h0 hl []
      rw [List.append_nil, h] at this
      cases this
    · have e := bytesF_line (t := .first) (cur := []) h0 (by simp; omega)
      rw [e] at he
      exact he rfl
  · by_cases hl : 200 < a.length
    · have := bytesF_long (t := .first) ha hl (10 :: z)
      rw [h] at this
      cases this
    · have e := bytesF_lineE (t := .first) (l := a) ha (by omega)
      cases a with
      | nil => simp at h1
      | cons b r =>
        have hb : b = 37 := by simpa using h1
        subst hb
        have hne : wordsL (37 :: r) ≠ [] := by
          unfold wordsL
          simp only [wordsGo]
          rw [if_neg (by decide)]
          intro hh
          have : ∀ (l cur : List UInt8), cur ≠ [] → wordsGo cur l ≠ [] := by
            intro l
            induction l with
            | nil => intro cur hc hh; simp only [wordsGo] at hh; rw [if_neg hc] at hh; cases hh
            | cons x r ih =>
              intro cur hc hh
              simp only [wordsGo] at hh
              split at hh
              · try rw [if_neg hc] at hh
                cases hh
              · exact ih _ (by simp) hh
          exact this _ _ (by simp) hh
        have hlt : lineT .first (37 :: r) = firstT (wordsL (37 :: r)) := by
          unfold lineT
          rw [if_neg hne]
          rfl
        cases hk : firstK (wordsL (37 :: r)) with
        | none =>
          exfalso
          have e2 : (bytesF (.text .first []) ((37 :: r) ++ [10])).1 = 6 := by rw [e, hlt]; unfold firstT; rw [hk]; rfl
          have e3 : (37 :: r) ++ 10 :: z = ((37 :: r) ++ [10]) ++ z := by simp
          rw [e3, bytesF_app (by rw [e2]; decide), e2] at h
          cases h
        | some k =>
          have hw : wordsL (37 :: r) = firstWL k := by
            unfold firstK at hk
            have := List.find?_some hk
            simpa using this
          obtain ⟨q, hq⟩ := firstWL_mark k
          rw [hq] at hw
          have hw2 : wordsGo [37] r = [37, 37, 77, 97, 116, 114, 105, 120, 77, 97, 114, 107, 101, 116] :: q := by
            rw [← hw]
            unfold wordsL
            simp only [wordsGo]
            rw [if_neg (by decide)]
            rfl
          obtain ⟨m, hm⟩ := wordsGo_head r [37] _ q (by simp) hw2
          have hm' : (37 :: r : List UInt8) = [37, 37, 77, 97, 116, 114, 105, 120, 77, 97, 114, 107, 101, 116] ++ m := hm
          rw [hm']
          rfl

/-- a container with bits turned in a row of 32 is none -/
theorem turned_none {s t : List UInt8} {kind R C : Nat} {es : List (Nat × Nat × Nat)} (h : BoxS s kind R C es) {first mask : Nat} (hlen : t.length = s.length) (hx : valL s ^^^ valL t = mask * 2 ^ first) (hm : mask < 4294967296) (hm0 : mask ≠ 0) (h0 : (feedS .begin t).1 = 0) (h1 : (endS (feedS .begin t).2).2.1 = 0) : False := by
  have hsl := h.length
  have hne : t ≠ s := by
    intro e
    rw [e, Nat.xor_self] at hx
    have := Nat.mul_pos (Nat.pos_of_ne_zero hm0) (Nat.two_pow_pos first)
    omega
  cases ht : t with
  | nil => rw [ht] at hlen; simp at hlen; omega
  | cons b r =>
    have hf : ∀ z, feedS .begin (b :: z) = match fileS b with | some s => filR (bytesF s (b :: z)) | none => (6, .failed 6) := fun z => rfl
    rw [ht, hf] at h0 h1
    have hgo : ∀ s0, fileS b = some s0 → (bytesF s0 t).1 = 0 ∧ endF (bytesF s0 t).2 ≠ none := by
      intro s0 hs
      rw [hs] at h0 h1
      simp only at h0 h1
      rw [← ht] at h0 h1
      unfold filR at h0 h1
      by_cases hz : (bytesF s0 t).1 = 0
      · rw [if_pos hz] at h1
        refine ⟨hz, fun hn => ?_⟩
        simp only [endS, hn] at h1
        cases h1
      · rw [if_neg hz] at h0; exact (hz h0).elim
    by_cases hb1 : b = 37
    · subst hb1
      obtain ⟨h2, h3⟩ := hgo _ rfl
      have h5 := text_mark (by rw [ht]; rfl) h2 h3
      -- the first byte was turned: byte 5 was not
      obtain ⟨q, hq⟩ := h.hd6
      have hs5 : s[5]? = some (if kind = 5 then 1 else 0) := by rw [hq]; rfl
      have hs0 : s[0]? = some 65 := by rw [hq]; rfl
      have ev : ∀ (l : List UInt8) (i : Nat) (x : UInt8), l[i]? = some x → valL l / 256 ^ i % 256 = x.toNat := by
        intro l i x hx
        rw [← valL_drop, List.drop_eq_getElem_cons (List.getElem?_eq_some_iff.1 hx).1]
        simp only [valL]
        have := (List.getElem?_eq_some_iff.1 hx).2
        rw [this]
        have := x.toNat_lt
        omega
      have xm : ∀ (a c i : Nat), (a ^^^ c) / 256 ^ i % 256 = (a / 256 ^ i % 256) ^^^ (c / 256 ^ i % 256) := by
        intro a c i
        rw [p256, Nat.xor_div_two_pow, show 256 = 2 ^ 8 by rfl, Nat.xor_mod_two_pow]
      have e5 := xm (valL s) (valL t) 5
      rw [hx, ev s 5 _ hs5, ev t 5 _ h5] at e5
      have e0 := xm (valL s) (valL t) 0
      rw [hx, ev s 0 _ hs0, ev t 0 37 (by rw [ht]; rfl)] at e0
      have hfirst : first < 8 := by
        apply Classical.byContradiction
        intro hge
        have : mask * 2 ^ first / 256 ^ 0 % 256 = 0 := by
          rw [Nat.pow_zero, Nat.div_one]
          have : 2 ^ first = 2 ^ (first - 8) * 256 := by rw [show 256 = 2 ^ 8 by rfl, ← Nat.pow_add]; congr 1; omega
          rw [this, ← Nat.mul_assoc]
          exact Nat.mul_mod_left _ _
        rw [this] at e0
        exact absurd e0 (by decide)
      have h5z : mask * 2 ^ first / 256 ^ 5 % 256 = 0 := by
        have hp : 2 ^ first ≤ 2 ^ 7 := Nat.pow_le_pow_right (by omega) (by omega)
        have : mask * 2 ^ first ≤ 4294967295 * 2 ^ 7 := Nat.mul_le_mul (by omega) hp
        rw [Nat.div_eq_of_lt (by omega)]
      rw [h5z] at e5
      split at e5
      · exact absurd e5 (by decide)
      · exact absurd e5 (by decide)
    · by_cases hb2 : b = 65
      · subst hb2
        obtain ⟨h2, h3⟩ := hgo _ rfl
        obtain ⟨h4, h5⟩ := box_bytes t
        have hE : boxE t = 0 := h4.symm.trans h2
        rw [h5 hE] at h3
        have hw : wholeB t := by
          apply Classical.byContradiction
          intro hn
          simp only [endF] at h3
          rw [if_neg hn] at h3
          exact h3 rfl
        obtain ⟨hok, hwl⟩ := hw
        have hsw := h.whole
        have hlenT : (t.take 14).length = 14 := by rw [List.length_take]; have := hok.len; omega
        have hlenS : (s.take 14).length = 14 := by rw [List.length_take]; omega
        have hd : ∀ l : List UInt8, 14 ≤ l.length → l.take 10 ++ (l.drop 10).take 4 = l.take 14 := by
          intro l _
          exact (List.take_add (l := l) (i := 10) (j := 4)).symm
        have rT := sum_run (d := t.take 10) (c := (t.drop 10).take 4) (by simp; have := hok.len; omega) hok.sum
        have rS := sum_run (d := s.take 10) (c := (s.drop 10).take 4) (by simp; omega) h.sum
        rw [hd t hok.len, hlenT] at rT
        rw [hd s (by omega), hlenS] at rS
        have e14 : valL (s.take 14) = valL (t.take 14) := by
          refine burst (N := 14) (A := 0) (first := first) (mask := mask) hlenS hlenT rS rT hm ?_
          rw [valL_take, valL_take, p256, ← Nat.xor_mod_two_pow, hx, Nat.pow_zero, Nat.div_one]
        have q14 : s.take 14 = t.take 14 := valL_inj (by rw [hlenS, hlenT]) e14
        have eR : rowsB t = R := by
          rw [← h.rows]; unfold rowsB
          rw [← cut_take t (n := 14) (by omega), ← cut_take s (n := 14) (by omega), q14]
        have eC : colsB t = C := by
          rw [← h.cols]; unfold colsB
          rw [← cut_take t (n := 14) (by omega), ← cut_take s (n := 14) (by omega), q14]
        rw [eR, eC] at hwl
        have hps : valL ((t.drop (14 + 8 * (R * C))).take 4) = sumL ((t.drop 14).take (8 * (R * C))) := by
          apply Classical.byContradiction
          intro hn
          unfold boxE at hE
          rw [if_neg (fun k => k hok.mark), if_neg (by have := hok.len; omega), if_neg (fun k => k hok.sum), if_neg (by have := hok.hR; have := hok.hC; omega), eR, eC, if_neg (by omega), if_pos hn] at hE
          cases hE
        have hsps := h.paySum
        have hdd : ∀ l : List UInt8, l.length = 18 + 8 * (R * C) → (l.drop 14).take (8 * (R * C)) ++ (l.drop (14 + 8 * (R * C))).take 4 = l.drop 14 := by
          intro l hl
          rw [← List.drop_drop]
          have := (List.take_add (l := l.drop 14) (i := 8 * (R * C)) (j := 4)).symm
          rw [this, List.take_of_length_le (by rw [List.length_drop]; omega)]
        have lT : (t.drop 14).length = 8 * (R * C) + 4 := by rw [List.length_drop]; omega
        have lS : (s.drop 14).length = 8 * (R * C) + 4 := by rw [List.length_drop]; omega
        have rT2 := sum_run (d := (t.drop 14).take (8 * (R * C))) (c := (t.drop (14 + 8 * (R * C))).take 4) (by simp; omega) hps
        have rS2 := sum_run (d := (s.drop 14).take (8 * (R * C))) (c := (s.drop (14 + 8 * (R * C))).take 4) (by simp; omega) hsps
        rw [hdd t hwl, lT] at rT2
        rw [hdd s hsl, lS] at rS2
        have eD : valL (s.drop 14) = valL (t.drop 14) := by
          refine burst (N := 8 * (R * C) + 4) (A := 112) (first := first) (mask := mask) lS lT rS2 rT2 hm ?_
          have hlt : ∀ z : List UInt8, z.length = 8 * (R * C) + 4 → valL z < 2 ^ (8 * (8 * (R * C) + 4)) := fun z hz => by
            have := valL_lt z
            rw [hz, p256] at this
            exact this
          rw [← hx, ← Nat.mod_eq_of_lt (Nat.xor_lt_two_pow (hlt _ lS) (hlt _ lT)), valL_drop, valL_drop, p256, ← Nat.xor_div_two_pow]
        have qD : s.drop 14 = t.drop 14 := valL_inj (by rw [lS, lT]) eD
        apply hne
        rw [← List.take_append_drop 14 t, ← List.take_append_drop 14 s, q14, qD]
      · have hn : fileS b = none := by unfold fileS; rw [if_neg hb1, if_neg hb2]
        rw [hn] at h0
        cases h0

end Go.Proofs.YthdcceackfdbbaaGreatDoor
/- Own text: rows of bytes (the first part of Up). -/
namespace Go.Proofs.YthdcceackfdbbaaGreatDoor
open Go.RowKit

/-- The bytes l lie in block g. -/
structure Row8 (w : World) (g : Nat) (l : List UInt8) : Prop where
  cell : ∀ (j : Nat) (x : UInt8), l[j]? = some x → w.cell? ⟨g, j, none⟩ = some (.int .u8 (x.toNat : Int))
  fr : ∀ j, j < l.length → w.frozen? ⟨g, j, none⟩ = false

theorem Row8.set {w : World} {g k : Nat} {l : List UInt8} {y : UInt8} (h : Row8 w g l) (hk : k < l.length) : Row8 (w.setCell ⟨g, k, none⟩ (.int .u8 (y.toNat : Int))) g (l.set k y) := by
  refine ⟨?_, ?_⟩
  · intro j x hj
    by_cases hjk : k = j
    · subst hjk
      rw [List.getElem?_set_self hk] at hj
      cases hj
      exact World.cell?_setCell_same _ _ _ (h.cell k l[k] (by simp [hk]))
    · rw [List.getElem?_set_ne hjk] at hj
      rw [World.cell?_setCell_other _ _ _ _ (by intro he; injection he with _ he; exact hjk he)]
      exact h.cell j x hj
  · intro j hj
    rw [List.length_set] at hj
    simpa using h.fr j hj

theorem row_bytes (w : World) (s : ByteArray) : Row8 (Lib.bytesWorld w 5 s) w.heap.size s.data.toList := by
  have hl : s.data.toList.length = s.size := by simp
  refine ⟨?_, ?_⟩
  · intro j x hj
    have hlt := (List.getElem?_eq_some_iff.1 hj).1
    rw [Lib.bytesWorld_cell w _ s j (by omega)]
    simp [List.getD, hj]
  · intro j hj
    unfold World.frozen?
    simp [Lib.bytesWorld_at_new]
    intro h
    have : s.size ≤ (Lib.bytesCells w 5 s).size := by unfold Lib.bytesCells; simp
    omega

theorem row_string {w : World} {g cap : Nat} {l : List UInt8} (h : Row8 w g l) {n : Nat} (hn : n = l.length) :
    (convert 72 9 (.slice (some ⟨g, 0, none⟩) n cap)).run Tryz.prog w = .ok (.string ⟨l.toArray⟩) w := by
  subst hn
  refine run_convert_bytes_back w 72 9 5 ⟨g, 0, none⟩ cap l Tryz.underlying72 Tryz.underlying5 Tryz.underlying9 ?_
  intro j hj
  rw [show (⟨g, 0, none⟩ : Addr).add j = ⟨g, j, none⟩ by unfold Addr.add; split <;> simp_all]
  exact h.cell j l[j] (by simp [hj])


end Go.Proofs.YthdcceackfdbbaaGreatDoor
/- Own text: the law Turned. -/
namespace Go.Proofs.YthdcceackfdbbaaGreatDoor
open Go Go.RowKit

set_option maxRecDepth 20000 in
set_option maxHeartbeats 1000000 in
theorem turned_law (w : World) (ao : Option Addr) (n cap : Nat) (xs : List Nat) (hn : xs.length = n) (hn1 : n ≤ 20000000000000) (hbuf : BufIs w ao xs) (a b c at_ bits_ : Int)
    (ha1 : -9223372036854775808 ≤ a) (ha2 : a ≤ 9223372036854775807) (hb1 : -9223372036854775808 ≤ b) (hb2 : b ≤ 9223372036854775807) (hc1 : -9223372036854775808 ≤ c) (hc2 : c ≤ 9223372036854775807) (ht1 : -9223372036854775808 ≤ at_) (ht2 : at_ ≤ 9223372036854775807) (hp1 : -9223372036854775808 ≤ bits_) (hp2 : bits_ ≤ 9223372036854775807)
    (htab : Lib.TabIs Tryz.prog w "internal/strconv.uint64pow10" .u64 Lib.pow10Tab) :
    Calls Tryz.prog 8 #[.slice ao n cap, .int .i64 a, .int .i64 b, .int .i64 c, .int .i64 at_, .int .i64 bits_] w fun e w' => e = .returned (.bool true) ∧ Below w.heap.size w w' := by
  have hmix : Tryz.prog.follows .mixedOrders = true := by kernel_rfl
  obtain ⟨i0, hi, hz0, hz1, hz2⟩ := info_parts Tryz.infoU64
  have HMK : Hid (∀ (N : Nat), N ≤ 1600 → ∀ w : World, (Instr.makeSlice 22 (.int .i64 (N : Int)) (.int .i64 (N : Int))).run Tryz.prog w = .ok (.slice (some ⟨w.heap.size, 0, none⟩) N N) (w.alloc (.cells (Array.replicate N (.int .u64 0)) 65))) := fun N hN w => run_make1 (P := Tryz.prog) 22 65 i0 (.int .u64 0) Tryz.underlying22 hi hz0 hz1 rfl N (by rw [hz2]; omega) (by omega) w
  clear hi hz0 hz1 hz2
  obtain ⟨B, hB⟩ : ∃ B, w.heap.size = B := ⟨_, rfl⟩
  have HPR : Hid (∀ x, x < 18446744073709551616 → PrintOk x (prL x) ∧ (prL x).length ≤ 100) := fun x hx => prL_ok htab hx
  have HBUF := hid hbuf
  have HT := hid htab
  have KP := hid (fun (w : World) (z m : Int) (h1 : -9223372036854775808 ≤ z) (h2 : z ≤ 9223372036854775807) (h3 : 0 < m) (h4 : m ≤ 9223372036854775807) => kpick w z m h1 h2 h3 h4)
  clear hbuf htab
  rw [hB]
  go_enter Tryz.func8, Tryz.ntmps8
  go_wp2_with fail
  refine (KP.out w c 2 hc1 hc2 (by omega) (by omega)).mono ?_
  rintro e w1 ⟨⟨k0, rfl, hk0⟩, rfl⟩
  obtain ⟨k, hk⟩ : ∃ k : Nat, 4 + (k0 : Int) = (k : Int) := ⟨4 + k0, by omega⟩
  have hk45 : k = 4 ∨ k = 5 := by omega
  go_wp2_with fail
  clear hk
  refine (KP.out w1 a 6 ha1 ha2 (by omega) (by omega)).mono ?_
  rintro e w2 ⟨⟨R, rfl, hR⟩, rfl⟩
  go_wp2_with fail
  refine (KP.out w2 b 6 hb1 hb2 (by omega) (by omega)).mono ?_
  rintro e w3 ⟨⟨C, rfl, hC⟩, rfl⟩
  have hSQ := square_any w3 ao n cap xs hn hn1 HBUF.out R C k (by omega) (by omega)
  rw [hB] at hSQ
  have HSQ := hid hSQ
  clear hSQ
  unfold viewV at HSQ
  go_wp2_with fail
  refine HSQ.out.mono ?_
  rintro e W4 ⟨D, mo, mcap, ys, rfl, hD, hDR, hsy, hlen, hlt, hbuf, hown, hbel⟩
  obtain ⟨L, hL, hRT, hL1, hL2, hbx⟩ := file_ok hlen hlt (show R ≤ 40 by omega) hD (show k ≤ 5 by omega) hDR hsy HPR.out
  have hbx := hbx hk45
  have hL18 : L.length = 18 + 8 * (R * D) := by rw [hbx]; exact (boxS_of hk45 (by omega) hD).length
  have HBX : Hid (BoxS L k R D (entL k R D (seenF ys 0 (D : Int) 1))) := by show BoxS _ _ _ _ _; rw [hbx]; exact boxS_of hk45 (by omega) hD
  clear hbx
  clear hDR hsy
  have hN : R * D ≤ 1600 := Nat.mul_le_mul (show R ≤ 40 by omega) hD
  have hz4 : B ≤ W4.heap.size := by have := hbel.size; omega
  have bV : Below B w3 (W4.alloc (.cells #[.int .i64 (R : Int), .int .i64 (D : Int), .int .i64 0, .int .i64 (D : Int), .int .i64 1] 24)) := hbel.alloc hz4 _
  have hF := kfile_any (W4.alloc (.cells #[.int .i64 (R : Int), .int .i64 (D : Int), .int .i64 0, .int .i64 (D : Int), .int .i64 1] 24)) mo (R * D) mcap ys hlen hN (hbuf.below (Below.refl' _ _)) R D k 1000 L hL hL2 (by omega) (by omega) (tab_below HT.out (hB ▸ bV))
  obtain ⟨q, hq⟩ : ∃ q, W4.heap.size = q := ⟨_, rfl⟩
  have aV : Arr (W4.alloc (.cells #[.int .i64 (R : Int), .int .i64 (D : Int), .int .i64 0, .int .i64 (D : Int), .int .i64 1] 24)) q 24 [.int .i64 (R : Int), .int .i64 (D : Int), .int .i64 0, .int .i64 (D : Int), .int .i64 1] := by rw [← hq]; exact Arr.newL _ _ _
  have hBq : B ≤ q := by omega
  have HF := hid hF
  have HAV := hid aV
  have HBV := hid bV
  have HQ := hid hq
  have HRT := hid hRT
  have HL1 := hid hL1
  clear hF aV bV hq hRT hL1 HSQ hbel hlen hlt hbuf hown hL
  generalize R * D = N at *
  unfold viewV at HF
  go_wp2_with fail
  refine HF.out.mono ?_
  rintro e W5 ⟨⟨s, rfl, hs⟩, b5⟩
  rw [HQ.out]
  have HA5 := hid (HAV.out.belowAll b5)
  have HB5 := hid (HBV.out.trans (b5.mono (by have := HBV.out.size; omega)))
  have HZ5 : Hid (q < W5.heap.size) := by show _ < _; exact HA5.out.lt
  clear b5 HF HAV HBV
  have hss : s.size = L.length := bytes_size hs
  have hs1 : ¬ (s.size : Int) < 18 := by omega
  have hs2 : s.size ≤ 100000 := by omega
  have HS := hid hs
  clear hs hss HL1 hL2
  -- TAIL
  have hconv := Lib.run_convert_string_bytes (P := Tryz.prog) W5 9 72 5 s Tryz.underlying9 Tryz.underlying72 Tryz.underlying5
  have hrow := row_bytes W5 s
  have hbel : Below W5.heap.size W5 (Lib.bytesWorld W5 5 s) := Go.Joins.below_bytesWorld _ W5 5 s (Nat.le_refl _)
  obtain ⟨g, hg⟩ : ∃ g, W5.heap.size = g := ⟨_, rfl⟩
  have hbsz := Lib.bytesWorld_size W5 5 s
  rw [hg] at hconv hrow hbel hbsz
  generalize grownCap W5 s.size 0 5 = tcap at *
  generalize Lib.bytesWorld W5 5 s = X at *
  have hBg : B ≤ g := by have := HZ5.out; omega
  rw [HS.out] at hrow
  have HROW := hid hrow
  have HBX5 : Hid (Below B w3 X) := HB5.out.trans (hbel.mono hBg)
  have HGX : Hid (g < X.heap.size) := by show _ < _; omega
  have hLs : L.length = s.size := by rw [← HS.out]; exact (bytes_size rfl).symm
  clear hrow hbel hbsz hg HB5 HA5 HZ5
  go_wp2_with fail
  clear hconv
  obtain ⟨q8, hq8⟩ : ∃ q8 : Nat, 8 * (s.size : Int) - 31 = (q8 : Int) := ⟨8 * s.size - 31, by omega⟩
  rw [hq8]
  refine (KP.out X at_ q8 ht1 ht2 (by omega) (by omega)).mono ?_
  rintro e X1 ⟨⟨first, rfl, hfirst⟩, rfl⟩
  have hf8 : first + 31 < 8 * s.size := by omega
  clear hq8 hfirst
  go_wp2_with fail
  refine (KP.out X1 bits_ 4294967295 hp1 hp2 (by omega) (by omega)).mono ?_
  rintro e X2 ⟨⟨m0, rfl, hm0⟩, rfl⟩
  obtain ⟨mask, hmask⟩ : ∃ mask : Nat, 1 + (m0 : Int) = (mask : Int) := ⟨1 + m0, by omega⟩
  have hmk1 : 1 ≤ mask := by omega
  have hmk2 : mask < 4294967296 := by omega
  go_wp2_with fail
  clear hm0
  go_loopw [21, 22] (fun vi _ wr => ∃ (i : Nat) (T : List UInt8), vi = .int .i64 (i : Int) ∧ i ≤ 32 ∧ Hid (T.length = s.size) ∧ Hid (Row8 wr g T) ∧ Hid (valL L ^^^ valL T = (mask % 2 ^ i) * 2 ^ first) ∧ Hid (Below B w3 wr) ∧ Hid (g < wr.heap.size)) (fun vi _ _ => 32 - (intOf vi).toNat)
  case atStart => exact ⟨0, L, rfl, by omega, hLs, HROW, by show _ = _; rw [Nat.xor_self, Nat.pow_zero, Nat.mod_one, Nat.zero_mul], HBX5, HGX⟩
  case round =>
    clear HROW HBX5 HGX
    obtain ⟨i, T, rfl, hi, HTL, HROW, HX, HB, HG⟩ := hrel
    by_cases hlt : i < 32
    · have hlt' : (i : Int) < 32 := by omega
      have eb : bits BinOp.and IntKind.i64 ((mask : Int) / 2 ^ i) 1 = ((mask / 2 ^ i % 2 : Nat) : Int) := by
        have e : ((mask : Int) / 2 ^ i) = ((mask / 2 ^ i : Nat) : Int) := by simp
        rw [e]; exact and_one_i64 _ (Nat.lt_of_le_of_lt (Nat.div_le_self _ _) (by omega))
      have hstep : mask % 2 ^ (i + 1) = mask % 2 ^ i + 2 ^ i * (mask / 2 ^ i % 2) := by
        rw [Nat.pow_succ, Nat.mod_mul]
      by_cases hbit : mask / 2 ^ i % 2 = 1
      · have hbt : (bits BinOp.and IntKind.i64 ((mask : Int) / 2 ^ i) 1 == 1) = true := by rw [eb, hbit]; rfl
        obtain ⟨kk, hkk⟩ : ∃ kk : Nat, (first : Int) + (i : Int) = (kk : Int) := ⟨first + i, by omega⟩
        obtain ⟨d, hd⟩ : ∃ d, kk / 8 = d := ⟨_, rfl⟩
        obtain ⟨r, hr⟩ : ∃ r, kk % 8 = r := ⟨_, rfl⟩
        have hds : d < s.size := by omega
        have hr8 : r < 8 := by omega
        obtain ⟨x, hx⟩ : ∃ x, T[d]? = some x := ⟨T[d]'(by rw [HTL.out]; exact hds), by simp⟩
        have hx8 := x.toNat_lt
        have c1 := HROW.out.cell _ _ hx
        have f1 := HROW.out.fr d (by rw [HTL.out]; exact hds)
        have hq1 : (kk : Int) / 8 = (d : Int) := by omega
        have hq2 : (kk : Int) % 8 = (r : Int) := by omega
        have hds' : (d : Int) < (s.size : Int) := by omega
        have hpow : 2 ^ r ≤ 2 ^ 7 := Nat.pow_le_pow_right (by omega) (by omega)
        have hpe : ((2 ^ r : Nat) : Int) = (2 : Int) ^ r := by push_cast; rfl
        have hxx : bits BinOp.xor IntKind.u8 (x.toNat : Int) ((2 : Int) ^ r) = ((x.toNat ^^^ 2 ^ r : Nat) : Int) := by rw [← hpe]; exact u8_xor_nat _ _ x.toNat_lt (by omega)
        obtain ⟨y, hy⟩ : ∃ y : UInt8, y = UInt8.ofNat (x.toNat ^^^ 2 ^ r) := ⟨_, rfl⟩
        have hyn : y.toNat = x.toNat ^^^ 2 ^ r := by
          rw [hy, UInt8.toNat_ofNat']
          exact Nat.mod_eq_of_lt (Nat.xor_lt_two_pow (n := 8) x.toNat_lt (by omega))
        have HTN : Hid ((T.set d y).length = s.size) := by show _ = _; rw [List.length_set]; exact HTL.out
        have HXN : Hid (valL L ^^^ valL (T.set d y) = (mask % 2 ^ (i + 1)) * 2 ^ first) := by
          show _ = _
          have hv := valL_flip T kk x (by rw [hd]; exact hx)
          rw [hd, hr, ← hy] at hv
          rw [hv, ← Nat.xor_assoc, HX.out, hstep, hbit, Nat.mul_one, Nat.add_mul, ← Nat.pow_add, show i + first = kk by omega]
          have hlo : mask % 2 ^ i * 2 ^ first < 2 ^ kk := by
            rw [show kk = i + first by omega, Nat.pow_add]
            exact Nat.mul_lt_mul_of_pos_right (Nat.mod_lt _ (Nat.two_pow_pos i)) (Nat.two_pow_pos first)
          exact xor_add_pow hlo
        rw [← hyn] at hxx
        have hw1 : IntKind.i64.wrap (d : Int) = d := by rw [IntKind.wrap_i64]; omega
        have hw2 : (kk : Int).tmod 8 = r := by rw [Int.tmod_eq_emod_of_nonneg (by omega)]; exact hq2
        have hw3 : IntKind.u8.wrap ((2 : Int) ^ r) = (2 : Int) ^ r := by
          have h1 : (2 : Int) ^ r ≤ 128 := by rw [← hpe]; omega
          have h2 : 0 < (2 : Int) ^ r := by rw [← hpe]; have := Nat.two_pow_pos r; omega
          rw [IntKind.wrap_u8]
          generalize (2 : Int) ^ r = z at *
          omega
        clear HX hy hstep eb hbit
        go_wp2_with fail
        have HRN : Hid (Row8 (wr.setCell ⟨g, d, none⟩ (.int .u8 ((x.toNat ^^^ 2 ^ r : Nat) : Int))).drew g (T.set d y)) := by
          have h := HROW.out.set (y := y) (k := d) (by rw [HTL.out]; exact hds)
          rw [hyn] at h
          exact ⟨h.cell, h.fr⟩
        have HBN : Hid (Below B w3 (wr.setCell ⟨g, d, none⟩ (.int .u8 ((x.toNat ^^^ 2 ^ r : Nat) : Int))).drew) := (HB.out.setCell (p := ⟨g, d, none⟩) hBg _).drew
        have HGN : Hid (g < (wr.setCell ⟨g, d, none⟩ (.int .u8 ((x.toNat ^^^ 2 ^ r : Nat) : Int))).drew.heap.size) := by
          show g < (wr.setCell ⟨g, d, none⟩ (.int .u8 ((x.toNat ^^^ 2 ^ r : Nat) : Int))).heap.size
          simp only [World.size_setCell]; exact HG.out
        rw [hyn] at hxx
        go_region
        clear HROW HB HG hx c1 f1 hxx
        go_wp2
        go_round
        case rel => exact ⟨i + 1, T.set d y, by simp, by omega, HTN, HRN, HXN, HBN, HGN⟩
        case measure => simp [intOf]; omega
      · have hbt : (bits BinOp.and IntKind.i64 ((mask : Int) / 2 ^ i) 1 == 1) = false := by
          rw [eb, beq_eq_false_iff_ne]
          intro h
          exact hbit (by omega)
        have HXN : Hid (valL L ^^^ valL T = (mask % 2 ^ (i + 1)) * 2 ^ first) := by
          show _ = _
          rw [HX.out, hstep, show mask / 2 ^ i % 2 = 0 by omega, Nat.mul_zero, Nat.add_zero]
        clear eb hstep hbit HX
        go_wp2
        go_round
        case rel => exact ⟨i + 1, T, by simp, by omega, HTL, HROW, HXN, HB, HG⟩
        case measure => simp [intOf]; omega
    · have hlt' : ¬ (i : Int) < 32 := by omega
      have hi32 : i = 32 := by omega
      rw [hi32, Nat.mod_eq_of_lt (show mask < 2 ^ 32 by omega)] at HX
      clear hi32
      have hcv : ∀ V : World, Below wr.heap.size wr V → (convert 72 9 (.slice (some ⟨g, 0, none⟩) s.size tcap)).run Tryz.prog V = .ok (.string ⟨T.toArray⟩) V := fun V hV =>
        row_string (cap := tcap) ⟨fun j x hx => (hV.cell (p := ⟨g, j, none⟩) HG.out).trans (HROW.out.cell j x hx), fun j hj => (World.frozen?_of_block (a := ⟨g, j, none⟩) (hV.block g HG.out)).trans (HROW.out.fr j hj)⟩ (n := s.size) HTL.out.symm
      obtain ⟨t, ht⟩ : ∃ t : ByteArray, (⟨T.toArray⟩ : ByteArray) = t := ⟨_, rfl⟩
      have htl : t.data.toList = T := by rw [← ht]
      rw [ht] at hcv
      have HCV := hid hcv
      clear hcv
      have hts : t.size = s.size := by rw [bytes_size htl]; exact HTL.out
      have HTT := hid htl
      clear ht htl
      have hrd := kread_any wr s s.size 7 rfl (by omega) (by omega) (by omega)
      obtain ⟨hf0, gg, hend, _⟩ := HRT.out.feed
      rw [HS.out] at hrd
      have HRD : Hid (Calls Tryz.prog 19 #[.string s, .int .i64 7] wr fun e w' => Below wr.heap.size wr w' ∧ ∃ p7 : Nat, e = .returned (.tuple #[.pointer (some ⟨p7, 0, none⟩), .agg #[.int .i64 (R : Int), .int .i64 (D : Int), .int .i64 (k : Int)], .bool true])) := by
        refine hrd.mono ?_
        rintro e W7 ⟨b7, hr⟩
        refine ⟨b7, ?_⟩
        rcases hr with ⟨h, _⟩ | ⟨_, p7, Sf, h, _⟩
        · exact (h hf0).elim
        · refine ⟨p7, ?_⟩
          rw [h, hend]
          rfl
      clear hrd hf0 hend
      have HSP : Hid (∀ V : World, Calls Tryz.prog 19 #[.string t, .int .i64 7] V fun e w' => Below V.heap.size V w' ∧ ∃ (pp : Option Addr) (x0 x1 x2 : Nat), e = .returned (.tuple #[.pointer pp, .agg #[.int .i64 (x0 : Int), .int .i64 (x1 : Int), .int .i64 (x2 : Int)], .bool false])) := by
        intro V
        refine (kread_any V t t.size 7 rfl (by omega) (by omega) (by omega)).mono ?_
        rintro e W8 ⟨b8, hr⟩
        refine ⟨b8, ?_⟩
        rw [HTT.out] at hr
        rcases hr with ⟨_, h⟩ | ⟨h0, p8, Sf, h, _⟩
        · exact ⟨none, 0, 0, 0, h⟩
        · refine ⟨some ⟨p8, 0, none⟩, (endS (feedS .begin T).2).1.1, (endS (feedS .begin T).2).1.2.1, (endS (feedS .begin T).2).1.2.2, ?_⟩
          have hne : ((endS (feedS .begin T).2).2.1 == 0) = false := by
            rw [beq_eq_false_iff_ne]
            intro h1
            exact turned_none HBX.out (by rw [HTL.out, hLs]) HX.out hmk2 (by omega) h0 h1
          rw [h, hne]
          rfl
      have hzB : B ≤ wr.heap.size := by have := HG.out; omega
      clear HX HTL HROW
      go_wp2_with fail
      refine HRD.out.mono ?_
      rintro e W7 ⟨b7, p7, rfl⟩
      clear HRD
      have b8 : Below wr.heap.size wr (W7.alloc (.cells #[.int .i64 (R : Int), .int .i64 (D : Int), .int .i64 (k : Int)] 62)) := b7.alloc b7.size _
      have hcv := HCV.out _ b8
      have HB8 := hid (HB.out.trans (b8.mono hzB))
      have hz8 : B ≤ (W7.alloc (.cells #[.int .i64 (R : Int), .int .i64 (D : Int), .int .i64 (k : Int)] 62)).heap.size := by have := b8.size; omega
      have HSP8 := hid (HSP.out (W7.alloc (.cells #[.int .i64 (R : Int), .int .i64 (D : Int), .int .i64 (k : Int)] 62)))
      have HZ8 := hid hz8
      clear HCV HSP b7 b8 hz8 HB
      go_wp2_with fail
      refine HSP8.out.mono ?_
      rintro e W9 ⟨b9, pp, x0, x1, x2, rfl⟩
      have HB9 := hid (HB8.out.trans (b9.mono HZ8.out))
      have HZ9 : Hid (B ≤ W9.heap.size) := by have := b9.size; have := HZ8.out; show _ ≤ _; omega
      clear b9 hcv HSP8 HB8 HZ8
      go_wp2
      go_ret
      exact ⟨rfl, HB9.out.alloc HZ9.out _⟩

end Go.Proofs.YthdcceackfdbbaaGreatDoor
