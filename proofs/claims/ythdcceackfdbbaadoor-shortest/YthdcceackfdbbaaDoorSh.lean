/- Shortest: the mathematics; walk of reads. Own text. -/
import Derived.Test.YthdcceackfdbbaaDoorUp
import Derived.Deep.RegionHeld3
import Derived.Deep.DrawnRows
namespace Go.Proofs.YthdcceackfdbbaaDoor
open Go.RowKit
attribute [local go_sem ↓] Go.wp_at_zero Go.wp_at_succ

theorem short_step {s d : Nat} {p : Int} (h : ShortAt s d p) : d ≤ 10 ∨ (d % 10 ≠ 0 ∧ ¬ InD (d / 10) (p + 1) s ∧ ¬ InD (d / 10 + 1) (p + 1) s) := by
  have hin := h.inD
  obtain ⟨a, b, j, h1, h2, h3, hp, h4, h5, h6, h7⟩ := h
  have hD : oneS s * 10 ^ b ≠ 0 := Nat.mul_ne_zero (one_ne s) (Nat.ne_of_gt (ten_pow_pos b))
  have hv := pick_val h6
  cases j with
  | zero =>
    left
    rw [Nat.pow_zero, Nat.mul_one] at hv
    have : sizeS s * 10 ^ a / (oneS s * 10 ^ b) < 10 := by
      rw [Nat.div_lt_iff_lt_mul (Nat.pos_of_ne_zero hD)]; exact h5
    omega
  | succ j =>
    right
    have hno := pick_out hD (Nat.mul_pos (Nat.mul_pos (below_pos s) (ten_pow_pos a)) (ten_pow_pos j)) (h7 j (by omega))
    have q2 : ∀ x, x * 10 ^ (a + j) = x * 10 ^ a * 10 ^ j := fun x => by rw [Nat.pow_add]; ac_rfl
    have hI : ∀ k, InD k (p + 1) s ↔ InW (k * (oneS s * 10 ^ b)) (sizeS s * 10 ^ a * 10 ^ j) (belowS s * 10 ^ a * 10 ^ j) (aboveS s * 10 ^ a * 10 ^ j) (decide (s % 2 = 0)) := by
      intro k
      rw [InD_iff (a := a + j) (b := b) (by omega), q2, q2, q2]
    rw [← hI, ← hI] at hno
    have hlo : sizeS s * 10 ^ a * 10 ^ (j + 1) / (oneS s * 10 ^ b) / 10 = sizeS s * 10 ^ a * 10 ^ j / (oneS s * 10 ^ b) := by
      rw [Nat.div_div_eq_div_mul, Nat.pow_succ, ← Nat.mul_assoc, Nat.mul_div_mul_right _ _ (by omega)]
    generalize sizeS s * 10 ^ a * 10 ^ j / (oneS s * 10 ^ b) = lo at *
    generalize sizeS s * 10 ^ a * 10 ^ (j + 1) / (oneS s * 10 ^ b) = lo1 at *
    have hd10 : d % 10 ≠ 0 := by
      intro hd
      have hsh : InD (d / 10) (p + 1) s := by
        have := (InD_shift (D := d / 10) (z := 1) (k := p) (s := s)).1 (by rw [show d / 10 * 10 ^ 1 = d by omega]; exact hin)
        simpa using this
      rcases (show d / 10 = lo ∨ d / 10 = lo + 1 by omega) with e | e
      · rw [e] at hsh; exact hno.1 hsh
      · rw [e] at hsh; exact hno.2 hsh
    have e : d / 10 = lo := by omega
    rw [e]
    exact ⟨hd10, hno⟩

/-- The digits that are printed, and what is left of them when one is cut off. -/
theorem short_parts {s d : Nat} {p : Int} (h : ShortAt s d p) (h0 : s ≠ 0) (hs : s < 9218868437227405312) : ∃ (c : UInt8) (f : List UInt8) (q : Int), outL d p = ptL (c :: f) ++ 101 :: Lib.itoa q ∧ isDig c = true ∧ c.toNat ≠ 48 ∧ Digs f ∧ -900 < q ∧ q < 900 ∧ f.length ≤ 16 ∧ decRnd (dval (c :: f)) (q - f.length) = s ∧
    (f = [] ∨ ∃ (g : List UInt8) (x : UInt8), f = g ++ [x] ∧ x.toNat ≠ 48 ∧ decRnd (dval (c :: g)) (q - g.length) ≠ s ∧ decRnd (dval (c :: g) + 1) (q - g.length) ≠ s) := by
  obtain ⟨d1, d2, _, _⟩ := h.bd
  obtain ⟨p1, p2⟩ := h.pow h0 hs
  obtain ⟨c, f, z, e1, e2, e3, e4, e5, e6, e7, e8⟩ := trim_digits d1
  have hlen : (Lib.decDigits d).length ≤ 18 := dd_len (by omega) (by omega)
  refine ⟨c, f, p + ((Lib.decDigits d).length : Int) - 1, by unfold outL; rw [e1], e2, e3, e4, by omega, by omega, ?_, ?_, ?_⟩
  · by_cases hd : d < 100000000000000000
    · have : (Lib.decDigits d).length ≤ 17 := dd_len (by omega) (by omega)
      omega
    · have hd' : d = 100000000000000000 := by omega
      subst hd'
      have : Lib.trimRightB (Lib.decDigits 100000000000000000) 48 = [49] := by kernel_rfl
      rw [this] at e1
      injection e1 with _ e9
      rw [← e9]
      simp
  · rw [decRnd_iff e6 hs, e7]
    have : (p + ((f.length + 1 + z : Nat) : Int) - 1 - (f.length : Int)) = p + z := by omega
    rw [this, ← InD_shift, e5]
    exact h.inD
  · rcases List.eq_nil_or_concat f with hf | ⟨g, x, hf⟩
    · exact .inl hf
    · right
      have hfx : f = g ++ [x] := by rw [hf, List.concat_eq_append]
      have hv : dval (c :: f) = dval (c :: g) * 10 + (x.toNat - 48) := by
        rw [hfx, show c :: (g ++ [x]) = (c :: g) ++ [x] from rfl, dval_snoc]
      have hxd := isDig_bd (e4 x (by rw [hfx]; simp))
      have hcg : 1 ≤ dval (c :: g) := by
        have hdg : Digs (c :: g) := by
          intro y hy
          rcases List.mem_cons.1 hy with rfl | hy
          · exact e2
          · exact e4 y (by rw [hfx]; simp [hy])
        have := dval_ge hdg (rfl : c :: g = c :: g) e3
        have := ten_pow_pos ((c :: g).length - 1)
        omega
      have hd11 : ¬ d ≤ 10 := by
        intro hd
        have hT := ten_pow_pos z
        have : dval (c :: f) ≤ d := by rw [← e5]; exact Nat.le_mul_of_pos_right _ hT
        have h10 : d = 10 := by omega
        have : Lib.trimRightB (Lib.decDigits 10) 48 = [49] := by kernel_rfl
        rw [h10, this] at e1
        injection e1 with _ e9
        rw [hfx] at e9
        simp at e9
      rcases short_step h with hd | ⟨s1, s2, s3⟩
      · exact absurd hd hd11
      · have hz : z = 0 := by
          cases z with
          | zero => rfl
          | succ z =>
            exfalso
            rw [Nat.pow_succ, ← Nat.mul_assoc] at e5
            omega
        subst hz
        rw [Nat.pow_zero, Nat.mul_one] at e5
        have hdg : d / 10 = dval (c :: g) := by omega
        have hgl : g.length + 1 = f.length := by rw [hfx]; simp
        have hpw : p + ((Lib.decDigits d).length : Int) - 1 - (g.length : Int) = p + 1 := by omega
        refine ⟨g, x, hfx, by omega, ?_, ?_⟩
        · rw [hpw]; intro hh
          rw [decRnd_iff (by omega) hs] at hh
          rw [hdg] at s2; exact s2 hh
        · rw [hpw]; intro hh
          rw [decRnd_iff (by omega) hs] at hh
          rw [hdg] at s3; exact s3 hh

theorem lay_dot' {r : ByteArray} {c : UInt8} {f : List UInt8} (h : r.data.toList = c :: f) (q : ByteArray) : (r.extract 0 1 ++ dotB ++ r.extract 1 r.size ++ expB ++ q).data.toList = c :: 46 :: (f ++ 101 :: q.data.toList) := by
  rw [bytes_append_list, bytes_append_list, bytes_append_list, bytes_append_list, extract_take, extract_drop, dotB_list, expB_list, h]
  simp

theorem scan_reads {c : UInt8} {f : List UInt8} {q : Int} (hc : isDig c = true) (hf : Digs f) (hfl : f.length ≤ 20) (h1 : -1000 < q) (h2 : q < 1000) : scanL (c :: 46 :: (f ++ 101 :: Lib.itoa q)) = (decRnd (dval (c :: f)) (q - f.length), 0) := by
  obtain ⟨_, l1⟩ := itoa_len3 h1 h2
  rw [scanL_dig hc (by simp; omega), decL_exp hc hf h1 h2]
  simp only [finL]
  rw [dval_drop]
  simp

theorem read_size {t qs : ByteArray} (h1 : (t.extract 0 1).size ≤ 21) (h2 : (t.extract 1 t.size).size ≤ 21) (h3 : qs.size ≤ 4) : (t.extract 0 1 ++ dotB ++ t.extract 1 t.size ++ expB ++ qs).size ≤ maxLen := by
  rw [ByteArray.size_append, ByteArray.size_append, ByteArray.size_append, ByteArray.size_append]
  have e1 : dotB.size = 1 := rfl
  have e2 : expB.size = 1 := rfl
  unfold maxLen
  omega

theorem beq_cast (a b : Nat) : ((a : Int) == (b : Int)) = decide (a = b) := by
  by_cases h : a = b
  · rw [h]; simp
  · rw [decide_eq_false h]; simp; omega

theorem reads_scan (wa : World) (t qs : ByteArray) (c : UInt8) (f : List UInt8) (q : Int) (ht : t.data.toList = c :: f) (hq : qs.data.toList = Lib.itoa q) (hc : isDig c = true) (hf : Digs f) (hfl : f.length ≤ 20) (h1 : -1000 < q) (h2 : q < 1000) (hb : (t.extract 0 1 ++ dotB ++ t.extract 1 t.size ++ expB ++ qs).size ≤ maxLen) :
    Calls Tryd.prog 11 #[.string (t.extract 0 1 ++ ⟨#[46]⟩ ++ t.extract 1 t.size ++ ⟨#[101]⟩ ++ qs)] wa fun e w' => e = .returned (.tuple #[.int .u64 ((decRnd (dval (c :: f)) (q - f.length) : Nat) : Int), .int .i64 0]) ∧ Below wa.heap.size wa w' := by
  rw [dotB_eq, expB_eq]
  refine (scan_any wa _ hb).mono ?_
  rintro e wb ⟨rfl, bb⟩
  rw [lay_dot' ht, hq, scan_reads hc hf hfl h1 h2]
  exact ⟨rfl, bb⟩

set_option maxRecDepth 5000 in
set_option maxHeartbeats 800000 in
theorem reads_any (w : World) (t : ByteArray) (c : UInt8) (f : List UInt8) (q : Int) (x : Nat) (ht : t.data.toList = c :: f) (hc : isDig c = true) (hf : Digs f) (hfl : f.length ≤ 20) (h1 : -1000 < q) (h2 : q < 1000) (htab : Lib.TabIs Tryd.prog w "internal/strconv.uint64pow10" .u64 Lib.pow10Tab) :
    Calls Tryd.prog 15 #[.string t, .int .i64 q, .int .u64 (x : Int)] w fun e w' => e = .returned (.bool (decide (decRnd (dval (c :: f)) (q - f.length) = x))) ∧ Below w.heap.size w w' := by
  have HT := Hid.mk' htab
  clear htab
  have hts := bytes_size ht
  rw [List.length_cons] at hts
  have hts1 : 1 ≤ t.size := by omega
  have hts2 : t.size ≤ 21 := by omega
  have htI : (1 : Int) ≤ (t.size : Int) := by omega
  have HTL := Hid.mk' ht
  have HC := Hid.mk' hc
  have HF := Hid.mk' hf
  obtain ⟨_, l1⟩ := itoa_len3 h1 h2
  have HLN := Hid.mk' l1
  clear ht hts hc hf l1
  have hx1 : (t.extract 0 1).size ≤ 21 := by rw [ByteArray.size_extract]; omega
  have hx2 : (t.extract 1 t.size).size ≤ 21 := by rw [ByteArray.size_extract]; omega
  have hq0 : -9223372036854775808 ≤ q := by omega
  have hq1 : q ≤ 9223372036854775807 := by omega
  go_enter Tryd.func15, Tryd.ntmps15
  go_wp2_with fail
  go_region_with
    (first
      | (go_at_call 18; refine (itoaI_any _ q hq0 hq1 (tab_below HT.out (Below.refl _ _).drew)).mono ?_; rintro e wa ⟨qs, rfl, hqs, ba⟩; have hqz : qs.size ≤ 4 := Nat.le_trans (Nat.le_of_eq (bytes_size hqs)) HLN.out; have HSC := Hid.mk' (reads_scan wa t qs c f q HTL.out hqs HC.out HF.out hfl h1 h2 (read_size hx1 hx2 hqz)); clear hqs)
      | (go_at_call 11; with_reducible refine HSC.out.mono ?_; rintro e wb ⟨rfl, bb⟩))
  all_goals
    have bAll : Below w.heap.size w wb := ((Below.refl w.heap.size w).drew.trans ba).trans (bb.mono ba.size)
    clear ba bb HSC
    go_wp2
    go_ret
    exact ⟨ret_bool (beq_cast _ _), bAll⟩

end Go.Proofs.YthdcceackfdbbaaDoor
