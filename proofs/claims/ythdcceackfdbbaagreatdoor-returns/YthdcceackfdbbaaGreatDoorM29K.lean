import Derived.Test.YthdcceackfdbbaaGreatDoorM28K
import Derived.Test.YthdcceackfdbbaaGreatDoorM18K
import Derived.Test.YthdcceackfdbbaaGreatDoorM09K
import Derived.Test.YthdcceackfdbbaaGreatDoorM15K
import Derived.Test.YthdcceackfdbbaaGreatDoorM17K

/- Own text: pieces, one after another, are one piece. -/
namespace Go.Proofs.YthdcceackfdbbaaGreatDoor
open Go Go.RowKit

theorem bytesF_app0 : ∀ {l m : List UInt8} {s s' : FSt}, bytesF s l = (0, s') → bytesF s (l ++ m) = bytesF s' m
  | [], m, s, s', h => by simp only [bytesF] at h; cases h; rfl
  | x :: r, m, s, s', h => by
    simp only [bytesF, List.cons_append] at h ⊢
    by_cases h0 : (takeF s x).1 = 0
    · rw [if_pos h0] at h ⊢; exact bytesF_app0 h
    · rw [if_neg h0] at h; exact (h0 (by rw [h])).elim

theorem filR_app (s : FSt) (a b : List UInt8) : filR (bytesF s (a ++ b)) = feedS (filR (bytesF s a)).2 b := by
  by_cases h : (bytesF s a).1 = 0
  · have h1 : bytesF s a = (0, (bytesF s a).2) := by rw [← h]
    rw [bytesF_app0 h1]
    unfold filR
    rw [if_pos h]
    rfl
  · rw [bytesF_app h]
    unfold filR
    rw [if_neg h]
    rfl

theorem feedS_app (s : RSt) (a b : List UInt8) : feedS s (a ++ b) = feedS (feedS s a).2 b := by
  cases s with
  | begin =>
    cases a with
    | nil => rfl
    | cons x r =>
      have e : ∀ z, feedS .begin (x :: z) = match fileS x with | some s => filR (bytesF s (x :: z)) | none => (6, .failed 6) := fun z => rfl
      rw [List.cons_append, e, e]
      cases fileS x with
      | none => rfl
      | some s => exact filR_app s (x :: r) b
  | file s => simp only [feedS]; exact filR_app s a b
  | failed e => rfl
  | ended k R C f => rfl

/-- a state in which an error was answered -/
theorem feedS_err {s : RSt} {l : List UInt8} {e : Int} (hs : s = .begin ∨ ∃ t, s = .file t) (h : (feedS s l).1 = e) (he : e ≠ 0) : (feedS s l).2 = .failed e := by
  have hf : ∀ r : Int × FSt, (filR r).1 = e → (filR r).2 = .failed e := by
    intro r hr
    unfold filR at hr ⊢
    split
    · rename_i h0; rw [if_pos h0] at hr; exact (he hr.symm).elim
    · rename_i h0; rw [if_neg h0] at hr; rw [← hr]
  rcases hs with rfl | ⟨t, rfl⟩
  · cases l with
    | nil => exact (he (by simpa [feedS] using h.symm)).elim
    | cons x r =>
      simp only [feedS] at h ⊢
      cases hx : fileS x with
      | none => rw [hx] at h; simp only at h ⊢; rw [← h]
      | some s => rw [hx] at h; exact hf _ h
  · exact hf _ h

/-- behind no error, a file or nothing -/
theorem feedS_ok {s : RSt} {l : List UInt8} (hs : s = .begin ∨ ∃ t, s = .file t) (h : (feedS s l).1 = 0) : (feedS s l).2 = .begin ∨ ∃ t, (feedS s l).2 = .file t := by
  have hf : ∀ r : Int × FSt, (filR r).1 = 0 → ∃ t, (filR r).2 = .file t := by
    intro r hr
    unfold filR at hr ⊢
    split
    · exact ⟨_, rfl⟩
    · rename_i h0; rw [if_neg h0] at hr; exact (h0 hr).elim
  rcases hs with rfl | ⟨t, rfl⟩
  · cases l with
    | nil => exact .inl rfl
    | cons x r =>
      simp only [feedS] at h ⊢
      cases hx : fileS x with
      | none => rw [hx] at h; simp at h
      | some s => rw [hx] at h; exact .inr (hf _ h)
  · exact .inr (hf _ h)

theorem feedS_begin_err {a b : List UInt8} {e : Int} (h : (feedS .begin a).1 = e) (he : e ≠ 0) : feedS .begin (a ++ b) = (e, .failed e) := by
  rw [feedS_app, feedS_err (.inl rfl) h he]; rfl

/-- whether a file is ended in the end -/
theorem endS_cases (s : RSt) (hs : s = .begin ∨ ∃ t, s = .file t) : (∃ e, e ≠ 0 ∧ endS s = ((0, 0, 0), e, .failed e)) ∨ (∃ k R C f, endS s = ((R, C, k), 0, .ended k R C f)) := by
  rcases hs with rfl | ⟨t, rfl⟩
  · exact .inl ⟨6, by decide, rfl⟩
  · simp only [endS]
    cases endF t with
    | none => exact .inl ⟨11, by decide, rfl⟩
    | some x => obtain ⟨k, R, C, f⟩ := x; exact .inr ⟨k, R, C, f, rfl⟩

/-- all states that bytes lead to, and their ends -/
theorem end_of_feed (l : List UInt8) : (∃ e, e ≠ 0 ∧ endS (feedS .begin l).2 = ((0, 0, 0), e, .failed e) ∧ ((feedS .begin l).1 ≠ 0 → (feedS .begin l).1 = e)) ∨ ((feedS .begin l).1 = 0 ∧ ∃ k R C f, endS (feedS .begin l).2 = ((R, C, k), 0, .ended k R C f)) := by
  by_cases h : (feedS .begin l).1 = 0
  · rcases endS_cases _ (feedS_ok (.inl rfl) h) with ⟨e, he, h1⟩ | h1
    · exact .inl ⟨e, he, h1, fun hn => (hn h).elim⟩
    · exact .inr ⟨h, h1⟩
  · refine .inl ⟨(feedS .begin l).1, h, ?_, fun _ => rfl⟩
    rw [feedS_err (.inl rfl) rfl h]
    rfl

theorem ReadIs.ptr_lt {w : World} {p : Nat} {Sf : Nat → Prop} {s : RSt} (h : ReadIs w p Sf s) : p < w.heap.size := by
  obtain ⟨c, hc, _⟩ := h.arr
  exact hc.lt

theorem feedS_nil : feedS .begin [] = (0, .begin) := rfl

theorem intoL_len (s : RSt) (R C off rs cs : Int) (n : Nat) (l : List Value) : (intoL s R C off rs cs n l).length = l.length := by
  unfold intoL
  split
  · split
    · exact putFold_len _ _ _ _ _
    · rfl
  · rfl

theorem putFold_u64 (off rs cs : Int) : ∀ (xs : List (Nat × Nat × Nat)) (l : List Value), (∀ v ∈ l, ∃ z : Int, v = .int .u64 z) → ∀ v ∈ xs.foldl (putStep off rs cs) l, ∃ z : Int, v = .int .u64 z
  | [], l, h => h
  | x :: r, l, h => by
    rw [List.foldl_cons]
    refine putFold_u64 off rs cs r _ (fun v hv => ?_)
    unfold putStep at hv
    rcases List.mem_or_eq_of_mem_set hv with hv | hv
    · exact h v hv
    · exact ⟨_, hv⟩

theorem intoL_u64 (s : RSt) (R C off rs cs : Int) (n : Nat) {l : List Value} (h : ∀ v ∈ l, ∃ z : Int, v = .int .u64 z) : ∀ v ∈ intoL s R C off rs cs n l, ∃ z : Int, v = .int .u64 z := by
  unfold intoL
  split
  · split
    · exact putFold_u64 _ _ _ _ _ h
    · exact h
  · exact h

theorem intoE_ended {w : World} {p : Nat} {Sf : Nat → Prop} {k R C : Nat} {f : Nat → Nat → Nat} (h : ReadIs w p Sf (.ended k R C f)) : intoE (.ended k R C f) R C 0 C 1 1600 = 0 := by
  obtain ⟨_, hR, hC, _⟩ := h.at_
  have hRC : R * C ≤ 40 * 40 := Nat.mul_le_mul hR hC
  have hfit : FitV (R : Int) (C : Int) 0 (C : Int) 1 1600 := by
    refine ⟨by omega, by omega, by omega, .inr (.inr ?_)⟩
    have := fit_rows (R := R) (C := C) (d := 1) (o := 0) (n := 1600) (by omega) (by omega)
    simpa using this
  unfold intoE
  simp only
  rw [if_neg (fun hh => hh hfit), if_neg (by omega)]

theorem intoE_failed (e : Int) (R C off rs cs : Int) (n : Nat) : intoE (.failed e) R C off rs cs n = 11 := rfl

/-- a line of a text -/
theorem bytesF_line {t : TSt} : ∀ {l cur : List UInt8}, (∀ b ∈ l, b ≠ 10) → cur.length + l.length ≤ 200 → bytesF (.text t cur) l = (0, .text t (cur ++ l))
  | [], cur, _, _ => by simp [bytesF]
  | b :: r, cur, h, hl => by
    have h1 : takeT t cur b = (0, t, cur ++ [b]) := by
      unfold takeT
      rw [if_neg (h b (by simp)), if_neg (by simp at hl; omega)]
    rw [bytesF]
    simp only [takeF, h1]
    rw [if_pos (by simp), bytesF_line (fun c hc => h c (by simp [hc])) (by simp at hl ⊢; omega)]
    simp

theorem bytesF_lineE {t : TSt} {l : List UInt8} (h : ∀ b ∈ l, b ≠ 10) (hl : l.length ≤ 200) : bytesF (.text t []) (l ++ [10]) = (((lineT t l).1 : Int), .text (lineT t l).2 []) := by
  rw [bytesF_snoc (bytesF_line (cur := []) h (by simpa using hl))]
  simp [takeF, takeT]

end Go.Proofs.YthdcceackfdbbaaGreatDoor
/- Own text: sums: bits turned in a row of 32 are found. -/
namespace Go.Proofs.YthdcceackfdbbaaGreatDoor

/-- one bit -/
def bitS (h b : Nat) : Nat := if (b + h) % 2 = 1 then (h / 2) ^^^ 3988292384 else h / 2
/-- the lowest bits of a number, the low one first -/
def runN (h v : Nat) : Nat → Nat
  | 0 => h
  | n + 1 => runN (bitS h v) (v / 2) n

theorem bitS_par {h b c : Nat} (e : b % 2 = c % 2) : bitS h b = bitS h c := by
  unfold bitS
  rw [show (b + h) % 2 = (c + h) % 2 by omega]

theorem runN_add (a : Nat) : ∀ (h v n : Nat), runN h v (a + n) = runN (runN h v a) (v / 2 ^ a) n := by
  induction a with
  | zero => intro h v n; simp [runN]
  | succ a ih =>
    intro h v n
    rw [show a + 1 + n = (a + n) + 1 by omega, runN, ih, runN, Nat.div_div_eq_div_mul, Nat.pow_succ, Nat.mul_comm 2]

theorem runN_mod (a : Nat) : ∀ (h v u : Nat), v % 2 ^ a = u % 2 ^ a → runN h v a = runN h u a := by
  induction a with
  | zero => intro h v u _; rfl
  | succ a ih =>
    intro h v u e
    rw [runN, runN]
    rw [Nat.pow_succ, Nat.mul_comm] at e
    have h1 : v / 2 % 2 ^ a = u / 2 % 2 ^ a := by
      rw [← Nat.mod_mul_right_div_self, ← Nat.mod_mul_right_div_self, e]
    have h2 : v % 2 = u % 2 := by
      have := congrArg (· % 2) e
      simp only [Nat.mod_mul_right_mod] at this
      exact this
    rw [bitS_par h2, ih _ _ _ h1]

theorem crcTo_run (h b : Nat) : crcTo h b 8 = runN h b 8 := by
  have e : ∀ (x i : Nat), crcBit x b i = bitS x (b / 2 ^ i) := fun x i => by unfold crcBit bitS; rw [Nat.shiftRight_eq_div_pow b i, Nat.shiftRight_eq_div_pow x 1]
  generalize hB : bitS = B at *
  simp only [crcTo, e, runN, Nat.div_div_eq_div_mul, hB, Nat.reducePow, Nat.reduceMul, Nat.div_one]

theorem crcAll_run (l : List UInt8) : ∀ h, crcAll h l = runN h (valL l) (8 * l.length) := by
  induction l with
  | nil => intro h; rfl
  | cons b r ih =>
    intro h
    have hb := b.toNat_lt
    rw [crcAll_cons, crcTo_run, ih, List.length_cons, show 8 * (r.length + 1) = 8 + 8 * r.length by omega, runN_add]
    have e1 : runN h (valL (b :: r)) 8 = runN h b.toNat 8 := runN_mod 8 h _ _ (by simp only [valL]; omega)
    have e2 : valL (b :: r) / 2 ^ 8 = valL r := by simp only [valL]; omega
    rw [e1, e2]

theorem xor4 (a b p : Nat) : (a ^^^ p) ^^^ (b ^^^ p) = a ^^^ b := by
  apply Nat.eq_of_testBit_eq; intro i
  simp only [Nat.testBit_xor]
  cases a.testBit i <;> cases b.testBit i <;> cases p.testBit i <;> rfl

theorem xor_rc (a b p : Nat) : (a ^^^ b) ^^^ p = (a ^^^ p) ^^^ b := by rw [Nat.xor_assoc, Nat.xor_comm b p, ← Nat.xor_assoc]

theorem bitS_xor (h g u v : Nat) : bitS (h ^^^ g) (u ^^^ v) = bitS h u ^^^ bitS g v := by
  have e0 : ((u ^^^ v) + (h ^^^ g)) % 2 = ((u + h) % 2 + (v + g) % 2) % 2 := by
    have h1 := Nat.xor_mod_two_eq_one (a := u) (b := v)
    have h2 := Nat.xor_mod_two_eq_one (a := h) (b := g)
    omega
  unfold bitS
  simp only [Nat.xor_div_two]
  rw [e0]
  rcases Nat.mod_two_eq_zero_or_one (u + h) with e1 | e1 <;> rcases Nat.mod_two_eq_zero_or_one (v + g) with e2 | e2 <;> rw [e1, e2] <;> simp
  · rw [Nat.xor_assoc]
  · rw [xor_rc]
  · rw [xor4]

theorem runN_xor (n : Nat) : ∀ (h g u v : Nat), runN (h ^^^ g) (u ^^^ v) n = runN h u n ^^^ runN g v n := by
  induction n with
  | zero => intro h g u v; rfl
  | succ n ih => intro h g u v; rw [runN, runN, runN, bitS_xor, Nat.xor_div_two, ih]

theorem runN_take (n : Nat) : ∀ (h v : Nat), v < 2 ^ n → runN h v n = runN (h ^^^ v) 0 n := by
  induction n with
  | zero => intro h v hv; have : v = 0 := by simpa using hv
            subst this; simp [runN]
  | succ n ih =>
    intro h v hv
    rw [runN, runN, ih _ _ (by rw [Nat.pow_succ] at hv; omega)]
    congr 1
    have := bitS_xor h v v 0
    have e : bitS h v ^^^ v / 2 = bitS (h ^^^ v) 0 := by
      unfold bitS
      simp only [Nat.xor_div_two]
      have h2 := Nat.xor_mod_two_eq_one (a := h) (b := v)
      rw [show (0 + (h ^^^ v)) % 2 = (v + h) % 2 by omega]
      split
      · rw [xor_rc]
      · rfl
    exact e

theorem bitS_zero {h : Nat} (hh : h < 4294967296) (e : bitS h 0 = 0) : h = 0 := by
  unfold bitS at e
  split at e
  · have h1 := congrArg (fun x => x.testBit 31) e
    simp only [Nat.testBit_xor] at h1
    have h2 : (h / 2).testBit 31 = false := Nat.testBit_lt_two_pow (by omega)
    rw [h2] at h1
    exact absurd h1 (by decide)
  · omega

theorem bitS_lt {h b : Nat} (hh : h < 4294967296) : bitS h b < 4294967296 := by
  unfold bitS
  split
  · exact Nat.xor_lt_two_pow (n := 32) (by omega) (by decide)
  · omega

theorem runN_zero32 (n : Nat) : ∀ h, h < 4294967296 → runN h 0 n = 0 → h = 0 := by
  induction n with
  | zero => intro h _ e; exact e
  | succ n ih =>
    intro h hh e
    rw [runN] at e
    exact bitS_zero hh (ih _ (bitS_lt hh) e)

theorem runN_zero (a : Nat) : ∀ (n w : Nat), w < 4294967296 → a ≤ n → runN (w * 2 ^ a) 0 n = 0 → w = 0 := by
  induction a with
  | zero => intro n w hw _ e; exact runN_zero32 n w hw (by simpa using e)
  | succ a ih =>
    intro n w hw hn e
    obtain ⟨m, rfl⟩ : ∃ m, n = m + 1 := ⟨n - 1, by omega⟩
    rw [runN] at e
    have e1 : bitS (w * 2 ^ (a + 1)) 0 = w * 2 ^ a := by
      unfold bitS
      rw [Nat.pow_succ, ← Nat.mul_assoc, if_neg (by omega)]
      omega
    rw [e1] at e
    exact ih m w hw (by omega) e

/-- bytes that end with their own sum -/
theorem sum_run {d c : List UInt8} (hc : c.length = 4) (h : valL c = sumL d) : runN 4294967295 (valL (d ++ c)) (8 * (d ++ c).length) = runN 4294967295 0 32 := by
  have hlt := crcAll_lt (h := 4294967295) (by omega) d
  have e1 : crcAll 4294967295 (d ++ c) = crcAll (crcAll 4294967295 d) c := by unfold crcAll; rw [List.foldl_append]
  rw [← crcAll_run, e1]
  generalize hH : crcAll 4294967295 d = H at *
  have hv : valL c = H ^^^ 4294967295 := by rw [h]; unfold sumL; rw [hH, flip_xor hlt]
  have h4 : valL c < 2 ^ 32 := by have := valL_lt c; rw [hc] at this; simpa using this
  rw [crcAll_run, hc, runN_take _ _ _ h4, hv, ← Nat.xor_assoc, Nat.xor_self, Nat.zero_xor]

/-- bits that are turned in a row of 32 are found -/
theorem burst {x y : List UInt8} {N A first mask : Nat} (hx : x.length = N) (hy : y.length = N) (rx : runN 4294967295 (valL x) (8 * N) = runN 4294967295 0 32) (ry : runN 4294967295 (valL y) (8 * N) = runN 4294967295 0 32) (hm : mask < 4294967296) (he : valL x ^^^ valL y = (mask * 2 ^ first) / 2 ^ A % 2 ^ (8 * N)) : valL x = valL y := by
  have h0 : runN 0 (valL x ^^^ valL y) (8 * N) = 0 := by
    have := runN_xor (8 * N) 4294967295 4294967295 (valL x) (valL y)
    rw [rx, ry, Nat.xor_self, Nat.xor_self] at this
    exact this
  have hlt : ∀ z : List UInt8, z.length = N → valL z < 2 ^ (8 * N) := fun z hz => by
    have := valL_lt z
    rw [hz, show (256 : Nat) = 2 ^ 8 by rfl, ← Nat.pow_mul] at this
    exact this
  have hE := Nat.xor_lt_two_pow (hlt x hx) (hlt y hy)
  have hz : valL x ^^^ valL y = 0 := by
    rw [runN_take _ _ _ hE, Nat.zero_xor] at h0
    by_cases hA : A ≤ first
    · have e1 : (mask * 2 ^ first) / 2 ^ A = mask * 2 ^ (first - A) := by
        have : 2 ^ first = 2 ^ (first - A) * 2 ^ A := by rw [← Nat.pow_add]; congr 1; omega
        rw [this, ← Nat.mul_assoc, Nat.mul_div_cancel _ (Nat.two_pow_pos A)]
      rw [e1] at he
      generalize first - A = a at *
      by_cases ha : a ≤ 8 * N
      · have e2 : mask * 2 ^ a % 2 ^ (8 * N) = (mask % 2 ^ (8 * N - a)) * 2 ^ a := by
          have : 2 ^ (8 * N) = 2 ^ (8 * N - a) * 2 ^ a := by rw [← Nat.pow_add]; congr 1; omega
          rw [this, Nat.mul_mod_mul_right]
        rw [e2] at he
        rw [he] at h0 ⊢
        have := runN_zero a (8 * N) (mask % 2 ^ (8 * N - a)) (Nat.lt_of_le_of_lt (Nat.mod_le _ _) hm) ha h0
        rw [this, Nat.zero_mul]
      · rw [he]
        have : 2 ^ a = 2 ^ (a - 8 * N) * 2 ^ (8 * N) := by rw [← Nat.pow_add]; congr 1; omega
        rw [this, ← Nat.mul_assoc, Nat.mul_mod_left]
    · have e1 : (mask * 2 ^ first) / 2 ^ A = mask / 2 ^ (A - first) := by
        have : 2 ^ A = 2 ^ first * 2 ^ (A - first) := by rw [← Nat.pow_add]; congr 1; omega
        rw [this, ← Nat.div_div_eq_div_mul, Nat.mul_div_cancel _ (Nat.two_pow_pos first)]
      rw [e1] at he
      rw [he] at h0 ⊢
      refine runN_zero32 _ _ (Nat.lt_of_le_of_lt (Nat.le_trans (Nat.mod_le _ _) (Nat.div_le_self _ _)) hm) h0
  apply Nat.eq_of_testBit_eq
  intro i
  have := congrArg (fun z => z.testBit i) hz
  simp only [Nat.testBit_xor, Nat.zero_testBit] at this
  revert this
  cases (valL x).testBit i <;> cases (valL y).testBit i <;> simp

end Go.Proofs.YthdcceackfdbbaaGreatDoor
/- Own text: a container that was written is read: bytes. -/
namespace Go.Proofs.YthdcceackfdbbaaGreatDoor
open Go Go.RowKit

theorem valL_low (x : Nat) : ∀ n, valL (lowL x n) = x % 256 ^ n
  | 0 => by simp [lowL, valL, Nat.mod_one]
  | n + 1 => by
    rw [lowL, valL_snoc, valL_low x n, lowL_len]
    have h1 : (UInt8.ofNat (x / 256 ^ n % 256)).toNat = x / 256 ^ n % 256 := by
      rw [UInt8.toNat_ofNat']; omega
    rw [h1, Nat.pow_succ, Nat.mod_mul, Nat.mul_comm (256 ^ n)]

theorem pay_at : ∀ (es : List (Nat × Nat × Nat)) (k : Nat) (y : Nat × Nat × Nat) (rest : List UInt8), es[k]? = some y → ((payL es ++ rest).drop (8 * k)).take 8 = lowL y.2.2 8
  | [], k, y, rest, h => by simp at h
  | x :: r, 0, y, rest, h => by
    simp at h; subst h
    simp only [payL, List.flatMap_cons, Nat.mul_zero, List.drop_zero, List.append_assoc]
    rw [List.take_append_of_le_length (by rw [lowL_len]; omega), List.take_of_length_le (by rw [lowL_len]; omega)]
  | x :: r, k + 1, y, rest, h => by
    have h2 := pay_at r k y rest (by simpa using h)
    simp only [payL, List.flatMap_cons, List.append_assoc] at h2 ⊢
    rw [show 8 * (k + 1) = 8 + 8 * k by omega, ← List.drop_drop, List.drop_left' (lowL_len _ _)]
    exact h2

/-- the lists of a container: its head, its sum, its numbers, their sum -/
structure BoxS (l : List UInt8) (kind R C : Nat) (es : List (Nat × Nat × Nat)) : Prop where
  eq : l = hdL kind R C ++ (lowL (sumL (hdL kind R C)) 4 ++ (payL es ++ lowL (sumL (payL es)) 4))
  len : es.length = R * C
  kk : kind = 4 ∨ kind = 5
  hR : R ≤ 40
  hC : C ≤ 40

theorem entL_box {kind R C : Nat} {f : Nat → Nat → Nat} (hk : kind = 4 ∨ kind = 5) : (entL kind R C f).length = R * C := by
  rcases hk with rfl | rfl
  · simp [entL, rowsL_len]
  · simp [entL, colsL_len]

theorem boxS_of {kind R C : Nat} {f : Nat → Nat → Nat} (hk : kind = 4 ∨ kind = 5) (hR : R ≤ 40) (hC : C ≤ 40) : BoxS (boxL kind R C f) kind R C (entL kind R C f) :=
  ⟨by unfold boxL; simp only [List.append_assoc], entL_box hk, hk, hR, hC⟩

theorem sum4 (l : List UInt8) : valL (lowL (sumL l) 4) = sumL l := by
  rw [valL_low]; exact Nat.mod_eq_of_lt (sumL_lt l)

theorem BoxS.length {l : List UInt8} {kind R C : Nat} {es : List (Nat × Nat × Nat)} (h : BoxS l kind R C es) : l.length = 18 + 8 * (R * C) := by
  rw [h.eq]
  simp only [List.length_append, hdL_len, lowL_len, payL_len, h.len]
  omega

theorem BoxS.head {l : List UInt8} {kind R C : Nat} {es : List (Nat × Nat × Nat)} (h : BoxS l kind R C es) : l.take 10 = hdL kind R C := by
  rw [h.eq, List.take_append_of_le_length (by rw [hdL_len]; omega), List.take_of_length_le (by rw [hdL_len]; omega)]
theorem BoxS.drop10 {l : List UInt8} {kind R C : Nat} {es : List (Nat × Nat × Nat)} (h : BoxS l kind R C es) : l.drop 10 = lowL (sumL (hdL kind R C)) 4 ++ (payL es ++ lowL (sumL (payL es)) 4) := by
  rw [h.eq]; exact List.drop_left' (hdL_len _ _ _)
theorem BoxS.drop14 {l : List UInt8} {kind R C : Nat} {es : List (Nat × Nat × Nat)} (h : BoxS l kind R C es) : l.drop 14 = payL es ++ lowL (sumL (payL es)) 4 := by
  rw [show 14 = 10 + 4 by rfl, ← List.drop_drop, h.drop10]; exact List.drop_left' (lowL_len _ _)
theorem BoxS.sum {l : List UInt8} {kind R C : Nat} {es : List (Nat × Nat × Nat)} (h : BoxS l kind R C es) : valL ((l.drop 10).take 4) = sumL (l.take 10) := by
  rw [h.head, h.drop10, List.take_append_of_le_length (by rw [lowL_len]; omega), List.take_of_length_le (by rw [lowL_len]; omega), sum4]
theorem BoxS.pay {l : List UInt8} {kind R C : Nat} {es : List (Nat × Nat × Nat)} (h : BoxS l kind R C es) : (l.drop 14).take (8 * (R * C)) = payL es := by
  have hp : (payL es).length = 8 * (R * C) := by rw [payL_len, h.len]
  rw [h.drop14, List.take_append_of_le_length (by omega), List.take_of_length_le (by omega)]
theorem BoxS.paySum {l : List UInt8} {kind R C : Nat} {es : List (Nat × Nat × Nat)} (h : BoxS l kind R C es) : valL ((l.drop (14 + 8 * (R * C))).take 4) = sumL ((l.drop 14).take (8 * (R * C))) := by
  have hp : (payL es).length = 8 * (R * C) := by rw [payL_len, h.len]
  rw [h.pay, ← List.drop_drop, h.drop14, List.drop_left' hp, List.take_of_length_le (by rw [lowL_len]; omega), sum4]
theorem hd_drop6 (kind R C : Nat) (z : List UInt8) : (hdL kind R C ++ z).drop 6 = lowL R 2 ++ (lowL C 2 ++ z) := by
  rw [hdL_eq, List.append_assoc, List.append_assoc]
  exact List.drop_left' (by simp [lowL_len])
theorem hd_drop8 (kind R C : Nat) (z : List UInt8) : (hdL kind R C ++ z).drop 8 = lowL C 2 ++ z := by
  rw [hdL_eq, List.append_assoc]
  exact List.drop_left' (by simp [lowL_len])
theorem BoxS.rows {l : List UInt8} {kind R C : Nat} {es : List (Nat × Nat × Nat)} (h : BoxS l kind R C es) : rowsB l = R := by
  unfold rowsB
  rw [h.eq, hd_drop6, List.take_append_of_le_length (by rw [lowL_len]; omega), List.take_of_length_le (by rw [lowL_len]; omega), valL_low]
  exact Nat.mod_eq_of_lt (by have := h.hR; omega)
theorem BoxS.cols {l : List UInt8} {kind R C : Nat} {es : List (Nat × Nat × Nat)} (h : BoxS l kind R C es) : colsB l = C := by
  unfold colsB
  rw [h.eq, hd_drop8, List.take_append_of_le_length (by rw [lowL_len]; omega), List.take_of_length_le (by rw [lowL_len]; omega), valL_low]
  exact Nat.mod_eq_of_lt (by have := h.hC; omega)
theorem BoxS.hd6 {l : List UInt8} {kind R C : Nat} {es : List (Nat × Nat × Nat)} (h : BoxS l kind R C es) : ∃ r, l = 65 :: 66 :: 65 :: 67 :: 1 :: (if kind = 5 then 1 else 0) :: r := by
  rcases h.kk with hk | hk
  · refine ⟨lowL R 2 ++ (lowL C 2 ++ (lowL (sumL (hdL kind R C)) 4 ++ (payL es ++ lowL (sumL (payL es)) 4))), ?_⟩
    have e := h.eq
    rw [e]
    generalize hz : lowL (sumL (hdL kind R C)) 4 ++ (payL es ++ lowL (sumL (payL es)) 4) = z
    rw [hdL_eq, hk]
    simp [lowL]
  · refine ⟨lowL R 2 ++ (lowL C 2 ++ (lowL (sumL (hdL kind R C)) 4 ++ (payL es ++ lowL (sumL (payL es)) 4))), ?_⟩
    have e := h.eq
    rw [e]
    generalize hz : lowL (sumL (hdL kind R C)) 4 ++ (payL es ++ lowL (sumL (payL es)) 4) = z
    rw [hdL_eq, hk]
    simp [lowL]
theorem BoxS.kind_eq {l : List UInt8} {kind R C : Nat} {es : List (Nat × Nat × Nat)} (h : BoxS l kind R C es) : kindB l = kind := by
  obtain ⟨r, e⟩ := h.hd6
  unfold kindB
  rw [e]
  rcases h.kk with hk | hk <;> subst hk <;> simp
theorem BoxS.mark {l : List UInt8} {kind R C : Nat} {es : List (Nat × Nat × Nat)} (h : BoxS l kind R C es) : markOk l := by
  obtain ⟨r, e⟩ := h.hd6
  intro i x hx
  rw [e] at hx
  rcases (by omega : i = 0 ∨ i = 1 ∨ i = 2 ∨ i = 3 ∨ i = 4 ∨ i = 5 ∨ 6 ≤ i) with rfl | rfl | rfl | rfl | rfl | rfl | hi
  · simp at hx; subst hx; exact ⟨fun _ => rfl, fun h => by omega⟩
  · simp at hx; subst hx; exact ⟨fun _ => rfl, fun h => by omega⟩
  · simp at hx; subst hx; exact ⟨fun _ => rfl, fun h => by omega⟩
  · simp at hx; subst hx; exact ⟨fun _ => rfl, fun h => by omega⟩
  · simp at hx; subst hx; exact ⟨fun _ => rfl, fun h => by omega⟩
  · simp at hx; subst hx; exact ⟨fun h => by omega, fun _ => by split <;> decide⟩
  · exact ⟨fun h => by omega, fun h => by omega⟩
theorem BoxS.num {l : List UInt8} {kind R C : Nat} {es : List (Nat × Nat × Nat)} (h : BoxS l kind R C es) {k : Nat} {y : Nat × Nat × Nat} (hy : es[k]? = some y) (hlt : y.2.2 < 18446744073709551616) : numB l k = y.2.2 := by
  unfold numB
  rw [← List.drop_drop, h.drop14, pay_at es k y _ hy, valL_low]
  exact Nat.mod_eq_of_lt hlt
theorem BoxS.whole {l : List UInt8} {kind R C : Nat} {es : List (Nat × Nat × Nat)} (h : BoxS l kind R C es) : wholeB l := by
  refine ⟨⟨h.mark, by rw [h.length]; omega, h.sum, by rw [h.rows]; exact h.hR, by rw [h.cols]; exact h.hC⟩, ?_⟩
  rw [h.rows, h.cols]; exact h.length

theorem mark_take {l : List UInt8} (h : markOk l) (n : Nat) : markOk (l.take n) := fun i x hx => h i x (by
  rw [List.getElem?_take] at hx
  split at hx
  · exact hx
  · cases hx)

theorem cut_take (l : List UInt8) {n a k : Nat} (h : a + k ≤ n) : ((l.take n).drop a).take k = (l.drop a).take k := by
  rw [List.drop_take, List.take_take, Nat.min_eq_left (by omega)]

theorem BoxS.err {l : List UInt8} {kind R C : Nat} {es : List (Nat × Nat × Nat)} (h : BoxS l kind R C es) (hes : ∀ y ∈ es, y.2.2 < 18446744073709551616 ∧ canon y.2.2 = y.2.2) (n : Nat) (hn : n ≤ l.length) : boxE (l.take n) = 0 := by
  have hl := h.length
  have hlen : (l.take n).length = n := by rw [List.length_take]; omega
  unfold boxE
  rw [if_neg (fun hh => hh (mark_take h.mark n)), hlen]
  by_cases h14 : n < 14
  · rw [if_pos h14]
  · rw [if_neg h14]
    have e1 : rowsB (l.take n) = R := by unfold rowsB; rw [cut_take l (by omega)]; exact h.rows
    have e2 : colsB (l.take n) = C := by unfold colsB; rw [cut_take l (by omega)]; exact h.cols
    rw [e1, e2, cut_take l (by omega), List.take_take, Nat.min_eq_left (by omega), if_neg (fun hh => hh h.sum), if_neg (by have := h.hR; have := h.hC; omega)]
    by_cases hw : n < 18 + 8 * (R * C)
    · rw [if_pos hw]
    · rw [if_neg hw]
      have hnl : l.take n = l := List.take_of_length_le (by omega)
      rw [hnl, if_neg (fun hh => hh h.paySum), if_neg, if_neg (by omega)]
      rintro ⟨k, hk, hne⟩
      obtain ⟨y, hy⟩ : ∃ y, es[k]? = some y := ⟨es[k]'(by rw [h.len]; exact hk), by simp⟩
      have hm := hes y (List.mem_of_getElem? hy)
      rw [h.num hy hm.1] at hne
      exact hne hm.2

theorem BoxS.bytes {l : List UInt8} {kind R C : Nat} {es : List (Nat × Nat × Nat)} (h : BoxS l kind R C es) (hes : ∀ y ∈ es, y.2.2 < 18446744073709551616 ∧ canon y.2.2 = y.2.2) (n : Nat) (hn : n ≤ l.length) : bytesF (.box []) (l.take n) = (0, .box (l.take n)) := by
  induction n with
  | zero => rfl
  | succ n ih =>
    have ih := ih (by omega)
    have e : l.take (n + 1) = l.take n ++ [l[n]'(by omega)] := by rw [List.take_add_one]; simp [show n < l.length by omega]
    have h0 := h.err hes (n + 1) hn
    rw [e, bytesF_snoc ih]
    rw [e] at h0
    simp only [takeF, h0]

theorem BoxS.feed {l : List UInt8} {kind R C : Nat} {es : List (Nat × Nat × Nat)} (h : BoxS l kind R C es) (hes : ∀ y ∈ es, y.2.2 < 18446744073709551616 ∧ canon y.2.2 = y.2.2) : feedS .begin l = (0, .file (.box l)) := by
  have h1 := h.bytes hes l.length (Nat.le_refl _)
  rw [List.take_length] at h1
  obtain ⟨r, e⟩ := h.hd6
  have e2 : feedS .begin l = filR (bytesF (.box []) l) := by
    rw [e]; simp only [feedS]; rfl
  rw [e2, h1]
  rfl

/-- what was cut is none -/
theorem BoxS.cut {l : List UInt8} {kind R C : Nat} {es : List (Nat × Nat × Nat)} (h : BoxS l kind R C es) {n : Nat} (hn : n < l.length) : ¬ wholeB (l.take n) := by
  rintro ⟨h1, h2⟩
  have hlen : (l.take n).length = n := by rw [List.length_take]; omega
  have h14 := h1.len
  rw [hlen] at h2 h14
  have e1 : rowsB (l.take n) = R := by unfold rowsB; rw [cut_take l (by omega)]; exact h.rows
  have e2 : colsB (l.take n) = C := by unfold colsB; rw [cut_take l (by omega)]; exact h.cols
  rw [e1, e2] at h2
  have := h.length
  omega

theorem box_f {kind R C : Nat} {f : Nat → Nat → Nat} (hk : kind = 4 ∨ kind = 5) (hR : R ≤ 40) (hC : C ≤ 40) (hf : ∀ i j, f i j < 18446744073709551616) {i j : Nat} (hi : i < R) (hj : j < C) : fB (boxL kind R C f) i j = f i j := by
  have h := boxS_of (f := f) hk hR hC
  unfold fB
  rw [h.kind_eq, h.rows, h.cols]
  rcases hk with rfl | rfl
  · rw [if_pos rfl]
    refine h.num (y := (i, j, f i j)) ?_ (hf i j)
    simp only [entL, if_pos]
    exact rowsL_at f hi hj
  · rw [if_neg (by omega)]
    refine h.num (y := (i, j, f i j)) ?_ (hf i j)
    simp [entL]
    exact colsL_at f hi hj

end Go.Proofs.YthdcceackfdbbaaGreatDoor
/- Own text: what was written is read; what is cut is none. -/
namespace Go.Proofs.YthdcceackfdbbaaGreatDoor
open Go Go.RowKit

/-- bytes that lead from a state to another, and every part of them to none that ends -/
def Leads (s0 : FSt) (l : List UInt8) (s1 : FSt) : Prop := bytesF s0 l = (0, s1) ∧ ∀ n, n < l.length → ∃ s', bytesF s0 (l.take n) = (0, s') ∧ endF s' = none

theorem Leads.nil (s : FSt) : Leads s [] s := ⟨rfl, fun n h => by simp at h⟩
theorem Leads.app {s0 s1 s2 : FSt} {a b : List UInt8} (h : Leads s0 a s1) (k : Leads s1 b s2) : Leads s0 (a ++ b) s2 := by
  refine ⟨by rw [bytesF_app0 h.1]; exact k.1, fun n hn => ?_⟩
  by_cases hl : n < a.length
  · rw [List.take_append_of_le_length (by omega)]; exact h.2 n hl
  · have e : (a ++ b).take n = a ++ b.take (n - a.length) := by rw [List.take_append, List.take_of_length_le (by omega)]
    rw [e, bytesF_app0 h.1]
    exact k.2 _ (by simp at hn; omega)

/-- a word -/
def GoodW (x : List UInt8) : Prop := x ≠ [] ∧ ∀ b ∈ x, blankP b.toNat = false ∧ b ≠ 10

theorem words_join : ∀ (ws : List (List UInt8)), (∀ x ∈ ws, GoodW x) → wordsL (Lib.join ws [32]) = ws ∧ ∀ b ∈ Lib.join ws [32], b ≠ 10
  | [], _ => ⟨rfl, by simp [Lib.join, List.intercalate]⟩
  | [x], h => by
    have hx := h x (by simp)
    rw [Lib.join_one]
    refine ⟨?_, fun b hb => (hx.2 b hb).2⟩
    have := wordsGo_skip x [] [] (fun b hb => (hx.2 b hb).1)
    rw [List.append_nil, List.nil_append] at this
    unfold wordsL
    rw [this, wordsGo, if_neg hx.1]
  | x :: y :: r, h => by
    have hx := h x (by simp)
    obtain ⟨h1, h2⟩ := words_join (y :: r) (fun z hz => h z (List.mem_cons_of_mem _ hz))
    have e : Lib.join (x :: y :: r) [32] = x ++ 32 :: Lib.join (y :: r) [32] := by
      rw [Lib.join_cons, Lib.join_cons]; simp [Lib.joinTail]
    rw [e]
    constructor
    · have := wordsGo_skip x [] (32 :: Lib.join (y :: r) [32]) (fun b hb => (hx.2 b hb).1)
      rw [List.nil_append] at this
      unfold wordsL at h1 ⊢
      rw [this, wordsGo, if_pos (by decide), if_neg hx.1, h1]
    · intro b hb
      simp only [List.mem_append, List.mem_cons] at hb
      rcases hb with hb | rfl | hb
      · exact (hx.2 b hb).2
      · decide
      · exact h2 b hb

theorem join_head {x : List UInt8} {r : List (List UInt8)} (h : x ≠ []) : (Lib.join (x :: r) [32]).head? = x.head? := by
  rw [Lib.join_cons]
  cases x with
  | nil => exact (h rfl).elim
  | cons a b => rfl

/-- a line leads on -/
theorem line_leads {t t' : TSt} {ws : List ByteArray} (hw : ∀ x ∈ ws.map (·.data.toList), GoodW x) (hl : (lineL ws).length ≤ 200) (he : endF (.text t []) = none) (h : ws.map (·.data.toList) ≠ [] ∧ stepT (decide ((Lib.join (ws.map (·.data.toList)) [32]).head? = some 37)) (ws.map (·.data.toList)) t = (0, t')) : Leads (.text t []) (lineL ws) (.text t' []) := by
  obtain ⟨h1, h2⟩ := words_join _ hw
  unfold lineL at hl ⊢
  have hlen : (Lib.join (ws.map (·.data.toList)) [32]).length ≤ 199 := by rw [List.length_append, List.length_singleton] at hl; omega
  generalize Lib.join (ws.map (·.data.toList)) [32] = l at *
  have hln : lineT t l = (0, t') := by unfold lineT; rw [h1, if_neg h.1]; exact h.2
  refine ⟨by rw [bytesF_lineE h2 (by omega), hln]; rfl, fun n hn => ?_⟩
  have hn' : n ≤ l.length := by rw [List.length_append, List.length_singleton] at hn; omega
  rw [List.take_append_of_le_length hn']
  refine ⟨_, bytesF_line (cur := []) (fun b hb => h2 b (List.mem_of_mem_take hb)) (by rw [List.length_take]; simp; omega), ?_⟩
  rw [List.nil_append]
  cases hc : l.take n with
  | nil => exact he
  | cons a b =>
    simp only [endF]

theorem good_dd (u : Nat) : GoodW (Lib.decDigits u) := by
  obtain ⟨d1, _, _, d4⟩ := dd_all u
  refine ⟨d4, fun b hb => ?_⟩
  have := d1 b hb
  unfold isDig at this
  simp only [Bool.and_eq_true, decide_eq_true_eq] at this
  refine ⟨?_, fun e => ?_⟩
  · unfold blankP; simp; omega
  · subst e; simp at this

theorem good_app {a b : List UInt8} (ha : ∀ c ∈ a, blankP c.toNat = false ∧ c ≠ 10) (hb : GoodW b) : GoodW (a ++ b) :=
  ⟨by simp [hb.1], fun c hc => by
    rcases List.mem_append.1 hc with h | h
    · exact ha c h
    · exact hb.2 c h⟩

theorem dig_good {c : UInt8} (h : isDig c = true) : blankP c.toNat = false ∧ c ≠ 10 := by
  unfold isDig at h
  simp only [Bool.and_eq_true, decide_eq_true_eq] at h
  refine ⟨?_, fun e => ?_⟩
  · unfold blankP; simp; omega
  · subst e; simp at h

theorem good_pr {x : Nat} {l : List UInt8} (h : PrintOk x l) : GoodW l := by
  have hs : ∀ c ∈ sgL x, blankP c.toNat = false ∧ c ≠ 10 := by
    intro c hc
    unfold sgL at hc
    split at hc
    · simp at hc; subst hc; decide
    · simp at hc
  rcases h with ⟨_, rfl⟩ | ⟨_, rfl⟩ | ⟨_, rfl⟩ | ⟨h0, h1, d, p, hsa, rfl⟩
  · exact ⟨by simp, by decide⟩
  · exact good_app hs ⟨by simp, by decide⟩
  · exact good_app hs ⟨by simp, by decide⟩
  · refine good_app hs ?_
    obtain ⟨c, f, q, e, hc, _, hf, q1, q2, _⟩ := out_parts hsa h0 h1
    rw [e]
    have hcf : ∀ z ∈ ptL (c :: f), blankP z.toNat = false ∧ z ≠ 10 := by
      intro z hz
      unfold ptL at hz
      split at hz
      · simp at hz
        rcases hz with rfl | rfl | hz
        · exact dig_good hc
        · decide
        · exact dig_good (hf z hz)
      · simp at hz
        rcases hz with rfl | hz
        · exact dig_good hc
        · exact dig_good (hf z hz)
    refine good_app hcf ⟨by simp, fun z hz => ?_⟩
    simp at hz
    rcases hz with rfl | hz
    · decide
    · obtain ⟨u, _, ⟨_, _, e2⟩ | ⟨_, _, e2⟩⟩ := itoa_form q1 q2
      · rw [e2] at hz; simp at hz
        rcases hz with rfl | hz
        · decide
        · exact (good_dd u).2 z hz
      · rw [e2] at hz; exact (good_dd u).2 z hz

theorem whole_dd {u : Nat} (h : u < 1000000000) : wholeL (Lib.decDigits u) = some u := by
  obtain ⟨d1, d2, _, _⟩ := dd_all u
  unfold wholeL
  rw [if_pos ⟨dd_len (k := 9) (by omega) (by omega), List.all_eq_true.2 d1⟩, d2]

theorem head_dd (u : Nat) : (Lib.decDigits u).head? ≠ some 37 := by
  obtain ⟨d1, _, _, d4⟩ := dd_all u
  cases h : Lib.decDigits u with
  | nil => exact (d4 h).elim
  | cons a b =>
    intro e
    simp at e
    have := d1 a (by rw [h]; simp)
    subst e
    revert this; decide

theorem head_pr {x : Nat} {l : List UInt8} (h : PrintOk x l) : l.head? ≠ some 37 := by
  have key : ∀ r : List UInt8, r.head? ≠ some 37 → (sgL x ++ r).head? ≠ some 37 := by
    intro r hr
    unfold sgL
    split
    · simp
    · simpa using hr
  rcases h with ⟨_, rfl⟩ | ⟨_, rfl⟩ | ⟨_, rfl⟩ | ⟨h0, h1, d, p, hsa, rfl⟩
  · simp
  · exact key _ (by simp)
  · exact key _ (by simp)
  · refine key _ ?_
    obtain ⟨c, f, q, e, hc, _, hf, q1, q2, _⟩ := out_parts hsa h0 h1
    rw [e]
    unfold ptL
    have : c ≠ 37 := fun e => by subst e; revert hc; decide
    split <;> simp [this]

/-- what an entry puts -/
def putE (k : Nat) (f : Nat → Nat → Nat) (y : Nat × Nat × Nat) : Nat → Nat → Nat := putF k f (y.1, y.2.1) y.2.2

theorem scan_pr {x : Nat} (hx : x < 18446744073709551616) (hp : PrintOk x (prL x)) (hc : canon x = x) : scanL (prL x) = (x, 0) := by
  have h := (scan_print hx hp).1
  rw [h]
  have : cleanN x = x := hc
  rw [this]

/-- the places of the entries are free -/
def FreeOf (k : Nat) (es : List (Nat × Nat × Nat)) (free : List (Nat × Nat)) : Prop :=
  if k = 2 ∨ k = 3 then (es.map fun y => (y.1, y.2.1)).Nodup ∧ ∀ y ∈ es, (y.1, y.2.1) ∈ free else free = es.map fun y => (y.1, y.2.1)

theorem mem_erase {α : Type} {l : List α} {i : Nat} {a q : α} (ha : a ∈ l) (hq : l[i]? = some q) (hne : a ≠ q) : a ∈ l.eraseIdx i := by
  obtain ⟨j, hj, rfl⟩ := List.getElem_of_mem ha
  refine List.mem_eraseIdx_iff_getElem?.2 ⟨j, fun e => hne ?_, by simp [hj]⟩
  subst e
  rw [List.getElem?_eq_getElem hj] at hq
  exact Option.some.inj hq

theorem entry_step {k R C : Nat} {y : Nat × Nat × Nat} {es : List (Nat × Nat × Nat)} {free : List (Nat × Nat)} {f : Nat → Nat → Nat} (h1 : y.1 < 40) (h2 : y.2.1 < 40) (h3 : y.2.2 < 18446744073709551616) (h4 : canon y.2.2 = y.2.2) (hp : PrintOk y.2.2 (prL y.2.2) ∧ (prL y.2.2).length ≤ 100) (hF : FreeOf k (y :: es) free) :
    ∃ free', FreeOf k es free' ∧ Leads (.text (.ent k R C (es.length + 1) free f) []) (lineL (entW k y)) (.text (.ent k R C es.length free' (putE k f y)) []) := by
  have hput : ∀ i, free[i]? = some (y.1, y.2.1) → putT k R C (es.length + 1) free f i (prL y.2.2) = (0, .ent k R C es.length (free.eraseIdx i) (putE k f y)) := by
    intro i hi
    unfold putT
    rw [scan_pr h3 hp.1 h4, if_neg (by simp), List.getD_eq_getElem?_getD, hi]
    rfl
  by_cases hk : k = 2 ∨ k = 3
  · unfold FreeOf at hF
    rw [if_pos hk] at hF
    obtain ⟨hnd, hin⟩ := hF
    obtain ⟨i, hi⟩ : ∃ i, idxP free (y.1 : Int) (y.2.1 : Int) = some i := by
      cases hi : idxP free (y.1 : Int) (y.2.1 : Int) with
      | some i => exact ⟨i, rfl⟩
      | none =>
        unfold idxP at hi
        rw [List.findIdx?_eq_none_iff] at hi
        have := hi _ (hin y (by simp))
        simp [isAt, eqB] at this
    have hat : free[i]? = some (y.1, y.2.1) := by
      unfold idxP at hi
      obtain ⟨hlt, hx, _⟩ := List.findIdx?_eq_some_iff_getElem.1 hi
      rw [List.getElem?_eq_getElem hlt]
      simp only [isAt, eqB, decide_eq_true_eq] at hx
      congr 1
      ext
      · exact Int.ofNat.inj hx.1
      · exact Int.ofNat.inj hx.2
    simp only [List.map_cons, List.nodup_cons] at hnd
    refine ⟨free.eraseIdx i, ?_, ?_⟩
    · unfold FreeOf
      rw [if_pos hk]
      refine ⟨hnd.2, fun z hz => mem_erase (hin z (by simp [hz])) hat (fun e => hnd.1 ?_)⟩
      rw [← e]
      exact List.mem_map.2 ⟨z, hz, rfl⟩
    · have hW : (entW k y).map (·.data.toList) = [Lib.decDigits (y.1 + 1), Lib.decDigits (y.2.1 + 1), prL y.2.2] := by
        unfold entW; rw [if_pos hk]; simp
      refine line_leads ?_ (ent_len (by omega) (by omega) hp.2) (by simp [endF]) ⟨?_, ?_⟩
      · rw [hW]
        intro x hx
        simp at hx
        rcases hx with rfl | rfl | rfl
        · exact good_dd _
        · exact good_dd _
        · exact good_pr hp.1
      · rw [hW]; simp
      · rw [hW, join_head (good_dd _).1, show decide ((Lib.decDigits (y.1 + 1)).head? = some 37) = false from decide_eq_false (head_dd _)]
        simp only [stepT]
        rw [if_pos hk]
        unfold cooE
        rw [if_neg (by simp)]
        simp only [List.take_succ_cons, List.take_zero, wholesL, whole_dd (show y.1 + 1 < 1000000000 by omega), whole_dd (show y.2.1 + 1 < 1000000000 by omega)]
        rw [if_neg (by omega), show (((y.1 + 1 : Nat) : Int) - 1) = (y.1 : Int) by omega, show (((y.2.1 + 1 : Nat) : Int) - 1) = (y.2.1 : Int) by omega, hi]
        exact hput i hat
  · unfold FreeOf at hF
    rw [if_neg hk] at hF
    have hat : free[0]? = some (y.1, y.2.1) := by rw [hF]; rfl
    refine ⟨free.eraseIdx 0, ?_, ?_⟩
    · unfold FreeOf
      rw [if_neg hk, hF]; rfl
    · have hW : (entW k y).map (·.data.toList) = [prL y.2.2] := by
        unfold entW; rw [if_neg hk]; simp
      refine line_leads ?_ (ent_len (by omega) (by omega) hp.2) (by simp [endF]) ⟨?_, ?_⟩
      · rw [hW]
        intro x hx
        simp at hx
        subst hx
        exact good_pr hp.1
      · rw [hW]; simp
      · rw [hW, join_head (good_pr hp.1).1, show decide ((prL y.2.2).head? = some 37) = false from decide_eq_false (head_pr hp.1)]
        simp only [stepT]
        rw [if_neg hk]
        unfold arrE
        rw [if_neg (by simp), if_neg (by omega)]
        exact hput 0 hat

theorem body_leads {k R C : Nat} : ∀ (es : List (Nat × Nat × Nat)) (free : List (Nat × Nat)) (f : Nat → Nat → Nat), (∀ y ∈ es, y.1 < 40 ∧ y.2.1 < 40 ∧ y.2.2 < 18446744073709551616 ∧ canon y.2.2 = y.2.2 ∧ PrintOk y.2.2 (prL y.2.2) ∧ (prL y.2.2).length ≤ 100) → FreeOf k es free →
    ∃ free', Leads (.text (.ent k R C es.length free f) []) (bodyL k es) (.text (.ent k R C 0 free' (es.foldl (putE k) f)) [])
  | [], free, f, _, _ => ⟨free, Leads.nil _⟩
  | y :: es, free, f, h, hF => by
    obtain ⟨h1, h2, h3, h4, h5⟩ := h y (by simp)
    obtain ⟨free', hF', hL⟩ := entry_step (R := R) (C := C) (f := f) h1 h2 h3 h4 h5 hF
    obtain ⟨free'', hL'⟩ := body_leads (R := R) (C := C) es free' (putE k f y) (fun z hz => h z (by simp [hz])) hF'
    refine ⟨free'', ?_⟩
    have e : bodyL k (y :: es) = lineL (entW k y) ++ bodyL k es := by simp [bodyL]
    rw [e]
    exact hL.app hL'

end Go.Proofs.YthdcceackfdbbaaGreatDoor
