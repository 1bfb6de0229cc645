import Derived.Test.YthdcceackfdbbabGreatDoorM22P
import Derived.Test.YthdcceackfdbbabGreatDoorM00P

/- Own text: views of the laws; a buffer into which was written. -/
namespace Go.Proofs.YthdcceackfdbbabGreatDoor
open Go Go.RowKit

theorem rc_inj {C i j i' j' : Nat} (hj : j < C) (hj' : j' < C) (h : i * C + j = i' * C + j') : i = i' ∧ j = j' := by
  have e1 : (i * C + j) / C = i := by rw [Nat.add_comm, Nat.add_mul_div_right _ _ (by omega), Nat.div_eq_of_lt hj]; omega
  have e2 : (i' * C + j') / C = i' := by rw [Nat.add_comm, Nat.add_mul_div_right _ _ (by omega), Nat.div_eq_of_lt hj']; omega
  have hi : i = i' := by rw [← e1, ← e2, h]
  subst hi
  exact ⟨rfl, by omega⟩

/-- row by row, each step as long as d -/
theorem fit_rows {R C d o n : Nat} (hd : 0 < d) (hn : o + d * (R * C) < n + d) : Fit R C (o : Int) ((d * C : Nat) : Int) (d : Int) n := by
  have e : ∀ i j : Nat, (o : Int) + (i : Int) * ((d * C : Nat) : Int) + (j : Int) * (d : Int) = ((o + d * (i * C + j) : Nat) : Int) := by
    intro i j
    push_cast
    rw [Int.mul_add, Int.mul_comm (j : Int), ← Int.mul_assoc (i : Int), Int.mul_comm (i : Int) (d : Int), Int.mul_assoc]
    omega
  constructor
  · intro i j hi hj
    rw [e]
    have h1 := idx_lt hi hj
    have h2 : d * (i * C + j + 1) ≤ d * (R * C) := Nat.mul_le_mul_left _ h1
    rw [Nat.mul_add] at h2
    omega
  · intro i j i' j' hi hj hi' hj' h
    rw [e, e] at h
    have h1 : d * (i * C + j) = d * (i' * C + j') := by omega
    exact rc_inj hj hj' (Nat.eq_of_mul_eq_mul_left hd h1)

/-- column by column, from behind -/
theorem fit_cols {R C o n : Nat} (ho : o < n) (hn : R * C ≤ o + 1) : Fit R C (o : Int) (-1) (-(R : Int)) n := by
  have e : ∀ i j : Nat, i < R → j < C → j * R + i ≤ o ∧ (o : Int) + (i : Int) * (-1) + (j : Int) * (-(R : Int)) = ((o - (j * R + i) : Nat) : Int) := by
    intro i j hi hj
    have h1 := idx_lt hj hi
    rw [Nat.mul_comm C R] at h1
    refine ⟨by omega, ?_⟩
    rw [Int.mul_neg, Int.mul_neg, show (j : Int) * (R : Int) = ((j * R : Nat) : Int) by push_cast; rfl]
    omega
  constructor
  · intro i j hi hj
    obtain ⟨h1, h2⟩ := e i j hi hj
    rw [h2]
    omega
  · intro i j i' j' hi hj hi' hj' h
    obtain ⟨h1, h2⟩ := e i j hi hj
    obtain ⟨h3, h4⟩ := e i' j' hi' hj'
    rw [h2, h4] at h
    have := rc_inj (C := R) (i := j) (j := i) (i' := j') (j' := i') hi hi' (by omega)
    exact ⟨this.2, this.1⟩

/-- where a number of a matrix lies -/
def plcP (off rs cs : Int) (x : Nat × Nat × Nat) : Nat := (off + x.1 * rs + x.2.1 * cs).toNat
def setP (off rs cs : Int) (V : Nat × Nat × Nat → Value) (l : List Value) (x : Nat × Nat × Nat) : List Value := l.set (plcP off rs cs x) (V x)

theorem setP_miss {off rs cs : Int} {V : Nat × Nat × Nat → Value} {i : Nat} : ∀ (xs : List (Nat × Nat × Nat)) (l : List Value), (∀ x ∈ xs, plcP off rs cs x ≠ i) → (xs.foldl (setP off rs cs V) l)[i]? = l[i]?
  | [], l, _ => rfl
  | x :: r, l, h => by
    rw [List.foldl_cons, setP_miss r _ (fun y hy => h y (by simp [hy]))]
    unfold setP
    rw [List.getElem?_set_ne (h x (by simp))]

theorem setP_len {off rs cs : Int} {V : Nat × Nat × Nat → Value} : ∀ (xs : List (Nat × Nat × Nat)) (l : List Value), (xs.foldl (setP off rs cs V) l).length = l.length
  | [], l => rfl
  | x :: r, l => by rw [List.foldl_cons, setP_len r]; simp [setP]

theorem setP_hit {off rs cs : Int} {V : Nat × Nat × Nat → Value} : ∀ (xs : List (Nat × Nat × Nat)) (l : List Value), xs.Pairwise (fun a b => plcP off rs cs a ≠ plcP off rs cs b) → ∀ x ∈ xs, plcP off rs cs x < l.length → (xs.foldl (setP off rs cs V) l)[plcP off rs cs x]? = some (V x)
  | [], l, _, x, hx, _ => by simp at hx
  | y :: r, l, hp, x, hx, hl => by
    rw [List.foldl_cons]
    obtain ⟨h1, h2⟩ := List.pairwise_cons.1 hp
    rcases List.mem_cons.1 hx with rfl | hx
    · rw [setP_miss r _ (fun z hz => (h1 z hz).symm)]
      unfold setP
      rw [List.getElem?_set_self hl]
    · exact setP_hit r _ h2 x hx (by unfold setP; simpa using hl)

theorem putL_eq (R C : Nat) (off rs cs : Int) (f : Nat → Nat → Nat) (l : List Value) : putL R C off rs cs f l = (rowsL R C f).foldl (setP off rs cs (fun x => .int .u64 (x.2.2 : Int))) l := rfl

theorem rows_pair {R C : Nat} {f : Nat → Nat → Nat} {off rs cs : Int} {n : Nat} (h : R = 0 ∨ C = 0 ∨ Fit R C off rs cs n) : (rowsL R C f).Pairwise (fun a b => plcP off rs cs a ≠ plcP off rs cs b) := by
  unfold rowsL
  rw [List.pairwise_map]
  refine (List.pairwise_lt_range (n := R * C)).imp_of_mem (fun {a b} ha hb hab e => ?_)
  have ha := List.mem_range.1 ha
  have hb := List.mem_range.1 hb
  have hRC : ¬ R = 0 ∧ ¬ C = 0 := by
    constructor <;> intro e <;> subst e <;> simp at ha
  have h : Fit R C off rs cs n := by rcases h with h | h | h; · exact (hRC.1 h).elim
                                     · exact (hRC.2 h).elim
                                     · exact h
  obtain ⟨a1, a2⟩ := div_mod_lt ha
  obtain ⟨b1, b2⟩ := div_mod_lt hb
  have ea := (h.1 _ _ a1 a2).1
  have eb := (h.1 _ _ b1 b2).1
  unfold plcP at e
  simp only at e
  obtain ⟨q1, q2⟩ := h.2 _ _ _ _ a1 a2 b1 b2 (by omega)
  have h1 := Nat.div_add_mod a C
  have h2 := Nat.div_add_mod b C
  rw [q1, q2] at h1
  omega

theorem rows_lt {R C : Nat} {f : Nat → Nat → Nat} {off rs cs : Int} {n : Nat} (h : R = 0 ∨ C = 0 ∨ Fit R C off rs cs n) {x : Nat × Nat × Nat} (hx : x ∈ rowsL R C f) : 0 ≤ off + x.1 * rs + x.2.1 * cs ∧ plcP off rs cs x < n := by
  obtain ⟨h1, h2, _⟩ := rowsL_mem hx
  have h : Fit R C off rs cs n := by rcases h with h | h | h; · omega
                                     · omega
                                     · exact h
  have := h.1 _ _ h1 h2
  unfold plcP
  omega

/-- the buffer when k numbers were looked at, and set back -/
def backL (R C : Nat) (off rs cs : Int) (f : Nat → Nat → Nat) (k : Nat) (l : List Value) : List Value := ((rowsL R C f).take k).foldl (setP off rs cs (fun _ => .int .u64 7)) (putL R C off rs cs f l)

theorem backL_len (R C : Nat) (off rs cs : Int) (f : Nat → Nat → Nat) (k : Nat) (l : List Value) : (backL R C off rs cs f k l).length = l.length := by
  unfold backL; rw [setP_len, putL_eq, setP_len]

theorem backL_at {R C : Nat} {f : Nat → Nat → Nat} {off rs cs : Int} {n : Nat} (h : R = 0 ∨ C = 0 ∨ Fit R C off rs cs n) {l : List Value} (hl : n ≤ l.length) {k : Nat} {x : Nat × Nat × Nat} (hx : (rowsL R C f)[k]? = some x) :
    (backL R C off rs cs f k l)[plcP off rs cs x]? = some (.int .u64 (x.2.2 : Int)) ∧ (backL R C off rs cs f k l).set (plcP off rs cs x) (.int .u64 7) = backL R C off rs cs f (k + 1) l := by
  have hp := rows_pair (f := f) h
  have hm := List.mem_of_getElem? hx
  constructor
  · unfold backL
    rw [setP_miss _ _ (fun y hy => ?_), putL_eq]
    · exact setP_hit _ _ hp x hm (by have := (rows_lt h hm).2; omega)
    · obtain ⟨j, hj, rfl⟩ := List.getElem_of_mem hy
      rw [List.length_take] at hj
      rw [List.getElem_take]
      have hk : k < (rowsL R C f).length := (List.getElem?_eq_some_iff.1 hx).1
      have := List.pairwise_iff_getElem.1 hp j k (by omega) hk (by omega)
      rw [(List.getElem?_eq_some_iff.1 hx).2] at this
      exact this
  · unfold backL
    rw [List.take_add_one, hx]
    simp [List.foldl_append, setP]

theorem backL_all {R C : Nat} {f : Nat → Nat → Nat} {off rs cs : Int} {n N : Nat} (h : R = 0 ∨ C = 0 ∨ Fit R C off rs cs n) {i : Nat} (hi : i < N) : (backL R C off rs cs f (R * C) (List.replicate N (.int .u64 7)))[i]? = some (.int .u64 7) := by
  have hp := rows_pair (f := f) h
  unfold backL
  rw [List.take_of_length_le (by rw [rowsL_len]; exact Nat.le_refl _)]
  by_cases hx : ∃ x ∈ rowsL R C f, plcP off rs cs x = i
  · obtain ⟨x, hx, rfl⟩ := hx
    exact setP_hit (V := fun _ => .int .u64 7) _ _ hp x hx (by rw [putL_eq, setP_len]; simpa using hi)
  · have hx' : ∀ x ∈ rowsL R C f, plcP off rs cs x ≠ i := fun x h1 h2 => hx ⟨x, h1, h2⟩
    rw [setP_miss _ _ hx', putL_eq, setP_miss _ _ hx']
    simp [hi]

end Go.Proofs.YthdcceackfdbbabGreatDoor
/- Own text: pieces, one after another, are one piece. -/
namespace Go.Proofs.YthdcceackfdbbabGreatDoor
open Go Go.RowKit

theorem bytesF_app0 : ∀ {l m : List UInt8} {s s' : FSt}, bytesF s l = (0, s') → bytesF s (l ++ m) = bytesF s' m
  | [], m, s, s', h => by simp only [bytesF] at h; cases h; rfl
  | x :: r, m, s, s', h => by
    simp only [bytesF, List.cons_append] at h ⊢
    by_cases h0 : (takeF s x).1 = 0
    · rw [if_pos h0] at h ⊢; exact bytesF_app0 h
    · rw [if_neg h0] at h; exact (h0 (by rw [h])).elim

theorem filR_app (s : FSt) (a b : List UInt8) : filR (bytesF s (a ++ b)) = feedS (filR (bytesF s a)).2 b := by
  by_cases h : (bytesF s a).1 = 0
  · have h1 : bytesF s a = (0, (bytesF s a).2) := by rw [← h]
    rw [bytesF_app0 h1]
    unfold filR
    rw [if_pos h]
    rfl
  · rw [bytesF_app h]
    unfold filR
    rw [if_neg h]
    rfl

theorem feedS_app (s : RSt) (a b : List UInt8) : feedS s (a ++ b) = feedS (feedS s a).2 b := by
  cases s with
  | begin =>
    cases a with
    | nil => rfl
    | cons x r =>
      have e : ∀ z, feedS .begin (x :: z) = match fileS x with | some s => filR (bytesF s (x :: z)) | none => (6, .failed 6) := fun z => rfl
      rw [List.cons_append, e, e]
      cases fileS x with
      | none => rfl
      | some s => exact filR_app s (x :: r) b
  | file s => simp only [feedS]; exact filR_app s a b
  | failed e => rfl
  | ended k R C f => rfl

/-- a state in which an error was answered -/
theorem feedS_err {s : RSt} {l : List UInt8} {e : Int} (hs : s = .begin ∨ ∃ t, s = .file t) (h : (feedS s l).1 = e) (he : e ≠ 0) : (feedS s l).2 = .failed e := by
  have hf : ∀ r : Int × FSt, (filR r).1 = e → (filR r).2 = .failed e := by
    intro r hr
    unfold filR at hr ⊢
    split
    · rename_i h0; rw [if_pos h0] at hr; exact (he hr.symm).elim
    · rename_i h0; rw [if_neg h0] at hr; rw [← hr]
  rcases hs with rfl | ⟨t, rfl⟩
  · cases l with
    | nil => exact (he (by simpa [feedS] using h.symm)).elim
    | cons x r =>
      simp only [feedS] at h ⊢
      cases hx : fileS x with
      | none => rw [hx] at h; simp only at h ⊢; rw [← h]
      | some s => rw [hx] at h; exact hf _ h
  · exact hf _ h

/-- behind no error, a file or nothing -/
theorem feedS_ok {s : RSt} {l : List UInt8} (hs : s = .begin ∨ ∃ t, s = .file t) (h : (feedS s l).1 = 0) : (feedS s l).2 = .begin ∨ ∃ t, (feedS s l).2 = .file t := by
  have hf : ∀ r : Int × FSt, (filR r).1 = 0 → ∃ t, (filR r).2 = .file t := by
    intro r hr
    unfold filR at hr ⊢
    split
    · exact ⟨_, rfl⟩
    · rename_i h0; rw [if_neg h0] at hr; exact (h0 hr).elim
  rcases hs with rfl | ⟨t, rfl⟩
  · cases l with
    | nil => exact .inl rfl
    | cons x r =>
      simp only [feedS] at h ⊢
      cases hx : fileS x with
      | none => rw [hx] at h; simp at h
      | some s => rw [hx] at h; exact .inr (hf _ h)
  · exact .inr (hf _ h)

theorem feedS_begin_err {a b : List UInt8} {e : Int} (h : (feedS .begin a).1 = e) (he : e ≠ 0) : feedS .begin (a ++ b) = (e, .failed e) := by
  rw [feedS_app, feedS_err (.inl rfl) h he]; rfl

/-- whether a file is ended in the end -/
theorem endS_cases (s : RSt) (hs : s = .begin ∨ ∃ t, s = .file t) : (∃ e, e ≠ 0 ∧ endS s = ((0, 0, 0), e, .failed e)) ∨ (∃ k R C f, endS s = ((R, C, k), 0, .ended k R C f)) := by
  rcases hs with rfl | ⟨t, rfl⟩
  · exact .inl ⟨6, by decide, rfl⟩
  · simp only [endS]
    cases endF t with
    | none => exact .inl ⟨11, by decide, rfl⟩
    | some x => obtain ⟨k, R, C, f⟩ := x; exact .inr ⟨k, R, C, f, rfl⟩

/-- all states that bytes lead to, and their ends -/
theorem end_of_feed (l : List UInt8) : (∃ e, e ≠ 0 ∧ endS (feedS .begin l).2 = ((0, 0, 0), e, .failed e) ∧ ((feedS .begin l).1 ≠ 0 → (feedS .begin l).1 = e)) ∨ ((feedS .begin l).1 = 0 ∧ ∃ k R C f, endS (feedS .begin l).2 = ((R, C, k), 0, .ended k R C f)) := by
  by_cases h : (feedS .begin l).1 = 0
  · rcases endS_cases _ (feedS_ok (.inl rfl) h) with ⟨e, he, h1⟩ | h1
    · exact .inl ⟨e, he, h1, fun hn => (hn h).elim⟩
    · exact .inr ⟨h, h1⟩
  · refine .inl ⟨(feedS .begin l).1, h, ?_, fun _ => rfl⟩
    rw [feedS_err (.inl rfl) rfl h]
    rfl

theorem ReadIs.ptr_lt {w : World} {p : Nat} {Sf : Nat → Prop} {s : RSt} (h : ReadIs w p Sf s) : p < w.heap.size := by
  obtain ⟨c, hc, _⟩ := h.arr
  exact hc.lt

theorem feedS_nil : feedS .begin [] = (0, .begin) := rfl

theorem intoL_len (s : RSt) (R C off rs cs : Int) (n : Nat) (l : List Value) : (intoL s R C off rs cs n l).length = l.length := by
  unfold intoL
  split
  · split
    · exact putFold_len _ _ _ _ _
    · rfl
  · rfl

theorem putFold_u64 (off rs cs : Int) : ∀ (xs : List (Nat × Nat × Nat)) (l : List Value), (∀ v ∈ l, ∃ z : Int, v = .int .u64 z) → ∀ v ∈ xs.foldl (putStep off rs cs) l, ∃ z : Int, v = .int .u64 z
  | [], l, h => h
  | x :: r, l, h => by
    rw [List.foldl_cons]
    refine putFold_u64 off rs cs r _ (fun v hv => ?_)
    unfold putStep at hv
    rcases List.mem_or_eq_of_mem_set hv with hv | hv
    · exact h v hv
    · exact ⟨_, hv⟩

theorem intoL_u64 (s : RSt) (R C off rs cs : Int) (n : Nat) {l : List Value} (h : ∀ v ∈ l, ∃ z : Int, v = .int .u64 z) : ∀ v ∈ intoL s R C off rs cs n l, ∃ z : Int, v = .int .u64 z := by
  unfold intoL
  split
  · split
    · exact putFold_u64 _ _ _ _ _ h
    · exact h
  · exact h

theorem intoE_ended {w : World} {p : Nat} {Sf : Nat → Prop} {k R C : Nat} {f : Nat → Nat → Nat} (h : ReadIs w p Sf (.ended k R C f)) : intoE (.ended k R C f) R C 0 C 1 1600 = 0 := by
  obtain ⟨_, hR, hC, _⟩ := h.at_
  have hRC : R * C ≤ 40 * 40 := Nat.mul_le_mul hR hC
  have hfit : FitV (R : Int) (C : Int) 0 (C : Int) 1 1600 := by
    refine ⟨by omega, by omega, by omega, .inr (.inr ?_)⟩
    have := fit_rows (R := R) (C := C) (d := 1) (o := 0) (n := 1600) (by omega) (by omega)
    simpa using this
  unfold intoE
  simp only
  rw [if_neg (fun hh => hh hfit), if_neg (by omega)]

theorem intoE_failed (e : Int) (R C off rs cs : Int) (n : Nat) : intoE (.failed e) R C off rs cs n = 11 := rfl

/-- a line of a text -/
theorem bytesF_line {t : TSt} : ∀ {l cur : List UInt8}, (∀ b ∈ l, b ≠ 10) → cur.length + l.length ≤ 200 → bytesF (.text t cur) l = (0, .text t (cur ++ l))
  | [], cur, _, _ => by simp [bytesF]
  | b :: r, cur, h, hl => by
    have h1 : takeT t cur b = (0, t, cur ++ [b]) := by
      unfold takeT
      rw [if_neg (h b (by simp)), if_neg (by simp at hl; omega)]
    rw [bytesF]
    simp only [takeF, h1]
    rw [if_pos (by simp), bytesF_line (fun c hc => h c (by simp [hc])) (by simp at hl ⊢; omega)]
    simp

theorem bytesF_lineE {t : TSt} {l : List UInt8} (h : ∀ b ∈ l, b ≠ 10) (hl : l.length ≤ 200) : bytesF (.text t []) (l ++ [10]) = (((lineT t l).1 : Int), .text (lineT t l).2 []) := by
  rw [bytesF_snoc (bytesF_line (cur := []) h (by simpa using hl))]
  simp [takeF, takeT]

end Go.Proofs.YthdcceackfdbbabGreatDoor
/- Own text: the law's own: pick, read. -/
namespace Go.Proofs.YthdcceackfdbbabGreatDoor
open Go Go.RowKit

set_option maxHeartbeats 400000 in
theorem kpick (w : World) (c n : Int) (h1 : -9223372036854775808 ≤ c) (h2 : c ≤ 9223372036854775807) (hn : 0 < n) (hn2 : n ≤ 9223372036854775807) :
    Calls Tryz.prog 6 #[.int .i64 c, .int .i64 n] w fun e w' => (∃ k : Nat, e = .returned (.int .i64 (k : Int)) ∧ (k : Int) < n) ∧ w' = w := by
  by_cases hc : c < 0
  · go_enter Tryz.func6, Tryz.ntmps6
    go_wp2
    go_ret
    have e1 : (c + 1).tmod n = -(-(c + 1) % n) := by
      rw [← Int.tmod_eq_emod_of_nonneg (by omega : 0 ≤ -(c + 1)), Int.neg_tmod, Int.neg_neg]
    have e2 := Int.emod_nonneg (-(c + 1)) (by omega : n ≠ 0)
    have e3 := Int.emod_lt_of_pos (-(c + 1)) hn
    exact ⟨⟨(-(c + 1) % n).toNat, ret_int (by rw [e1]; omega), by omega⟩, rfl⟩
  · go_enter Tryz.func6, Tryz.ntmps6
    go_wp2
    go_ret
    refine ⟨⟨(c % n).toNat, ret_int ?_, ?_⟩, rfl⟩
    · have := Int.emod_nonneg c (by omega : n ≠ 0); omega
    · have := Int.emod_nonneg c (by omega : n ≠ 0); have := Int.emod_lt_of_pos c hn; omega

def shpV (R C k : Nat) : Value := .agg #[.int .i64 (R : Int), .int .i64 (C : Int), .int .i64 (k : Int)]

/-- what read answers -/
def ReadR (w : World) (l : List UInt8) (e : Ending) (w' : World) : Prop :=
  Below w.heap.size w w' ∧
  (((feedS .begin l).1 ≠ 0 ∧ e = .returned (.tuple #[.pointer none, shpV 0 0 0, .bool false])) ∨
   ((feedS .begin l).1 = 0 ∧ ∃ (p : Nat) (Sf : Nat → Prop), e = .returned (.tuple #[.pointer (some ⟨p, 0, none⟩), shpV (endS (feedS .begin l).2).1.1 (endS (feedS .begin l).2).1.2.1 (endS (feedS .begin l).2).1.2.2, .bool ((endS (feedS .begin l).2).2.1 == 0)]) ∧
      w.heap.size ≤ p ∧ (∀ q, Sf q → w.heap.size ≤ q) ∧ ReadIs w' p Sf (endS (feedS .begin l).2).2.2))

theorem piece_list {x : ByteArray} {k e : Nat} : (x.extract k e).data.toList = (x.data.toList.drop k).take (e - k) := ext_list x k e

/-- a piece more -/
theorem feed_piece {l : List UInt8} {k e : Nat} {s : RSt} (h : feedS .begin (l.take k) = (0, s)) (hk : k ≤ e) : feedS .begin (l.take e) = feedS s ((l.drop k).take (e - k)) := by
  have e1 : l.take e = l.take k ++ (l.drop k).take (e - k) := by
    have := List.take_add (l := l) (i := k) (j := e - k)
    rw [show k + (e - k) = e by omega] at this
    exact this
  rw [e1, feedS_app, h]

set_option maxRecDepth 20000 in
set_option maxHeartbeats 4000000 in
theorem kread_any (w : World) (x : ByteArray) (n piece : Nat) (hn : x.size = n) (hn1 : n ≤ 281474976710656) (hp1 : 1 ≤ piece) (hp2 : piece ≤ 1000000) :
    Calls Tryz.prog 4 #[.string x, .int .i64 (piece : Int)] w fun e w' => ReadR w x.data.toList e w' := by
  have hmix : Tryz.prog.follows .mixedOrders = true := by kernel_rfl
  obtain ⟨b, hb⟩ : ∃ b, w.heap.size = b := ⟨_, rfl⟩
  have rX : Arr (w.alloc (.cells #[.int .i64 0, .int .i64 0, .int .i64 0] 24)) b 24 [.int .i64 0, .int .i64 0, .int .i64 0] := by rw [← hb]; exact Arr.newL _ _ _
  have bX : Below b w (w.alloc (.cells #[.int .i64 0, .int .i64 0, .int .i64 0] 24)) := by rw [← hb]; exact Below.refl' _ _
  have zX : (w.alloc (.cells #[.int .i64 0, .int .i64 0, .int .i64 0] 24)).heap.size = b + 1 := by simp [hb]
  obtain ⟨X, hX⟩ : ∃ X, w.alloc (.cells #[.int .i64 0, .int .i64 0, .int .i64 0] 24) = X := ⟨_, rfl⟩
  rw [hX] at rX bX zX
  have HRX := hid rX
  have HBX := hid bX
  have HZX := hid zX
  have HN := hid hn
  have hxl : x.data.toList.length = n := by rw [← hn]; exact (bytes_size rfl).symm
  have HXL := hid hxl
  clear rX bX zX hn hxl
  obtain ⟨p, hp⟩ : ∃ p, X.heap.size = p := ⟨_, rfl⟩
  have hnr := newReader_any X
  rw [hp] at hnr
  have HNR := hid hnr
  have HPB : Hid (p = b + 1) := by show _ = _; rw [← hp, HZX.out]
  clear hnr hp
  go_enter Tryz.func4, Tryz.ntmps4
  go_wp2_with fail
  clear hX
  refine HNR.out.mono ?_
  rintro e W1 ⟨rfl, b1, hr⟩
  have HB1 : Hid (Below b w W1) := (HBX.out.trans (b1.mono (by have := HPB.out; omega)))
  have HR1 : Hid (Arr W1 b 24 [.int .i64 0, .int .i64 0, .int .i64 0]) := (b1.block b (by have := HPB.out; omega)).trans HRX.out
  have HRD := hid hr
  have HBW : Hid (b = w.heap.size) := hb.symm
  clear hr b1 HNR HBX HRX HZX hb
  go_wp2_with fail
  go_loopw [8] (fun i wr => ∃ (k : Nat) (s : RSt) (Sk : Nat → Prop), k ≤ n + 1000000 ∧ i = .int .i64 (k : Int) ∧ Hid (feedS .begin (x.data.toList.take k) = (0, s)) ∧ Hid (ReadIs wr p Sk s) ∧ Hid (∀ q, Sk q → p < q) ∧ Hid (Below b w wr) ∧ Hid (Arr wr b 24 [.int .i64 0, .int .i64 0, .int .i64 0])) (fun i _ => n - (intOf i).toNat)
  case atStart => exact ⟨0, .begin, fun _ => False, by omega, rfl, by show _ = _; rw [List.take_zero]; exact feedS_nil, HRD, fun q h => h.elim, HB1, HR1⟩
  case round =>
    obtain ⟨k, s, Sk, hk, rfl, HF, HR, HS, HB, HZ⟩ := hrel
    have hns := HN.out
    by_cases hlt : k < n
    · have hlt' : (k : Int) < (x.size : Int) := by omega
      have hkx : k ≤ x.size := by omega
      by_cases hen : n < k + piece
      · have hen' : (x.size : Int) < (k : Int) + (piece : Int) := by omega
        have hfd := feed_any wr p Sk s (x.extract k x.size) (by rw [bytes_size piece_list]; unfold maxLen; simp; omega) HR.out
        rw [piece_list, ← feed_piece HF.out (by omega)] at hfd
        have HFD := hid hfd
        have HT : Hid (x.data.toList.take x.size = x.data.toList) := by show _ = _; exact List.take_of_length_le (by rw [HXL.out]; omega)
        clear hfd hns
        go_wp2_with fail
        refine HFD.out.mono ?_
        rintro e W2 ⟨rfl, hk2, S2, hS2, hR2⟩
        obtain ⟨⟨er, s2⟩, hes⟩ : ∃ r : Int × RSt, feedS .begin (x.data.toList.take x.size) = r := ⟨_, rfl⟩
        rw [hes] at hR2 ⊢
        simp only at hR2 ⊢
        have HB2 : Hid (Below b w W2) := HB.out.trans (hk2.below (fun q hq => by
          have := HPB.out
          rcases hq with rfl | hq
          · omega
          · have := HS.out q hq; omega) (by have := HB.out.size; have := HBW.out; omega))
        have hZ2 : Arr W2 b 24 [.int .i64 0, .int .i64 0, .int .i64 0] := hk2.arr HZ.out (fun hq => by
          have := HPB.out
          rcases hq with hq | hq
          · omega
          · have := HS.out b hq; omega)
        have HS2 : Hid (∀ q, S2 q → p < q) := fun q hq => by
          rcases hS2 q hq with h | h
          · exact HS.out q h
          · have := HR.out.ptr_lt; omega
        have HES := hid hes
        have HR2 := hid hR2
        clear hes hR2 hS2 HFD hk2
        by_cases he : er = 0
        · subst he
          have HZ2 := hid hZ2
          clear hZ2
          go_wp2
          go_round
          case rel => exact ⟨k + piece, s2, S2, by omega, by simp, by have h := HES.out; rw [HT.out] at h; show _ = _; rw [List.take_of_length_le (by rw [HXL.out]; omega)]; exact h, HR2, HS2, HB2, HZ2⟩
          case measure => simp [intOf]; omega
        · have c0 := hZ2.cell (i := 0) rfl
          have f0 := hZ2.frozen 0
          have z1 := hZ2.set 0 (.int .i64 0)
          have c1 := z1.cell (i := 1) rfl
          have f1 := z1.frozen 1
          have z2 := z1.set 1 (.int .i64 0)
          have c2 := z2.cell (i := 2) rfl
          have f2 := z2.frozen 2
          have z3 := z2.set 2 (.int .i64 0)
          have d0 := z3.cell (i := 0) rfl
          have d1 := z3.cell (i := 1) rfl
          have d2 := z3.cell (i := 2) rfl
          have hfin : Hid (ReadR w x.data.toList (.returned (.tuple #[.pointer none, shpV 0 0 0, .bool false])) (((W2.setCell ⟨b, 0, none⟩ (.int .i64 0)).setCell ⟨b, 1, none⟩ (.int .i64 0)).setCell ⟨b, 2, none⟩ (.int .i64 0))) := by
            refine ⟨?_, .inl ⟨?_, rfl⟩⟩
            · rw [← HBW.out]
              exact ((HB2.out.setCell (p := ⟨b, 0, none⟩) (Nat.le_refl _) _).setCell (p := ⟨b, 1, none⟩) (Nat.le_refl _) _).setCell (p := ⟨b, 2, none⟩) (Nat.le_refl _) _
            · have h1 : feedS .begin x.data.toList = (er, .failed er) := by
                conv => lhs; rw [← List.take_append_drop x.size x.data.toList]
                exact feedS_begin_err (by rw [HES.out]) he
              rw [h1]; exact he
          clear hZ2 z1 z2 z3 HES HR2 HS2 HB2
          go_wp2
          refine bodyPost_ret (v := .tuple #[.pointer none, .agg #[.int .i64 0, .int .i64 0, .int .i64 0], .bool false]) ?_ rfl hfin.out
          simp [results, Tryz.results4, go_sem, d0, d1, d2]
      · have hen' : ¬ (x.size : Int) < (k : Int) + (piece : Int) := by omega
        have hfd := feed_any wr p Sk s (x.extract k (k + piece)) (by rw [bytes_size piece_list]; unfold maxLen; simp; omega) HR.out
        rw [piece_list, ← feed_piece HF.out (by omega)] at hfd
        have HFD := hid hfd
        clear hfd hns
        go_wp2_with fail
        refine HFD.out.mono ?_
        rintro e W2 ⟨rfl, hk2, S2, hS2, hR2⟩
        obtain ⟨⟨er, s2⟩, hes⟩ : ∃ r : Int × RSt, feedS .begin (x.data.toList.take (k + piece)) = r := ⟨_, rfl⟩
        rw [hes] at hR2 ⊢
        simp only at hR2 ⊢
        have HB2 : Hid (Below b w W2) := HB.out.trans (hk2.below (fun q hq => by
          have := HPB.out
          rcases hq with rfl | hq
          · omega
          · have := HS.out q hq; omega) (by have := HB.out.size; have := HBW.out; omega))
        have hZ2 : Arr W2 b 24 [.int .i64 0, .int .i64 0, .int .i64 0] := hk2.arr HZ.out (fun hq => by
          have := HPB.out
          rcases hq with hq | hq
          · omega
          · have := HS.out b hq; omega)
        have HS2 : Hid (∀ q, S2 q → p < q) := fun q hq => by
          rcases hS2 q hq with h | h
          · exact HS.out q h
          · have := HR.out.ptr_lt; omega
        have HES := hid hes
        have HR2 := hid hR2
        clear hes hR2 hS2 HFD hk2
        by_cases he : er = 0
        · subst he
          have HZ2 := hid hZ2
          clear hZ2
          go_wp2
          go_round
          case rel => exact ⟨k + piece, s2, S2, by omega, by simp, HES, HR2, HS2, HB2, HZ2⟩
          case measure => simp [intOf]; omega
        · have c0 := hZ2.cell (i := 0) rfl
          have f0 := hZ2.frozen 0
          have z1 := hZ2.set 0 (.int .i64 0)
          have c1 := z1.cell (i := 1) rfl
          have f1 := z1.frozen 1
          have z2 := z1.set 1 (.int .i64 0)
          have c2 := z2.cell (i := 2) rfl
          have f2 := z2.frozen 2
          have z3 := z2.set 2 (.int .i64 0)
          have d0 := z3.cell (i := 0) rfl
          have d1 := z3.cell (i := 1) rfl
          have d2 := z3.cell (i := 2) rfl
          have hfin : Hid (ReadR w x.data.toList (.returned (.tuple #[.pointer none, shpV 0 0 0, .bool false])) (((W2.setCell ⟨b, 0, none⟩ (.int .i64 0)).setCell ⟨b, 1, none⟩ (.int .i64 0)).setCell ⟨b, 2, none⟩ (.int .i64 0))) := by
            refine ⟨?_, .inl ⟨?_, rfl⟩⟩
            · rw [← HBW.out]
              exact ((HB2.out.setCell (p := ⟨b, 0, none⟩) (Nat.le_refl _) _).setCell (p := ⟨b, 1, none⟩) (Nat.le_refl _) _).setCell (p := ⟨b, 2, none⟩) (Nat.le_refl _) _
            · have h1 : feedS .begin x.data.toList = (er, .failed er) := by
                conv => lhs; rw [← List.take_append_drop (k + piece) x.data.toList]
                exact feedS_begin_err (by rw [HES.out]) he
              rw [h1]; exact he
          clear hZ2 z1 z2 z3 HES HR2 HS2 HB2
          go_wp2
          refine bodyPost_ret (v := .tuple #[.pointer none, .agg #[.int .i64 0, .int .i64 0, .int .i64 0], .bool false]) ?_ rfl hfin.out
          simp [results, Tryz.results4, go_sem, d0, d1, d2]
    · have hlt' : ¬ (k : Int) < (x.size : Int) := by omega
      clear hns
      have hall : Hid (feedS .begin x.data.toList = (0, s)) := by
        have h := HF.out
        rw [List.take_of_length_le (by rw [HXL.out]; omega)] at h
        exact h
      have hen := rend_any wr p Sk s HR.out
      obtain ⟨⟨⟨R, C, kd⟩, er, s'⟩, hes⟩ : ∃ r, endS s = r := ⟨_, rfl⟩
      rw [hes] at hen
      simp only at hen
      have HEN := hid hen
      have HES := hid hes
      clear hen hes
      go_wp2_with fail
      refine HEN.out.mono ?_
      rintro e W2 ⟨rfl, hk2, S2, hS2, hR2⟩
      have hb2 : Below b w W2 := HB.out.trans (hk2.below (fun q hq => by
          have := HPB.out
          rcases hq with rfl | hq
          · omega
          · have := HS.out q hq; omega) (by have := HB.out.size; have := HBW.out; omega))
      have hZ2 : Arr W2 b 24 [.int .i64 0, .int .i64 0, .int .i64 0] := hk2.arr HZ.out (fun hq => by
          have := HPB.out
          rcases hq with hq | hq
          · omega
          · have := HS.out b hq; omega)
      have HS2 : Hid (∀ q, S2 q → p < q) := fun q hq => by
          rcases hS2 q hq with h | h
          · exact HS.out q h
          · have := HR.out.ptr_lt; omega
      have hp2 := hR2.ptr_lt
      obtain ⟨c, hc⟩ : ∃ c, W2.heap.size = c := ⟨_, rfl⟩
      have hbc : b < c := by have := hZ2.lt; omega
      have aV : Arr (W2.alloc (.cells #[.int .i64 (R : Int), .int .i64 (C : Int), .int .i64 (kd : Int)] 24)) c 24 [.int .i64 (R : Int), .int .i64 (C : Int), .int .i64 (kd : Int)] := by rw [← hc]; exact Arr.newL _ _ _
      have bV : Below c W2 (W2.alloc (.cells #[.int .i64 (R : Int), .int .i64 (C : Int), .int .i64 (kd : Int)] 24)) := by rw [← hc]; exact Below.refl' _ _
      have HAV := hid aV
      have HBV := hid bV
      have HB2 := hid hb2
      have HZ2 := hid hZ2
      have HR2 := hid hR2
      have HC := hid hc
      clear aV bV hb2 hZ2 hR2 hS2 hk2 HEN hc
      go_wp2_with fail
      rw [HC.out]
      have rD : Arr (W2.alloc (.cells #[.int .i64 (R : Int), .int .i64 (C : Int), .int .i64 (kd : Int)] 24)).drew b 24 [.int .i64 0, .int .i64 0, .int .i64 0] := Arr.drew (w := W2.alloc (.cells #[.int .i64 (R : Int), .int .i64 (C : Int), .int .i64 (kd : Int)] 24)) ((HBV.out.block b hbc).trans HZ2.out)
      have hSS := HAV.out.drew
      have hbD : Below b w (W2.alloc (.cells #[.int .i64 (R : Int), .int .i64 (C : Int), .int .i64 (kd : Int)] 24)).drew := (HB2.out.trans (HBV.out.mono (by omega))).drew
      have hrD : ReadIs (W2.alloc (.cells #[.int .i64 (R : Int), .int .i64 (C : Int), .int .i64 (kd : Int)] 24)).drew p S2 s' := HR2.out.frame (fun q hq => HBV.out.block q (by
        have := HC.out
        rcases hq with rfl | hq
        · omega
        · have := HR2.out.lt q hq; omega)) HBV.out.size
      clear HAV HBV HB2 HZ2 HR2
      refine wp_region_held (S := fun W' => Arr W' c 24 [.int .i64 (R : Int), .int .i64 (C : Int), .int .i64 (kd : Int)]) hmix ?_
      change wpAnyH _ _ _ _ _ _ _ _ (W2.alloc (.cells #[.int .i64 (R : Int), .int .i64 (C : Int), .int .i64 (kd : Int)] 24)).drew
      generalize (W2.alloc (.cells #[.int .i64 (R : Int), .int .i64 (C : Int), .int .i64 (kd : Int)] 24)).drew = Y at *
      refine wpAnyH_take (i := 0) (v := .pointer (some ⟨p, 0, none⟩)) rfl (by kernel_rfl) (by kernel_rfl) (by kernel_rfl) (fun _ _ _ h => h) (Or.inl ⟨by rfl, fun W' hS => ?_⟩) hSS ?_
      · clear hS
        go_simp
      simp only [Act.put]
      refine wpAnyH_take (i := 1) (v := .agg #[.int .i64 (R : Int), .int .i64 (C : Int), .int .i64 (kd : Int)]) rfl (by kernel_rfl) (by kernel_rfl) (by kernel_rfl) (fun _ _ _ h => h) (Or.inl ⟨by rfl, fun W' hS => ?_⟩) hSS ?_
      · have q0 := hS.cell (i := 0) rfl
        have q1 := hS.cell (i := 1) rfl
        have q2 := hS.cell (i := 2) rfl
        clear hS
        go_simp
      simp only [Act.put]
      refine wpAnyH_take (i := 2) (v := .int .i64 er) rfl (by kernel_rfl) (by kernel_rfl) (by kernel_rfl) (fun _ _ _ h => h) (Or.inl ⟨by rfl, fun W' hS => ?_⟩) hSS ?_
      · clear hS
        go_simp
      simp only [Act.put]
      refine wpAnyH_take (i := 3) (v := .bool (er == 0)) rfl (by kernel_rfl) (by kernel_rfl) (by kernel_rfl) (fun _ _ _ h => h) (Or.inl ⟨by rfl, fun W' hS => ?_⟩) hSS ?_
      · clear hS
        go_simp
      simp only [Act.put]
      refine wpAnyH_take (i := 4) (v := .pointer (some ⟨p, 0, none⟩)) rfl (by kernel_rfl) (by kernel_rfl) (by kernel_rfl) (fun _ _ _ h => h) (Or.inl ⟨by rfl, fun W' hS => ?_⟩) hSS ?_
      · clear hS
        go_simp
      simp only [Act.put, List.getElem_toArray, List.getElem_cons_succ, List.getElem_cons_zero, List.setIfInBounds_toArray, List.set_cons_succ, List.set_cons_zero]
      have x0 := rD.cell (i := 0) rfl
      have y0 := rD.frozen 0
      have x1 := (rD.set 0 (.int .i64 (R : Int))).cell (i := 1) rfl
      have y1 := (rD.set 0 (.int .i64 (R : Int))).frozen 1
      have x2 := ((rD.set 0 (.int .i64 (R : Int))).set 1 (.int .i64 (C : Int))).cell (i := 2) rfl
      have y2 := ((rD.set 0 (.int .i64 (R : Int))).set 1 (.int .i64 (C : Int))).frozen 2
      have r3 := ((rD.set 0 (.int .i64 (R : Int))).set 1 (.int .i64 (C : Int))).set 2 (.int .i64 (kd : Int))
      refine wpAnyH_ready (rs := [5]) (by kernel_rfl) (by simp) ?_
      refine AllReadyH.cons rfl (fun K hKK => ?_) AllReadyH.nil
      go_simp
      have aZ : Arr (((Y.setCell ⟨b, 0, none⟩ (.int .i64 (R : Int))).setCell ⟨b, 1, none⟩ (.int .i64 (C : Int))).setCell ⟨b, 2, none⟩ (.int .i64 (kd : Int))) c 24 [.int .i64 (R : Int), .int .i64 (C : Int), .int .i64 (kd : Int)] := ((hSS.other _ (by omega)).other _ (by omega)).other _ (by omega)
      refine hKK.out _ _ aZ (fun hHeld => ?_)
      clear hKK hHeld
      refine wpAnyH_take (i := 6) (v := .bool (er == 0)) rfl (by kernel_rfl) (by kernel_rfl) (by kernel_rfl) (fun _ _ _ h => h) (Or.inl ⟨by rfl, fun W' hS => ?_⟩) aZ ?_
      · clear hS
        go_simp
      simp only [Act.put, List.getElem_toArray, List.getElem_cons_succ, List.getElem_cons_zero, List.setIfInBounds_toArray, List.set_cons_succ, List.set_cons_zero]
      refine wpAnyH_done (by kernel_rfl) ?_ _
      have d0 := r3.cell (i := 0) rfl
      have d1 := r3.cell (i := 1) rfl
      have d2 := r3.cell (i := 2) rfl
      have hb3 : Below b w (((Y.setCell ⟨b, 0, none⟩ (.int .i64 (R : Int))).setCell ⟨b, 1, none⟩ (.int .i64 (C : Int))).setCell ⟨b, 2, none⟩ (.int .i64 (kd : Int))) :=
        ((hbD.setCell (p := ⟨b, 0, none⟩) (Nat.le_refl _) _).setCell (p := ⟨b, 1, none⟩) (Nat.le_refl _) _).setCell (p := ⟨b, 2, none⟩) (Nat.le_refl _) _
      have kb : ∀ (W : World) (i : Nat) (v : Value), ReadIs W p S2 s' → ReadIs (W.setCell ⟨b, i, none⟩ v) p S2 s' := fun W i v h => h.frame (fun q hq => Below.heap_setCell _ _ _ _ (fun e => by
        have e' : q = b := e
        have := HPB.out
        rcases hq with hq | hq
        · omega
        · have := HS2.out q hq; omega)) (by simp [World.setCell])
      have hr3 := kb _ 2 (.int .i64 (kd : Int)) (kb _ 1 (.int .i64 (C : Int)) (kb _ 0 (.int .i64 (R : Int)) hrD))
      have hfin : Hid (ReadR w x.data.toList (.returned (.tuple #[.pointer (some ⟨p, 0, none⟩), .agg #[.int .i64 (R : Int), .int .i64 (C : Int), .int .i64 (kd : Int)], .bool (er == 0)])) (((Y.setCell ⟨b, 0, none⟩ (.int .i64 (R : Int))).setCell ⟨b, 1, none⟩ (.int .i64 (C : Int))).setCell ⟨b, 2, none⟩ (.int .i64 (kd : Int)))) := by
        refine ⟨by rw [← HBW.out]; exact hb3, .inr ?_⟩
        rw [hall.out]
        simp only
        rw [HES.out]
        exact ⟨trivial, p, S2, rfl, by have := HPB.out; have := HBW.out; omega, fun q hq => by have := HS2.out q hq; have := HPB.out; have := HBW.out; omega, hr3⟩
      clear hSS aZ rD hbD hrD hb3 kb hr3 r3 x0 x1 x2 y0 y1 y2 HES hall HF HR HS HB HZ HS2
      generalize ((Y.setCell ⟨b, 0, none⟩ (.int .i64 (R : Int))).setCell ⟨b, 1, none⟩ (.int .i64 (C : Int))).setCell ⟨b, 2, none⟩ (.int .i64 (kd : Int)) = Z at *
      go_wp2
      refine bodyPost_ret (v := .tuple #[.pointer (some ⟨p, 0, none⟩), .agg #[.int .i64 (R : Int), .int .i64 (C : Int), .int .i64 (kd : Int)], .bool (er == 0)]) ?_ rfl hfin.out
      simp [results, Tryz.results4, go_sem, d0, d1, d2]

end Go.Proofs.YthdcceackfdbbabGreatDoor
