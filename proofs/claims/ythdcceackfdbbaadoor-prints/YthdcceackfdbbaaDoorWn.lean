/- Walks: Scan. Own text. -/
import Derived.Test.YthdcceackfdbbaaDoorWm
import Derived.Test.YthdcceackfdbbaaDoorRle
namespace Go.Proofs.YthdcceackfdbbaaDoor
open Go.RowKit

theorem fracL_digs (l : List UInt8) : Digs (fracL l).1 := by
  cases l with
  | nil => intro x hx; simp [fracL] at hx
  | cons c r =>
    simp only [fracL]
    split
    · exact digs_takeWhile r
    · intro x hx; simp at hx

theorem fracL_len (l : List UInt8) : (fracL l).1.length ≤ l.length := by
  cases l with
  | nil => simp [fracL]
  | cons c r =>
    simp only [fracL]
    split
    · have := takeWhile_len r; simp; omega
    · simp

theorem span_len (l : List UInt8) : (l.takeWhile isDig).length + (l.dropWhile isDig).length = l.length := by
  rw [← List.length_append, List.takeWhile_append_dropWhile]

theorem decL_facts {l ds : List UInt8} {q : Int} (h : decL l = some (ds, q)) : Digs ds ∧ ds.length ≤ l.length ∧ (∀ c r, ds = c :: r → c.toNat ≠ 48) ∧ -10000 - (l.length : Int) ≤ q ∧ q ≤ 10000 := by
  unfold decL at h
  split at h
  · cases h
  · cases hp : powL (fracL (l.dropWhile isDig)).2 with
    | none => rw [hp] at h; cases h
    | some p =>
      rw [hp] at h
      simp only [Option.map_some, Option.some.injEq, Prod.mk.injEq] at h
      obtain ⟨h1, h2⟩ := h
      have b := powL_bd hp
      have l1 := fracL_len (l.dropWhile isDig)
      have l2 := span_len l
      refine ⟨?_, ?_, ?_, by omega, by omega⟩
      · rw [← h1]; exact digs_drop (digs_append (digs_takeWhile l) (fracL_digs _)) _
      · rw [← h1]
        have := (List.dropWhile_sublist (· == (48 : UInt8)) (l := l.takeWhile isDig ++ (fracL (l.dropWhile isDig)).1)).length_le
        rw [List.length_append] at this
        omega
      · rw [← h1]; exact drop_zero _

theorem list_eq_beq {s : ByteArray} {l : List UInt8} (h : s.data.toList = l) : (s.toList == l) = true := by rw [bytes_toList, h]; simp
theorem list_ne_beq {s : ByteArray} {l : List UInt8} (h : s.data.toList ≠ l) : (s.toList == l) = false := by rw [bytes_toList]; simpa using h

theorem or_sign {n : Nat} (h : n ≤ 9218868437227405312) : bits BinOp.or IntKind.u64 (n : Int) 9223372036854775808 = ((n + 9223372036854775808 : Nat) : Int) := by
  rw [show (9223372036854775808 : Int) = ((9223372036854775808 : Nat) : Int) from rfl, u64_or_nat _ _ (by omega) (by omega), Nat.or_comm, nat_join 63 _ _ (by decide) (by omega), Nat.add_comm]

theorem ret2 {a a' b b' : Int} (h1 : a = a') (h2 : b = b') : Ending.returned (.tuple #[.int .u64 a, .int .i64 b]) = .returned (.tuple #[.int .u64 a', .int .i64 b']) := by rw [h1, h2]

set_option maxRecDepth 5000 in
set_option maxHeartbeats 1600000 in
theorem nscan_any (w : World) (s : ByteArray) (hs : s.size ≤ maxLen) :
    Calls Tryd.prog 22 #[.string s] w fun e w' => e = .returned (.tuple #[.int .u64 ((scanL s.data.toList).1 : Int), .int .i64 ((scanL s.data.toList).2 : Int)]) ∧ Below w.heap.size w w' := by
  unfold maxLen at hs
  have hsz : s.data.toList.length = s.size := by simp
  have HSZ : Hid (s.data.toList.length = s.size) := hsz
  clear hsz
  by_cases c0 : 60 < s.size
  · have HF : Hid (scanL s.data.toList = (0, 1)) := by unfold Hid scanL; rw [if_pos (by rw [HSZ.out]; exact c0)]
    go_enter Tryd.func22, Tryd.ntmps22
    go_wp2
    go_ret2
    exact ⟨by rw [HF.out]; rfl, Below.refl _ _⟩
  · by_cases c1 : s.data.toList = [105, 110, 102]
    · have HF : Hid (scanL s.data.toList = (9218868437227405312, 0)) := by unfold Hid scanL; rw [if_neg (by rw [HSZ.out]; exact c0), if_pos (.inl c1)]
      have b1 := list_eq_beq c1
      clear c1
      go_enter Tryd.func22, Tryd.ntmps22
      go_wp2
      go_ret2
      exact ⟨by rw [HF.out]; rfl, Below.refl _ _⟩
    · have b1 := list_ne_beq c1
      by_cases c2 : s.data.toList = [43, 105, 110, 102]
      · have HF : Hid (scanL s.data.toList = (9218868437227405312, 0)) := by unfold Hid scanL; rw [if_neg (by rw [HSZ.out]; exact c0), if_pos (.inr c2)]
        have b2 := list_eq_beq c2
        clear c1 c2
        go_enter Tryd.func22, Tryd.ntmps22
        go_wp2
        go_ret2
        exact ⟨by rw [HF.out]; rfl, Below.refl _ _⟩
      · have b2 := list_ne_beq c2
        by_cases c3 : s.data.toList = [45, 105, 110, 102]
        · have HF : Hid (scanL s.data.toList = (18442240474082181120, 0)) := by unfold Hid scanL; rw [if_neg (by rw [HSZ.out]; exact c0), if_neg (by rintro (h | h); exact c1 h; exact c2 h), if_pos c3]
          have b3 := list_eq_beq c3
          clear c1 c2 c3
          go_enter Tryd.func22, Tryd.ntmps22
          go_wp2
          go_ret2
          exact ⟨by rw [HF.out]; rfl, Below.refl _ _⟩
        · have b3 := list_ne_beq c3
          by_cases c4 : s.data.toList = [110, 97, 110]
          · have HF : Hid (scanL s.data.toList = (9221120237041090560, 0)) := by unfold Hid scanL; rw [if_neg (by rw [HSZ.out]; exact c0), if_neg (by rintro (h | h); exact c1 h; exact c2 h), if_neg c3, if_pos c4]
            have b4 := list_eq_beq c4
            clear c1 c2 c3 c4
            go_enter Tryd.func22, Tryd.ntmps22
            go_wp2
            go_ret2
            exact ⟨by rw [HF.out]; rfl, Below.refl _ _⟩
          · have b4 := list_ne_beq c4
            obtain ⟨m, sr, hsg⟩ : ∃ m sr, signL s.data.toList = (m, sr) := ⟨_, _, rfl⟩
            have HF : Hid (scanL s.data.toList = finL (decL sr) m) := by
              unfold Hid scanL
              rw [if_neg (by rw [HSZ.out]; exact c0), if_neg (by rintro (h | h); exact c1 h; exact c2 h), if_neg c3, if_neg c4, hsg]
            have hsl := signL_len s.data.toList
            rw [HSZ.out, hsg] at hsl
            have HSG : Hid (signL s.data.toList = (m, sr)) := hsg
            simp only at hsl
            clear c1 c2 c3 c4 hsg
            go_enter Tryd.func22, Tryd.ntmps22
            go_wp2_with fail
            refine (cutSign_any _ s (by omega)).mono ?_
            rintro e w1 ⟨r, rfl, hr, n1, rfl⟩
            rw [HSG.out] at hr ⊢
            have HR : Hid (r.data.toList = sr) := hr
            clear hr
            have hrs : r.size ≤ 60 := by rw [bytes_size HR.out]; omega
            go_wp2_with fail
            refine (scanDecimal_any _ r (by omega)).mono ?_
            rintro e w2 ⟨d, p, ok, rfl, hdk, b2'⟩
            rw [HR.out] at hdk
            simp only [World.heap_drewN] at b2'
            have bb2 : Below w.heap.size w w2 := (below_drewN (Below.refl _ _) n1).trans b2'
            have hsz2 := bb2.size
            cases hdl : decL sr with
            | none =>
              rw [hdl] at hdk
              have hok : ok = false := hdk
              subst hok
              have HF2 : Hid (scanL s.data.toList = (0, 1)) := by unfold Hid; rw [HF.out, hdl]; rfl
              clear HF hdl hdk
              go_wp2
              go_ret2
              exact ⟨by rw [HF2.out]; rfl, bb2.alloc hsz2 _⟩
            | some dq =>
              obtain ⟨ds, q⟩ := dq
              rw [hdl] at hdk
              obtain ⟨hok, hds, hpq⟩ : ok = true ∧ d.data.toList = ds ∧ p = q := hdk
              subst hok
              subst hpq
              obtain ⟨f1, f2, f3, f4, f5⟩ := decL_facts hdl
              have hdg : Digs d.data.toList := by rw [hds]; exact f1
              have hz : ∀ c r, d.data.toList = c :: r → c.toNat ≠ 48 := by rw [hds]; exact f3
              have hdsz : d.size ≤ 60 := by rw [bytes_size hds]; omega
              have HF2 : Hid (scanL s.data.toList = (decRnd (dval d.data.toList) p + (if m then 9223372036854775808 else 0), 0)) := by unfold Hid; rw [HF.out, hdl, hds]; rfl
              have HZ : Hid (∀ c r, d.data.toList = c :: r → c.toNat ≠ 48) := hz
              have hle := decRnd_le (dval d.data.toList) p
              clear HF hdl f1 f2 f3 hds hz
              go_wp2_with fail
              refine (round_any _ d p hdg hdsz HZ.out (by omega) (by omega)).mono ?_
              rintro e w3 ⟨rfl, b3⟩
              have bb3 : Below w.heap.size w w3 := (bb2.alloc hsz2 _).trans (b3.mono (by simp; omega))
              generalize decRnd (dval d.data.toList) p = N at *
              cases m with
              | true =>
                go_wp2
                go_ret2
                refine ⟨?_, bb3⟩
                rw [HF2.out]
                exact ret2 (or_sign hle) rfl
              | false =>
                go_wp2
                go_ret2
                refine ⟨?_, bb3⟩
                rw [HF2.out]
                exact ret2 (by simp) rfl

set_option maxHeartbeats 400000 in
theorem scan_any (w : World) (s : ByteArray) (hs : s.size ≤ maxLen) :
    Calls Tryd.prog 11 #[.string s] w fun e w' => e = .returned (.tuple #[.int .u64 ((scanL s.data.toList).1 : Int), .int .i64 ((scanL s.data.toList).2 : Int)]) ∧ Below w.heap.size w w' := by
  go_enter Tryd.func11, Tryd.ntmps11
  go_wp2_with fail
  refine (nscan_any _ s hs).mono ?_
  rintro e w1 ⟨rfl, b1⟩
  go_wp2
  go_ret2
  exact ⟨rfl, b1⟩

end Go.Proofs.YthdcceackfdbbaaDoor
