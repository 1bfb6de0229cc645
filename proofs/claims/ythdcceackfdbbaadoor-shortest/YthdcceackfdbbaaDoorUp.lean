/- Walk: upped. Own text. -/
import Derived.Test.YthdcceackfdbbaaDoorMw
import Derived.Lib.ConvBytes
import Derived.Lib.SmallJoins
namespace Go.Proofs.YthdcceackfdbbaaDoor
open Go.RowKit

/-- The bytes l lie in block g. -/
structure Row8 (w : World) (g : Nat) (l : List UInt8) : Prop where
  cell : ∀ (j : Nat) (x : UInt8), l[j]? = some x → w.cell? ⟨g, j, none⟩ = some (.int .u8 (x.toNat : Int))
  fr : ∀ j, j < l.length → w.frozen? ⟨g, j, none⟩ = false

theorem Row8.set {w : World} {g k : Nat} {l : List UInt8} {y : UInt8} (h : Row8 w g l) (hk : k < l.length) : Row8 (w.setCell ⟨g, k, none⟩ (.int .u8 (y.toNat : Int))) g (l.set k y) := by
  refine ⟨?_, ?_⟩
  · intro j x hj
    by_cases hjk : k = j
    · subst hjk
      rw [List.getElem?_set_self hk] at hj
      cases hj
      exact World.cell?_setCell_same _ _ _ (h.cell k l[k] (by simp [hk]))
    · rw [List.getElem?_set_ne hjk] at hj
      rw [World.cell?_setCell_other _ _ _ _ (by intro he; injection he with _ he; exact hjk he)]
      exact h.cell j x hj
  · intro j hj
    rw [List.length_set] at hj
    simpa using h.fr j hj

theorem row_bytes (w : World) (s : ByteArray) : Row8 (Lib.bytesWorld w 5 s) w.heap.size s.data.toList := by
  have hl : s.data.toList.length = s.size := by simp
  refine ⟨?_, ?_⟩
  · intro j x hj
    have hlt := (List.getElem?_eq_some_iff.1 hj).1
    rw [Lib.bytesWorld_cell w _ s j (by omega)]
    simp [List.getD, hj]
  · intro j hj
    unfold World.frozen?
    simp [Lib.bytesWorld_at_new]
    intro h
    have : s.size ≤ (Lib.bytesCells w 5 s).size := by unfold Lib.bytesCells; simp
    omega

theorem row_string {w : World} {g cap : Nat} {l : List UInt8} (h : Row8 w g l) {n : Nat} (hn : n = l.length) :
    (convert 48 9 (.slice (some ⟨g, 0, none⟩) n cap)).run Tryd.prog w = .ok (.string ⟨l.toArray⟩) w := by
  subst hn
  refine run_convert_bytes_back w 48 9 5 ⟨g, 0, none⟩ cap l Tryd.underlying48 Tryd.underlying5 Tryd.underlying9 ?_
  intro j hj
  rw [Lib.add_plain, Nat.zero_add]
  exact h.cell j l[j] (by simp [hj])

theorem dval_nines (n : Nat) : dval (List.replicate n 57) + 1 = 10 ^ n := by
  induction n with
  | zero => rfl
  | succ n ih => rw [List.replicate_succ', dval_snoc, Nat.pow_succ, ← ih]; simp; omega

theorem up_val {p : List UInt8} {c y : UInt8} {i : Nat} (hc : 48 ≤ c.toNat) (hy : y.toNat = c.toNat + 1) : dval (p ++ y :: List.replicate i 48) = dval (p ++ c :: List.replicate i 57) + 1 := by
  have e1 := dval_append (p ++ [y]) (List.replicate i 48)
  have e2 := dval_append (p ++ [c]) (List.replicate i 57)
  have h9 := dval_nines i
  rw [dval_zeros, dval_snoc, List.length_replicate, List.append_assoc, List.singleton_append] at e1
  rw [dval_snoc, List.length_replicate, List.append_assoc, List.singleton_append] at e2
  rw [e1, e2, hy, show c.toNat + 1 - 48 = c.toNat - 48 + 1 by omega, ← Nat.add_assoc, Nat.add_mul (dval p * 10 + (c.toNat - 48)) 1]
  omega

theorem up_one (n : Nat) : dval (49 :: List.replicate n 48) = dval (List.replicate n 57) + 1 := by
  have e := dval_append [49] (List.replicate n 48)
  rw [dval_zeros, List.length_replicate, List.singleton_append] at e
  rw [e, dval_nines]
  simp [dval]

theorem nines_of {l : List UInt8} (h : ∀ x ∈ l, x = 57) : l = List.replicate l.length 57 := List.eq_replicate_of_mem h

/-- Where upped stands: behind k all is 0, where there were nines. -/
def upL (L : List UInt8) (k : Nat) : List UInt8 := L.take k ++ List.replicate (L.length - k) 48

theorem upL_len {L : List UInt8} {k : Nat} (h : k ≤ L.length) : (upL L k).length = L.length := by unfold upL; simp; omega
theorem upL_full (L : List UInt8) : upL L L.length = L := by unfold upL; simp
theorem upL_at {L : List UInt8} {k : Nat} {c : UInt8} (h : L[k]? = some c) : (upL L (k + 1))[k]? = some c := by
  have hk := (List.getElem?_eq_some_iff.1 h).1
  unfold upL
  rw [List.getElem?_append_left (by rw [List.length_take]; omega), List.getElem?_take, if_pos (by omega), h]
theorem upL_step {L : List UInt8} {k : Nat} (y : UInt8) (hk : k < L.length) : (upL L (k + 1)).set k y = L.take k ++ y :: List.replicate (L.length - (k + 1)) 48 := by
  unfold upL
  have e : L[k]? = some L[k] := by simp [hk]
  rw [take_snoc_get e, List.append_assoc, List.set_append_right _ _ (by rw [List.length_take]; omega)]
  rw [show k - (L.take k).length = 0 by rw [List.length_take]; omega]
  rfl
theorem upL_next {L : List UInt8} {k : Nat} (hk : k < L.length) : (upL L (k + 1)).set k 48 = upL L k := by
  rw [upL_step 48 hk]
  unfold upL
  congr 1
  rw [show L.length - k = (L.length - (k + 1)) + 1 by omega, List.replicate_succ]

theorem digs_zeros (n : Nat) : Digs (List.replicate n 48) := by
  intro x hx; rw [List.eq_of_mem_replicate hx]; rfl

set_option maxRecDepth 5000 in
set_option maxHeartbeats 1600000 in
theorem upped_any (w : World) (s : ByteArray) (hs : s.size ≤ 20) (hd : Digs s.data.toList) :
    Calls Tryd.prog 16 #[.string s] w fun e w' => ∃ (t : ByteArray) (m : Nat), e = .returned (.tuple #[.string t, .int .i64 (m : Int)]) ∧ Digs t.data.toList ∧ dval t.data.toList = dval s.data.toList + 1 ∧ t.size = s.size + m ∧ m ≤ 1 ∧ Below w.heap.size w w' := by
  have hconv := Lib.run_convert_string_bytes (P := Tryd.prog) w 9 48 5 s Tryd.underlying9 Tryd.underlying48 Tryd.underlying5
  have hrow := row_bytes w s
  have hbel : Below w.heap.size w (Lib.bytesWorld w 5 s) := Go.Joins.below_bytesWorld _ w 5 s (Nat.le_refl _)
  have hl : s.data.toList.length = s.size := by simp
  generalize grownCap w s.size 0 5 = cap at *
  have hbsz := Lib.bytesWorld_size w 5 s
  generalize Lib.bytesWorld w 5 s = wb at *
  have HL := Hid.mk' hl
  have HR := Hid.mk' hrow
  have HB := Hid.mk' hbel
  have HD := Hid.mk' hd
  clear hl hrow hbel hd hbsz
  generalize hLL : s.data.toList = L at *
  go_enter Tryd.func16, Tryd.ntmps16
  go_wp2_with fail
  go_loopw [5] (fun i wr => ∃ k : Nat, k ≤ s.size ∧ i = .int .i64 ((k : Int) - 1) ∧ Row8 wr w.heap.size (upL L k) ∧ (∀ x ∈ L.drop k, x = 57) ∧ Below w.heap.size w wr) (fun i _ => (intOf i + 1).toNat)
  case atStart => exact ⟨s.size, Nat.le_refl _, rfl, by rw [← HL.out, upL_full]; exact HR.out, by rw [← HL.out]; simp, HB.out⟩
  case round =>
    obtain ⟨k, hk, rfl, hr, h9, hbel⟩ := hrel
    have HRR := Hid.mk' hr
    have H9 := Hid.mk' h9
    have HBB := Hid.mk' hbel
    clear hr h9 hbel
    cases k with
    | zero =>
      have hcv := row_string (cap := cap) HRR.out (n := s.size) (by rw [upL_len (by omega)]; exact HL.out.symm)
      obtain ⟨z, hz⟩ : ∃ z : ByteArray, (⟨(upL L 0).toArray⟩ : ByteArray) = z := ⟨_, rfl⟩
      have hzl : z.data.toList = List.replicate L.length 48 := by rw [← hz]; simp [upL]
      have hzs : z.size = s.size := by rw [bytes_size hzl, List.length_replicate]; exact HL.out
      have HZ := Hid.mk' hzl
      have HZS := Hid.mk' hzs
      have hzs2 : z.size ≤ 20 := by omega
      rw [hz] at hcv
      clear hz hzl hzs
      have hn9 : L = List.replicate L.length 57 := nines_of (by simpa using H9.out)
      have HN9 := Hid.mk' hn9
      clear hn9
      go_wp2_with fail
      go_wp2
      go_ret2
      refine ⟨_, 1, rfl, ?_, ?_, ?_, by omega, HBB.out⟩
      · rw [bytes_append_list, HZ.out]
        exact digs_append (by intro x hx; simp at hx; subst hx; rfl) (digs_zeros _)
      · rw [bytes_append_list, HZ.out]
        have e := up_one L.length
        rw [← HN9.out] at e
        exact e
      · rw [ByteArray.size_append, HZS.out]
        have : (⟨#[49]⟩ : ByteArray).size = 1 := rfl
        omega
    | succ k =>
      have hkl : k < L.length := by have := HL.out; omega
      have hg : L[k]? = some L[k] := by simp [hkl]
      obtain ⟨c, hc⟩ : ∃ c, L[k] = c := ⟨_, rfl⟩
      rw [hc] at hg
      have hcd := isDig_bd (HD.out c (List.mem_of_getElem? hg))
      have hcell := HRR.out.cell k c (upL_at hg)
      have hfr := HRR.out.fr k (by rw [upL_len (by omega)]; exact hkl)
      rw [show (((k + 1 : Nat) : Int) - 1) = (k : Int) by omega]
      have HG := Hid.mk' hg
      clear hg hc
      obtain ⟨hc1, hc2⟩ := hcd
      by_cases hc9 : c.toNat < 57
      · obtain ⟨y, hy⟩ : ∃ y : UInt8, y.toNat = c.toNat + 1 := ⟨UInt8.ofNat (c.toNat + 1), by rw [UInt8.toNat_ofNat_of_lt' (by show c.toNat + 1 < 256; omega)]⟩
        have hrow := HRR.out.set (y := y) (k := k) (by rw [upL_len (by omega)]; exact hkl)
        rw [upL_step y hkl, hy, show (((c.toNat + 1 : Nat)) : Int) = (c.toNat : Int) + 1 by omega] at hrow
        have hcv := row_string (cap := cap) hrow (n := s.size) (by have := HL.out; simp; omega)
        have HY := Hid.mk' hy
        clear hy hrow
        have hdig : isDig y = true := by unfold isDig; rw [HY.out]; simp; omega
        have hrest : L.drop (k + 1) = List.replicate (L.length - (k + 1)) 57 := by
          have := nines_of H9.out
          rw [List.length_drop] at this
          exact this
        have hL : L = L.take k ++ c :: List.replicate (L.length - (k + 1)) 57 := by
          rw [← hrest]
          have := List.take_append_drop (k + 1) L
          rw [take_snoc_get HG.out, List.append_assoc] at this
          exact this.symm
        have HLQ := Hid.mk' hL
        clear hrest hL
        go_wp2
        go_ret2
        refine ⟨_, 0, rfl, ?_, ?_, ?_, by omega, HBB.out.setCell (p := ⟨w.heap.size, k, none⟩) (Nat.le_refl _) _⟩
        · show Digs (L.take k ++ y :: List.replicate (L.length - (k + 1)) 48)
          refine digs_append (fun x hx => HD.out x (List.mem_of_mem_take hx)) ?_
          intro x hx
          rcases List.mem_cons.1 hx with hx | hx
          · rw [hx]; exact hdig
          · exact digs_zeros _ x hx
        · show dval (L.take k ++ y :: List.replicate (L.length - (k + 1)) 48) = dval L + 1
          have e := up_val (p := L.take k) (i := L.length - (k + 1)) hc1 HY.out
          rw [← HLQ.out] at e
          exact e
        · have hsz : (⟨(L.take k ++ y :: List.replicate (L.length - (k + 1)) 48).toArray⟩ : ByteArray).size = (L.take k ++ y :: List.replicate (L.length - (k + 1)) 48).length := by
            rw [bytes_size (l := L.take k ++ y :: List.replicate (L.length - (k + 1)) 48) rfl]
          rw [hsz]
          have := HL.out
          simp
          omega
      · have hc57 : c = 57 := UInt8.toNat_inj.1 (by rw [show (57 : UInt8).toNat = 57 from rfl]; omega)
        have HC := Hid.mk' hc57
        clear hc57
        go_wp2
        go_roundw
        case rel =>
          refine ⟨k, by omega, by go_num, ?_, ?_, HBB.out.setCell (p := ⟨w.heap.size, k, none⟩) (Nat.le_refl _) _⟩
          · have := HRR.out.set (y := 48) (k := k) (by rw [upL_len (by omega)]; exact hkl)
            rw [upL_next hkl] at this
            exact this
          · intro x hx
            rw [List.drop_eq_getElem_cons hkl] at hx
            rcases List.mem_cons.1 hx with hx | hx
            · rw [hx]
              have := (List.getElem?_eq_some_iff.1 HG.out).2
              rw [this]; exact HC.out
            · exact H9.out x hx
        case measure => simp [intOf]

end Go.Proofs.YthdcceackfdbbaaDoor
