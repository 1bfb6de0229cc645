import Derived.Test.YthdcceackfdbbaaGreatDoorZdQR
import Derived.Test.YthdcceackfdbbaaGreatDoorM00R
import Derived.Test.YthdcceackfdbbaaGreatDoorM29R
import Derived.SliceStrings
import Derived.Carry
import Derived.SizedLaws
import Derived.Lib.SmallJoins
namespace Go.Proofs.YthdcceackfdbbaaGreatDoor
open Go Go.RowKit
def PcsAt (w : World) (ao : Option Addr) (ps : List ByteArray) : Prop := ∀ (k : Nat) (x : ByteArray), ps[k]? = some x → ∃ ad : Addr, ao = some ad ∧ ad.block < w.heap.size ∧ w.cell? (ad.add k) = some (.string x)
theorem PcsAt.below {w w' : World} {ao : Option Addr} {ps : List ByteArray} (h : PcsAt w ao ps) (b : Below w.heap.size w w') : PcsAt w' ao ps := fun k x hk => by
  obtain ⟨ad, h2, h3, h4⟩ := h k x hk
  exact ⟨ad, h2, Nat.lt_of_lt_of_le h3 b.size, (b.cell (p := ad.add k) (by rw [Go.ChangeShapes.block_add]; exact h3)).trans h4⟩
def totS (ps : List ByteArray) : Nat := (ps.map ByteArray.size).sum
theorem totS_take {ps : List ByteArray} {i : Nat} {x : ByteArray} (h : ps[i]? = some x) : totS (ps.take (i + 1)) = totS (ps.take i) + x.size := by
  rw [take_snoc_get h]
  simp [totS]
theorem totS_le {ps : List ByteArray} (i : Nat) : totS (ps.take i) ≤ totS ps := by
  have h : totS ps = totS (ps.take i) + totS (ps.drop i) := by
    conv => lhs; rw [← List.take_append_drop i ps]
    unfold totS
    rw [List.map_append, List.sum_append]
  omega
theorem CallL.next {b q m : Nat} {S : Nat → Prop} {w w' w0 : World} (h : CallL w q S m w') (hb : Below b w0 w) (hS : ∀ z, S z → b ≤ z) (hz : b ≤ w.heap.size) : Below b w0 w' ∧ ∃ S' : Nat → Prop, (∀ z, S' z → b ≤ z) ∧ LecIs w' q S' m := by
  obtain ⟨hk, S', h1, h2⟩ := h
  refine ⟨hb.trans (hk.below hS hz), S', fun z hz2 => ?_, h2⟩
  rcases h1 z hz2 with h | h
  · exact hS z h
  · omega
theorem LecIs.mono {w : World} {q m m' : Nat} {S : Nat → Prop} (h : LecIs w q S m) (hm : m ≤ m') : LecIs w q S m' := by
  obtain ⟨p, Sf, s, x, ended, er, R, C, ao, n, cap, kind, er2, h, hx⟩ := h
  exact ⟨p, Sf, s, x, ended, er, R, C, ao, n, cap, kind, er2, h, Nat.le_trans hx hm⟩
theorem LecIs.below {w w' : World} {q m : Nat} {S : Nat → Prop} (h : LecIs w q S m) (b : Below w.heap.size w w') : LecIs w' q S m :=
  h.frame (fun z hz => b.block z (h.lt z hz)) b.size
set_option maxRecDepth 20000 in
set_option maxHeartbeats 4000000 in
theorem reads_law (w : World) (po : Option Addr) (np pcap : Nat) (ps : List ByteArray) (hps : ps.length = np) (hstr : PcsAt w po ps) (htot : totS ps ≤ 2000000) (hnp : np ≤ 2000000)
    (ao : Option Addr) (n cap : Nat) (xs : List Nat) (hn : xs.length = n) (hn1 : n ≤ 10000000) (hao : ao = none → cap = 0) (hbuf : BufIs w ao xs) (R C off rs cs : Int) :
    Calls Tryz.prog 4 #[.slice po np pcap, .slice ao n cap, viewV R C off rs cs] w fun e w' => e = .returned (.bool true) ∧ Below w.heap.size w w' := by
  obtain ⟨b, hb⟩ : ∃ b, w.heap.size = b := ⟨_, rfl⟩
  rw [hb]
  have HSTR := hid hstr
  have HBUF := hid hbuf
  have HTOT := hid htot
  clear hstr hbuf htot
  unfold viewV
  obtain ⟨V, hV⟩ : ∃ V, w.alloc (.cells #[.int .i64 R, .int .i64 C, .int .i64 off, .int .i64 rs, .int .i64 cs] 24) = V := ⟨_, rfl⟩
  have mV : Arr V b 24 [.int .i64 R, .int .i64 C, .int .i64 off, .int .i64 rs, .int .i64 cs] := by rw [← hV, ← hb]; exact Arr.newL w _ _
  have bV : Below b w V := by rw [← hV, ← hb]; exact Below.refl' _ _
  have zV : V.heap.size = b + 1 := by rw [← hV]; simp [hb]
  have HNR := hid (newReader_any V)
  rw [zV] at HNR
  have HV := hid hV
  have HMV := hid mV
  have HBV := hid bV
  have HZV := hid zV
  clear hV mV bV zV
  go_enter Tryz.func4, Tryz.ntmps4
  go_wp2_with fail
  rw [HV.out]
  refine HNR.out.mono ?_
  rintro e W1 ⟨rfl, b1, r1⟩
  obtain ⟨q, hq⟩ : ∃ q, W1.heap.size = q := ⟨_, rfl⟩
  have mW1 := HMV.out.below b1 (by omega)
  have zq : b + 1 < q := by have := r1.ptr_lt; omega
  have bW1 : Below b w W1 := HBV.out.trans (b1.mono (by omega))
  obtain ⟨W2, hW2⟩ : ∃ W2, W1.alloc (.cells #[.pointer (some ⟨b + 1, 0, none⟩), .string ⟨#[]⟩, .bool false, .int .i64 0, .int .i64 0, .int .i64 0, .slice none 0 0, .int .i64 0, .int .i64 0] 41) = W2 := ⟨_, rfl⟩
  have b2 : Below q W1 W2 := by rw [← hW2, ← hq]; exact Below.refl' _ _
  have a2 : Arr W2 q 41 (lecC (b + 1) ⟨#[]⟩ false 0 0 0 (.slice none 0 0) 0 0) := by rw [← hW2, ← hq]; exact Arr.newL W1 _ _
  have l2 : LecIs W2 q (fun z => z = q ∨ z = b + 1) 0 := LecIs.new a2 (r1.below (hq ▸ b2)) (by omega)
  have m2 := mW1.below b2 (by omega)
  have bW2 : Below b w W2 := bW1.trans (b2.mono (by omega))
  have HINT := hid (linto_any W2 q 0 _ l2 R C off rs cs ao n cap xs hn hn1 hao (HBUF.out.below (by rw [hb]; exact bW2)))
  have c0 := m2.cell (i := 0) rfl
  have c1 := m2.cell (i := 1) rfl
  have c2 := m2.cell (i := 2) rfl
  have c3 := m2.cell (i := 3) rfl
  have c4 := m2.cell (i := 4) rfl
  have HL2 := hid l2
  have HM2 := hid m2
  have HBW2 := hid bW2
  have z2 : q < W2.heap.size := a2.lt
  have HZ2 := hid z2
  clear l2 m2 bW2 b2 a2 bW1 mW1 b1 r1 HNR HV z2
  unfold viewV at HINT
  go_wp2_with fail
  refine HINT.out.mono ?_
  rintro e W3 ⟨rfl, b3⟩
  have HL3 := hid (HL2.out.below b3)
  have HM3 := hid (HM2.out.belowAll b3)
  have HBW3 := hid (HBW2.out.trans (b3.mono (by have := HZ2.out; omega)))
  have HZ3 : Hid (b + 1 < W3.heap.size) := by show b + 1 < _; have := b3.size; have := HZ2.out; omega
  clear b3 c0 c1 c2 c3 c4 HINT hW2 HL2 HM2 HBW2 HZ2
  go_wp2_with fail
  go_loopw [10] (fun vi wr => ∃ (i : Nat) (S : Nat → Prop), vi = .int .i64 (i : Int) ∧ i ≤ np ∧ Hid (LecIs wr q S (totS (ps.take i))) ∧ Hid (∀ z, S z → b + 1 ≤ z) ∧ Hid (Below (b + 1) W3 wr)) (fun vi _ => np - (intOf vi).toNat)
  case atStart => exact ⟨0, _, rfl, by omega, HL3.out, fun z hz => by rcases hz with rfl | rfl <;> omega, Below.refl _ _⟩
  case round =>
    obtain ⟨i, S, rfl, hi, HL, HS, HB⟩ := hrel
    by_cases hlt : i < np
    · have hlt' : (i : Int) < np := by omega
      obtain ⟨y, hy⟩ : ∃ y, ps[i]? = some y := ⟨ps[i]'(by omega), by simp [hps, hlt]⟩
      have hbw : Below b w wr := HBW3.out.trans (HB.out.mono (by omega))
      obtain ⟨ad, had, hadb, hcell⟩ := (HSTR.out.below (by rw [hb]; exact hbw)) i y hy
      have htt := totS_take hy
      have hle := totS_le (ps := ps) (i + 1)
      have HFD := hid (lfeed_any wr q _ S y HL.out (by have := HTOT.out; omega))
      rw [← htt] at HFD
      subst had
      clear hbw htt hle hy hadb
      go_wp2_with fail
      refine HFD.out.mono ?_
      rintro e W4 ⟨rfl, hc⟩
      obtain ⟨hb4, S', hS4, hl4⟩ := hc.next HB.out HS.out (by have := HB.out.size; have := HZ3.out; omega)
      have HB4 := hid hb4
      have HS4 := hid hS4
      have HL4 := hid hl4
      clear hc hb4 hS4 hl4 HFD hcell
      go_wp2
      go_round
      case rel => exact ⟨i + 1, S', by simp, by omega, HL4.out, HS4.out, HB4.out⟩
      case measure => simp [intOf]; omega
    · have hlt' : ¬ (i : Int) < np := by omega
      have HL0 : Hid (LecIs wr q S 2000000) := HL.out.mono (Nat.le_trans (totS_le i) HTOT.out)
      have HZw : Hid (b + 1 ≤ wr.heap.size) := by show b + 1 ≤ _; have := HB.out.size; have := HZ3.out; omega
      clear HL HL3
      go_wp2_with fail
      go_loopw [12] (fun vi wx => ∃ (i : Nat) (S : Nat → Prop), vi = .int .i64 (i : Int) ∧ i ≤ 2 ∧ Hid (LecIs wx q S (2000000 + i)) ∧ Hid (∀ z, S z → b + 1 ≤ z) ∧ Hid (Below (b + 1) W3 wx)) (fun vi _ => 2 - (intOf vi).toNat)
      case atStart => exact ⟨0, S, rfl, by omega, HL0.out, HS.out, HB.out⟩
      case round =>
        clear HL0 HS HB HZw
        obtain ⟨k, S5, rfl, hk, HL, HS, HB⟩ := hrel
        by_cases hk2 : k < 2
        · have hk2' : (k : Int) < 2 := by omega
          have HZw : Hid (b + 1 ≤ wr.heap.size) := by show b + 1 ≤ _; have := HB.out.size; have := HZ3.out; omega
          have HED := hid (lend_any wr q _ S5 HL.out (by omega))
          go_wp2_with fail
          refine HED.out.mono ?_
          rintro e W4 ⟨rfl, hc⟩
          obtain ⟨hb4, S6, hS4, hl4⟩ := hc.next HB.out HS.out HZw.out
          have hbw : Below b w W4 := HBW3.out.trans (hb4.mono (by omega))
          have m4 := HM3.out.below hb4 (by omega)
          have HIN := hid (linto_any W4 q _ S6 hl4 R C off rs cs ao n cap xs hn hn1 hao (HBUF.out.below (by rw [hb]; exact hbw)))
          unfold viewV at HIN
          have c0 := m4.cell (i := 0) rfl
          have c1 := m4.cell (i := 1) rfl
          have c2 := m4.cell (i := 2) rfl
          have c3 := m4.cell (i := 3) rfl
          have c4 := m4.cell (i := 4) rfl
          have HB4 := hid hb4
          have HS4 := hid hS4
          have HL4 := hid hl4
          have HZ4 : Hid (b + 1 ≤ W4.heap.size) := by show b + 1 ≤ _; have := hb4.size; have := HZ3.out; omega
          clear hc hb4 hS4 hl4 hbw m4 HED
          go_wp2_with fail
          refine HIN.out.mono ?_
          rintro e W5 ⟨rfl, b5⟩
          have HL5 := hid (HL4.out.below b5)
          have HB5 := hid (HB4.out.trans (b5.mono HZ4.out))
          have HFX := hid (lfeed_any W5 q _ S6 ⟨#[120]⟩ HL5.out (by show 2000000 + k + 1 ≤ _; omega))
          have HZ5 : Hid (b + 1 ≤ W5.heap.size) := by show b + 1 ≤ _; have := b5.size; have := HZ4.out; omega
          clear b5 c0 c1 c2 c3 c4 HIN HL4 HB4
          go_wp2_with fail
          refine HFX.out.mono ?_
          rintro e W6 ⟨rfl, hc⟩
          obtain ⟨hb6, S7, hS6, hl6⟩ := hc.next HB5.out HS4.out HZ5.out
          have HB6 := hid hb6
          have HS6 := hid hS6
          have HL6 : Hid (LecIs W6 q S7 (2000000 + (k + 1))) := hl6
          clear hc hb6 hS6 hl6 HFX
          go_wp2
          go_round
          case rel => exact ⟨k + 1, S7, by simp, by omega, HL6.out, HS6.out, HB6.out⟩
          case measure => simp [intOf]; omega
        · have hk2' : ¬ (k : Int) < 2 := by omega
          go_wp2
          go_ret
          exact ⟨rfl, HBW3.out.trans (HB.out.mono (by omega))⟩
end Go.Proofs.YthdcceackfdbbaaGreatDoor
namespace Go.Proofs.YthdcceackfdbbaaGreatDoor
open Go Go.ChangeShapes Go.WideShapes Go.ChangeAt Go.RowKit
theorem bulk_one {H : Type} (d : DataW H) : 1 ≤ Rows.uptoBulk d := by
  cases d with
  | lit l => cases l <;> simp [Rows.uptoBulk]
  | nil => simp [Rows.uptoBulk]
  | ptr d => simp [Rows.uptoBulk]
  | slice elems spare => simp [Rows.uptoBulk]
  | agg parts => simp [Rows.uptoBulk]
  | iface t d => simp [Rows.uptoBulk]
  | map entries => simp [Rows.uptoBulk]
  | held h => simp [Rows.uptoBulk]
theorem bulk_len {H : Type} (l : List (DataW H)) : l.length ≤ Rows.uptoBulkAll l := by
  induction l with
  | nil => simp [Rows.uptoBulkAll]
  | cons x r ih => have := bulk_one x; simp only [Rows.uptoBulkAll, List.length_cons]; omega
theorem bulk_slice {H : Type} (el spr : List (DataW H)) : Rows.uptoBulkAll el + 1 ≤ Rows.uptoBulk (.slice el spr) := by
  simp only [Rows.uptoBulk]
  omega
theorem bulk_strs {H : Type} (l : List ByteArray) : Rows.uptoBulkAll (strs (H := H) l) = totS l + l.length := by
  induction l with
  | nil => rfl
  | cons x r ih =>
    have e : Rows.uptoBulkAll (strs (H := H) (x :: r)) = (x.data.toList.length + 1) + Rows.uptoBulkAll (strs (H := H) r) := by
      simp only [strs, List.map_cons, Rows.uptoBulkAll, Rows.uptoBulk]
    have hs := bytes_size (s := x) rfl
    rw [e, ih]
    simp only [totS, List.map_cons, List.sum_cons, List.length_cons]
    omega
theorem bulk_bound {H : Type} {l : List (DataW H)} (hk : Rows.uptoSmall H l = true) : Rows.uptoBulkAll l ≤ 1048576 := of_decide_eq_true hk
theorem cellsStrR : Tryz.prog.cellsOf 9 = 1 := by kernel_rfl
theorem cellsViewR : Tryz.prog.cellsOf 24 = 5 := by kernel_rfl
theorem cellsIntR : Tryz.prog.cellsOf 3 = 1 := by kernel_rfl
theorem array5R {α : Type} {cs : Array α} (h : cs.size = 5) : ∃ c0 c1 c2 c3 c4, cs = #[c0, c1, c2, c3, c4] := by
  obtain ⟨l⟩ := cs
  match l, h with
  | [c0, c1, c2, c3, c4], _ => exact ⟨c0, c1, c2, c3, c4, rfl⟩
section
variable {H : Type} {enc : TypeId × Value → H} {w : World} {base b0 : Nat} {sp : Nat → Bool} {held : Bool} {r : Reach}
set_option maxRecDepth 100000 in
theorem open_viewR {v : Value} {d : DataW H} {p : List MemPlace} (hv : Value.okWide Tryz.prog w r b0 24 v) (h : DataW.Trod enc Tryz.prog w base sp held 24 v d p) :
    ∃ R C off rs cs : Int, v = viewV R C off rs cs := by
  obtain ⟨cs, rfl, hsz⟩ := okWide_struct Tryz.underlying24 hv
  obtain ⟨c0, c1, c2, c3, c4, rfl⟩ := array5R (hsz.trans cellsViewR)
  obtain ⟨fuel, hf⟩ := h
  obtain ⟨xs, n, _, _, _, hlen, hfd⟩ := DataW.trod_struct Tryz.underlying24 hf
  have hl5 : xs.length = 5 := hlen
  have each : ∀ (i : Nat) (c : Value), (∃ y, DataW.trod enc Tryz.prog w base sp held n 3 [c] = some y) → ∃ z, c = .int .i64 z := by
    rintro i c ⟨y, hy⟩
    obtain ⟨z, h1, _⟩ := DataW.trod_int Tryz.underlying3 hy
    exact ⟨z, by simpa using h1⟩
  have g : ∀ i, i < 5 → ∃ y, xs[i]? = some y := fun i hi => ⟨xs[i]'(by omega), by simp [hl5, hi]⟩
  obtain ⟨y0, e0⟩ := g 0 (by omega)
  obtain ⟨y1, e1⟩ := g 1 (by omega)
  obtain ⟨y2, e2⟩ := g 2 (by omega)
  obtain ⟨y3, e3⟩ := g 3 (by omega)
  obtain ⟨y4, e4⟩ := g 4 (by omega)
  have k0 := (hfd 0 _ rfl).trans e0
  have k1 := (hfd 1 _ rfl).trans e1
  have k2 := (hfd 2 _ rfl).trans e2
  have k3 := (hfd 3 _ rfl).trans e3
  have k4 := (hfd 4 _ rfl).trans e4
  obtain ⟨R, rfl⟩ := each 0 c0 ⟨y0, by simpa [Value.cells, cellsIntR] using k0⟩
  obtain ⟨C, rfl⟩ := each 1 c1 ⟨y1, by simpa [Value.cells, cellsIntR] using k1⟩
  obtain ⟨off, rfl⟩ := each 2 c2 ⟨y2, by simpa [Value.cells, cellsIntR] using k2⟩
  obtain ⟨rs, rfl⟩ := each 3 c3 ⟨y3, by simpa [Value.cells, cellsIntR] using k3⟩
  obtain ⟨cs, rfl⟩ := each 4 c4 ⟨y4, by simpa [Value.cells, cellsIntR] using k4⟩
  exact ⟨R, C, off, rs, cs, rfl⟩
set_option maxRecDepth 100000 in
theorem open_u64n {v : Value} {d : DataW H} {p : List MemPlace} (hv : Value.okWide Tryz.prog w r b0 22 v) (h : DataW.Trod enc Tryz.prog w base sp held 22 v d p) :
    ∃ (ao : Option Addr) (n cap : Nat) (xs : List Nat), v = .slice ao n cap ∧ xs.length = n ∧ BufIs w ao xs ∧ (ao = none → cap = 0) ∧ n + 1 ≤ Rows.uptoBulk d := by
  obtain ⟨ao, n, cap, xs, rfl, hn, hbuf, hd⟩ := open_u64s hv h
  refine ⟨ao, n, cap, xs, rfl, hn, hbuf, ?_, ?_⟩
  · obtain ⟨fuel, hf⟩ := h
    rcases open_ints Tryz.underlying22 Tryz.underlying65 cellsU64 hf with ⟨hcs, _⟩ | ⟨a, len, cap', zs, hcs, _⟩
    · have hcs' : Value.slice ao n cap = .slice none 0 0 := by simpa [Value.cells] using hcs
      cases hcs'
      exact fun _ => rfl
    · have hcs' : Value.slice ao n cap = .slice (some a) len cap' := by simpa [Value.cells] using hcs
      cases hcs'
      exact fun h => by cases h
  · rcases hd with ⟨rfl, rfl⟩ | ⟨el, spr, rfl, rfl⟩
    · simp [Rows.uptoBulk]
    · have h1 := bulk_slice el spr
      have h2 := bulk_len el
      omega
set_option maxRecDepth 100000 in
theorem open_pcs {v : Value} {d : DataW H} {p : List MemPlace} (hv : Value.okWide Tryz.prog w r b0 31 v) (h : DataW.Trod enc Tryz.prog w base sp held 31 v d p) :
    ∃ (ao : Option Addr) (n cap : Nat) (ps : List ByteArray), v = .slice ao n cap ∧ ps.length = n ∧ PcsAt w ao ps ∧ totS ps + n + 1 ≤ Rows.uptoBulk d := by
  obtain ⟨ao, n, cap, rfl⟩ := okWide_slice Tryz.underlying31 hv
  obtain ⟨fuel, hf⟩ := h
  rcases open_strings Tryz.underlying31 Tryz.underlying9 cellsStrR hf with ⟨hcs, hx⟩ | ⟨a, len, cap', ss, hcs, _, hl, hm, hz, hx, hcell, _⟩
  · have hcs' : Value.slice ao n cap = .slice none 0 0 := by simpa [Value.cells] using hcs
    cases hcs'
    have hd : d = .nil := by simpa using congrArg Prod.fst hx
    subst hd
    exact ⟨none, 0, 0, [], rfl, rfl, fun k x hk => by simp at hk, by simp [totS, Rows.uptoBulk]⟩
  · have hcs' : Value.slice ao n cap = .slice (some a) len cap' := by simpa [Value.cells] using hcs
    cases hcs'
    have hzl : n ≤ ss.length := by rw [hz]; split <;> omega
    have hd : d = .slice (strs (ss.take n)) (strs (ss.drop n)) := by simpa using congrArg Prod.fst hx
    subst hd
    have hlen : (ss.take n).length = n := by simp; omega
    refine ⟨some a, n, cap, ss.take n, rfl, hlen, fun k x hk => ?_, ?_⟩
    · rw [List.getElem?_take] at hk
      by_cases hkn : k < n
      · rw [if_pos hkn] at hk
        have hkz : k < ss.length := by omega
        have hc := hcell k hkz
        rw [List.getD_eq_getElem?_getD, hk] at hc
        refine ⟨a, rfl, ?_, hc⟩
        have := lt_of_cell hc; rw [block_add] at this; exact this
      · rw [if_neg hkn] at hk; cases hk
    · have h1 := bulk_slice (H := H) (strs (ss.take n)) (strs (ss.drop n))
      rw [bulk_strs, hlen] at h1
      omega
end
end Go.Proofs.YthdcceackfdbbaaGreatDoor
