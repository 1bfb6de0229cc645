import Derived.Test.YthdcceackfdbbaaGreatDoorXgQ
import Derived.Test.YthdcceackfdbbaaGreatDoorM18W
import Derived.Test.YthdcceackfdbbaaGreatDoorShelf2
import Derived.Laws.CopyOwn
import Derived.Deep.QuietTactic
/- Own text: the reference: File. -/
namespace Go.Proofs.YthdcceackfdbbaaGreatDoor
open Go Go.RowKit

theorem BufIs.below {w w' : World} {ao : Option Addr} {xs : List Nat} (h : BufIs w ao xs) (b : Below w.heap.size w w') : BufIs w' ao xs := fun k x hk => by
  obtain ⟨h1, ad, h2, h3, h4⟩ := h k x hk
  exact ⟨h1, ad, h2, Nat.lt_of_lt_of_le h3 b.size, (b.cell (p := ad.add k) (by rw [Go.ChangeShapes.block_add]; exact h3)).trans h4⟩
theorem BufIs.lt {w : World} {ao : Option Addr} {xs : List Nat} (h : BufIs w ao xs) : ∀ x ∈ xs, x < 18446744073709551616 := fun x hx => by
  obtain ⟨k, hk, he⟩ := List.getElem_of_mem hx
  exact (h k x (by rw [← he]; simp [hk])).1

set_option maxRecDepth 20000 in
set_option maxHeartbeats 4000000 in
theorem file_any (w : World) (R C off rs cs kind : Int) (ao : Option Addr) (n cap : Nat) (xs : List Nat) (hn : xs.length = n) (hn1 : n < 9223372036854775808) (hbuf : BufIs w ao xs) (hpr : ∀ x, x < 18446744073709551616 → PrintOk x (prL x) ∧ (prL x).length ≤ 100) :
    Calls Tryz.prog 27 #[.slice ao n cap, viewV R C off rs cs, .int .i64 kind] w fun e w' => FileR (fileL xs R C off rs cs kind) e ∧ Below w.heap.size w w' := by
  obtain ⟨b, hb⟩ : ∃ b, w.heap.size = b := ⟨_, rfl⟩
  have HB := hid hbuf
  have HX := hid hbuf.lt
  have HPR := hid hpr
  clear hbuf hpr
  obtain ⟨L, hL⟩ : ∃ L, fileL xs R C off rs cs kind = L := ⟨_, rfl⟩
  rw [hL]
  have HL := hid hL
  clear hL
  unfold viewV
  go_enter Tryz.func27, Tryz.ntmps27
  go_wp2_with fail
  obtain ⟨V, hV⟩ : ∃ V, w.alloc (.cells #[.int .i64 R, .int .i64 C, .int .i64 off, .int .i64 rs, .int .i64 cs] 24) = V := ⟨_, rfl⟩
  have mV : Arr V b 24 [.int .i64 R, .int .i64 C, .int .i64 off, .int .i64 rs, .int .i64 cs] := by rw [← hV, ← hb]; exact Arr.newL w _ _
  have bV : Below b w V := by rw [← hV, ← hb]; exact Below.refl' _ _
  have zV : b + 1 = V.heap.size := by rw [← hV]; simp [hb]
  rw [hV]
  clear hV
  refine (refFits_any V R C off rs cs n hn1).mono ?_
  rintro e W1 ⟨⟨bo, rfl, hbo⟩, b1⟩
  have m1 := mV.below b1 (by omega)
  have q1 : Below b w W1 := bV.trans (b1.mono (by omega))
  have HQ := hid q1
  have HM := hid m1
  have z1 : b + 1 ≤ W1.heap.size := by have := b1.size; omega
  have HZ := hid z1
  have HBO := hid hbo
  clear mV bV zV b1 m1 q1 z1 hbo
  cases bo with
  | false =>
    go_wp2
    go_ret2
    refine ⟨fileR_err ?_, by rw [hb]; exact HQ.out⟩
    rw [← HL.out]
    unfold fileL
    rw [if_pos (by rw [hn]; exact fun h => by have := HBO.out.2 h; cases this)]
  | true =>
    have hfit := HBO.out.1 rfl
    have HFV := hid hfit
    clear HBO
    obtain ⟨hn5, hR, hC, hF⟩ := hfit
    obtain ⟨r, rfl⟩ : ∃ r : Nat, R = (r : Int) := ⟨R.toNat, by omega⟩
    obtain ⟨c, rfl⟩ : ∃ c : Nat, C = (c : Int) := ⟨C.toNat, by omega⟩
    have HF := hid hF
    clear hF
    by_cases hk0 : kind < 0
    · go_wp2
      go_ret2
      refine ⟨fileR_err ?_, by rw [hb]; exact HQ.out⟩
      rw [← HL.out]
      unfold fileL
      rw [if_neg (by rw [hn]; exact fun h => h HFV.out), if_pos (by omega)]
    · by_cases hk5 : 5 < kind
      · go_wp2
        go_ret2
        refine ⟨fileR_err ?_, by rw [hb]; exact HQ.out⟩
        rw [← HL.out]
        unfold fileL
        rw [if_neg (by rw [hn]; exact fun h => h HFV.out), if_pos (by omega)]
      · obtain ⟨k, rfl⟩ : ∃ k : Nat, kind = (k : Int) := ⟨kind.toNat, by omega⟩
        have HFit : Hid (r = 0 ∨ c = 0 ∨ Fit r c off rs cs n) := hid (by
          rcases HF.out with h | h | h
          · exact .inl (by omega)
          · exact .inr (.inl (by omega))
          · exact .inr (.inr h))
        have HBUF := hid (HB.out.below (hb ▸ HQ.out))
        have c0 := HM.out.cell (i := 0) rfl
        have c1 := HM.out.cell (i := 1) rfl
        have c2 := HM.out.cell (i := 2) rfl
        have c3 := HM.out.cell (i := 3) rfl
        have c4 := HM.out.cell (i := 4) rfl
        have HS := hid (seen_any W1 r c off rs cs ao n cap xs (by omega) (by omega) hn hn5 HFit.out HBUF.out)
        unfold viewV at HS
        go_wp2_with fail
        refine HS.out.mono ?_
        rintro e W2 ⟨p, rfl, hm, hp, b2⟩
        have HM2 := hid hm
        have HQ2 := hid (HQ.out.trans (b2.mono (by have := HZ.out; omega)))
        clear hm b2 hp HS c0 c1 c2 c3 c4 HM HBUF HB
        have d0 := HM2.out.c0
        have d1 := HM2.out.c1
        obtain ⟨sv, hsv⟩ : ∃ sv, decide ((k : Int) = 1 ∨ (k : Int) = 3) = sv := ⟨_, rfl⟩
        have HSV := hid hsv
        clear hsv
        have HHQ := hid (fun n => Calls.quiet_of_same (P := Tryz.prog) (w := W2) (half_b (W2.drewN n) k sv HSV.out))
        cases sv with
        | true =>
          have hs : k = 1 ∨ k = 3 := by have := HSV.out; simp at this; omega
          have HS := hid hs
          clear hs
          by_cases hrc : r = c
          · subst hrc
            go_wp2_with fail
            go_quiet (first | (go_at_call 44; with_reducible exact HHQ.out _))
            have HM3 := hid (HM2.out.dn nq)
            have HQ3 := hid (below_dn HQ2.out nq)
            generalize W2.drewN nq = W3 at *
            clear HM2 HQ2 d0 d1
            go_wp2_with fail
            refine (half_b _ _ true HSV.out).mono ?_
            rintro e W ⟨rfl, e1⟩
            obtain rfl : W3 = W := e1.symm
            go_wp2_with fail
            refine (rsym_any _ p r _ HM3.out).mono ?_
            rintro e W4 ⟨⟨bo, rfl, hbo⟩, b4⟩
            have HQ4 := hid (HQ3.out.trans (b4.mono (by have := HQ3.out.size; omega)))
            have HM4 := hid (HM3.out.below b4)
            have HBO := hid hbo
            clear b4 hbo e1
            cases bo with
            | false =>
              go_wp2
              go_ret2
              refine ⟨fileR_err ?_, by rw [hb]; exact HQ4.out⟩
              rw [← HL.out]
              unfold fileL
              have hs := HS.out
              rw [if_neg (by rw [hn]; exact fun h => h HFV.out), if_neg (by omega), if_neg (by omega), if_pos ⟨by omega, fun h => by have := HBO.out.2 h; cases this⟩]
            | true =>
              have hk4 : ¬ ((k : Int) ≥ 4) := by have := HS.out; omega
              have hk4' : (k : Int) < 4 := by have := HS.out; omega
              go_wp2_with fail
              refine (lines_any _ p k r r _ (by have := HS.out; omega) HM4.out (seenF_lt HX.out off rs cs) HPR.out).mono ?_
              rintro e W5 ⟨s, rfl, hs5, b5⟩
              have HS5 := hid hs5
              have HQ5 := hid (HQ4.out.trans (b5.mono (by have := HQ4.out.size; omega)))
              clear hs5 b5
              go_wp2
              go_ret2
              refine ⟨fileR_ok ?_, by rw [hb]; exact HQ5.out⟩
              rw [← HL.out, HS5.out]
              unfold fileL
              have hs := HS.out
              rw [if_neg (by rw [hn]; exact fun h => h HFV.out), if_neg (by omega), if_neg (by omega), if_neg (fun h => h.2 (by simpa using HBO.out)), if_neg (by omega)]
              rfl
          · have hrc' : ¬ (r : Int) = c := by omega
            go_wp2_with fail
            go_quiet (first | (go_at_call 44; with_reducible exact HHQ.out _))
            have HQ3 := hid (below_dn HQ2.out nq)
            generalize W2.drewN nq = W3 at *
            clear HM2 HQ2 d0 d1
            go_wp2
            go_ret2
            refine ⟨fileR_err ?_, by rw [hb]; exact HQ3.out⟩
            rw [← HL.out]
            unfold fileL
            have hs := HS.out
            rw [if_neg (by rw [hn]; exact fun h => h HFV.out), if_neg (by omega), if_pos ⟨by omega, hrc'⟩]
        | false =>
          have hs : ¬ (k = 1 ∨ k = 3) := by have := HSV.out; simp at this; omega
          have HS := hid hs
          clear hs
          go_wp2_with fail
          go_quiet (first | (go_at_call 44; with_reducible exact HHQ.out _))
          have HM3 := hid (HM2.out.dn nq)
          have HQ3 := hid (below_dn HQ2.out nq)
          generalize W2.drewN nq = W3 at *
          clear HM2 HQ2 d0 d1
          go_wp2_with fail
          refine (half_b _ _ false HSV.out).mono ?_
          rintro e W ⟨rfl, e1⟩
          obtain rfl : W3 = W := e1.symm
          clear e1
          by_cases hk4 : 4 ≤ k
          · have hk4' : (k : Int) ≥ 4 := by omega
            have hk4'' : ¬ (k : Int) < 4 := by omega
            go_wp2_with fail
            refine (rbox_any _ p k r c _ (by omega) HM3.out (seenF_lt HX.out off rs cs)).mono ?_
            rintro e W5 ⟨s, rfl, hs5, b5⟩
            have HS5 := hid hs5
            have HQ5 := hid (HQ3.out.trans (b5.mono (by have := HQ3.out.size; omega)))
            clear hs5 b5
            go_wp2
            go_ret2
            refine ⟨fileR_ok ?_, by rw [hb]; exact HQ5.out⟩
            rw [← HL.out, HS5.out]
            unfold fileL
            have hs := HS.out
            rw [if_neg (by rw [hn]; exact fun h => h HFV.out), if_neg (by omega), if_neg (by omega), if_neg (by omega), if_pos (by omega)]
            rfl
          · have hk4' : ¬ (k : Int) ≥ 4 := by omega
            have hk4'' : (k : Int) < 4 := by omega
            go_wp2_with fail
            refine (lines_any _ p k r c _ (by omega) HM3.out (seenF_lt HX.out off rs cs) HPR.out).mono ?_
            rintro e W5 ⟨s, rfl, hs5, b5⟩
            have HS5 := hid hs5
            have HQ5 := hid (HQ3.out.trans (b5.mono (by have := HQ3.out.size; omega)))
            clear hs5 b5
            go_wp2
            go_ret2
            refine ⟨fileR_ok ?_, by rw [hb]; exact HQ5.out⟩
            rw [← HL.out, HS5.out]
            unfold fileL
            have hs := HS.out
            rw [if_neg (by rw [hn]; exact fun h => h HFV.out), if_neg (by omega), if_neg (by omega), if_neg (by omega), if_neg (by omega)]
            rfl

end Go.Proofs.YthdcceackfdbbaaGreatDoor
/- Own text: NewWriter and Next. -/
namespace Go.Proofs.YthdcceackfdbbaaGreatDoor
open Go Go.RowKit Go.Shelf
attribute [local go_sem] Oper.semAt_some

/-- what NewWriter answers for a file or an error -/
def WriterR (b : Nat) (L : List UInt8 × Int) (e : Ending) (w' : World) : Prop :=
  (L.2 ≠ 0 ∧ e = .returned (.tuple #[.pointer none, .int .i64 L.2])) ∨
  (L.2 = 0 ∧ ∃ (p : Nat) (s : ByteArray), e = .returned (.tuple #[.pointer (some ⟨p, 0, none⟩), .int .i64 0]) ∧ b ≤ p ∧ Arr w' p 101 [.string s] ∧ s.data.toList = L.1)

set_option maxRecDepth 20000 in
set_option maxHeartbeats 4000000 in
theorem newWriter_any (w : World) (R C off rs cs kind : Int) (bb n cap : Nat) (xs : List Nat) (hn : xs.length = n) (hn1 : n < 9223372036854775808) (hx : ∀ x ∈ xs, x < 18446744073709551616)
    (hbuf : ∀ (k x : Nat), xs[k]? = some x → w.cell? ⟨bb, k, none⟩ = some (.int .u64 (x : Int))) (hbb : bb < w.heap.size) (htab : Lib.TabIs Tryz.prog w "internal/strconv.uint64pow10" .u64 Lib.pow10Tab) :
    Calls Tryz.prog 25 #[.slice (some ⟨bb, 0, none⟩) n cap, viewV R C off rs cs, .int .i64 kind] w fun e w' => WriterR w.heap.size (fileL xs R C off rs cs kind) e w' ∧ Below w.heap.size w w' := by
  obtain ⟨b, hb⟩ : ∃ b, w.heap.size = b := ⟨_, rfl⟩
  have HB := hid hbuf
  have HX := hid hx
  have HT := hid htab
  clear hbuf hx htab
  obtain ⟨V, hV⟩ : ∃ V, w.alloc (.cells #[.int .i64 R, .int .i64 C, .int .i64 off, .int .i64 rs, .int .i64 cs] 24) = V := ⟨_, rfl⟩
  have HQ : Hid (Below b w V) := by rw [← hV, ← hb]; exact Below.refl' _ _
  have HZ : Hid (V.heap.size = b + 1) := by unfold Hid; rw [← hV]; simp [hb]
  have HW := hid (write_any V R C off rs cs kind bb n cap xs hn hn1 HX.out (fun k x h => (HQ.out.cell (p := ⟨bb, k, none⟩) (by show bb < b; omega)).trans (HB.out k x h)) (by rw [HZ.out]; omega) (tab_below HT.out (hb ▸ HQ.out)))
  obtain ⟨L, hL⟩ : ∃ L, fileL xs R C off rs cs kind = L := ⟨_, rfl⟩
  rw [hL] at HW ⊢
  clear hL
  unfold viewV at HW ⊢
  have HV := hid hV
  clear hV
  go_enter Tryz.func25, Tryz.ntmps25
  go_wp2_with fail
  rw [HV.out]
  refine HW.out.mono ?_
  rintro e W1 ⟨⟨s, rfl, hs⟩, b1⟩
  have HS := hid hs
  have HB1 := hid b1
  clear hs b1 HW
  by_cases hz : L.2 = 0
  · rw [hz]
    go_wp2
    go_ret2
    have q1 : Below b w W1 := HQ.out.trans (HB1.out.mono (by rw [HZ.out]; omega))
    have hsz : b ≤ W1.heap.size := by have := q1.size; omega
    refine ⟨.inr ⟨hz, W1.heap.size, s, rfl, by omega, Arr.newL _ _ _, HS.out⟩, ?_⟩
    rw [hb]
    exact q1.alloc hsz _
  · have hzb : (L.2 != 0) = true := by simpa using hz
    go_wp2
    go_ret2
    refine ⟨.inl ⟨hz, rfl⟩, ?_⟩
    rw [hb]
    exact HQ.out.trans (HB1.out.mono (by rw [HZ.out]; omega))

theorem strclone_any (w : World) (s : ByteArray) (hs : s.size ≤ 281474976710656) : Calls Tryz.prog 48 #[.string s] w fun e w' => e = .returned (.string s) ∧ Below w.heap.size w w' := by
  go_enter Tryz.func48, Tryz.ntmps48
  go_wp2_with fail
  refine (Tryz.stringslite_Clone s _ hs).mono ?_
  rintro e w1 ⟨rfl, b1⟩
  have HB1 := hid b1
  clear b1
  go_wp2
  go_ret
  exact ⟨rfl, HB1.out⟩

set_option maxRecDepth 20000 in
set_option maxHeartbeats 4000000 in
theorem next_any (w : World) (p : Nat) (rest : ByteArray) (most : Int) (hp : Arr w p 101 [.string rest]) (hr : rest.size ≤ 281474976710656) :
    Calls Tryz.prog 28 #[.pointer (some ⟨p, 0, none⟩), .int .i64 most] w fun e w' =>
      e = .returned (.string (rest.extract 0 (min most.toNat rest.size))) ∧ ∃ W1, Below w.heap.size w W1 ∧ w' = W1.setCell ⟨p, 0, none⟩ (.string (rest.extract (min most.toNat rest.size) rest.size)) := by
  have c0 := hp.cell (i := 0) rfl
  have HP := hid hp
  clear hp
  obtain ⟨m, hm⟩ : ∃ m : Nat, min most.toNat rest.size = m := ⟨_, rfl⟩
  have HMI : Hid (min (max most 0) (rest.size : Int) = (m : Int)) := by unfold Hid; omega
  have hm2 : m ≤ rest.size := by omega
  rw [hm]
  clear hm
  go_enter Tryz.func28, Tryz.ntmps28
  go_wp2_with fail
  rw [HMI.out]
  rw [Int.toNat_natCast]
  refine (strclone_any w (rest.extract 0 m) (by rw [ByteArray.size_extract]; omega)).mono ?_
  rintro e W1 ⟨rfl, b1⟩
  have HB1 := hid b1
  have c1 := (HP.out.below b1 HP.out.lt).cell (i := 0) rfl
  have f1 := (HP.out.below b1 HP.out.lt).frozen 0
  clear b1 c0
  go_wp2
  go_ret
  exact ⟨rfl, W1, HB1.out, rfl⟩

end Go.Proofs.YthdcceackfdbbaaGreatDoor
/- Own text: the law's own: how long a file is; copied, still. -/
namespace Go.Proofs.YthdcceackfdbbaaGreatDoor
open Go Go.RowKit

theorem bodyL_len {kind : Nat} {es : List (Nat × Nat × Nat)} (h : ∀ y ∈ es, (lineL (entW kind y)).length ≤ 200) : (bodyL kind es).length ≤ 200 * es.length := by
  induction es with
  | nil => simp [bodyL]
  | cons y r ih =>
    have h1 := h y (by simp)
    have h2 := ih (fun z hz => h z (by simp [hz]))
    simp only [bodyL, List.flatMap_cons, List.length_append, List.length_cons] at h2 ⊢
    omega

theorem textL_len {kind R C : Nat} {f : Nat → Nat → Nat} (hR : R ≤ 40) (hC : C ≤ 40) (hf : ∀ i j, (prL (f i j)).length ≤ 100) : (textL kind R C f).length ≤ 1000000 := by
  have hRC : R * C ≤ 40 * 40 := Nat.mul_le_mul hR hC
  have h1 := first_len kind
  have h0 := entL_len kind R C f
  have h2 := siz_len (kind := kind) hR hC (n := (entL kind R C f).length) (by omega)
  have h3 := bodyL_len (kind := kind) (es := entL kind R C f) (fun y hy => by
    have hm := entL_mem hy
    exact ent_len (by omega) (by omega) (by rw [hm.2.2]; exact hf _ _))
  unfold textL
  simp only [List.length_append]
  omega

theorem fileL_len {xs : List Nat} {R C off rs cs kind : Int} (hx : ∀ x ∈ xs, x < 18446744073709551616) (hpr : ∀ x, x < 18446744073709551616 → PrintOk x (prL x) ∧ (prL x).length ≤ 100) : (fileL xs R C off rs cs kind).1.length ≤ 1000000 := by
  unfold fileL
  split
  · simp
  · rename_i hfit
    have hfit : FitV R C off rs cs xs.length := Classical.byContradiction hfit
    obtain ⟨_, h1, h2, _⟩ := hfit
    split
    · simp
    · split
      · simp
      · split
        · simp
        · split
          · have hRC : R.toNat * C.toNat ≤ 40 * 40 := Nat.mul_le_mul (by omega) (by omega)
            have h0 := entL_len kind.toNat R.toNat C.toNat (seenF xs off rs cs)
            simp only [boxL, List.length_append, hdL_len, lowL_len, payL_len]
            omega
          · exact textL_len (by omega) (by omega) (fun i j => (hpr _ (seenF_lt hx off rs cs i j)).2)

def u64L (xs : List Nat) : List Value := xs.map fun (x : Nat) => .int .u64 (x : Int)

set_option maxRecDepth 20000 in
set_option maxHeartbeats 1000000 in
theorem copied_any (w : World) (ao : Option Addr) (n cap : Nat) (xs : List Nat) (hn : xs.length = n) (hn1 : n ≤ 20000000000000) (hbuf : BufIs w ao xs) :
    Calls Tryz.prog 24 #[.slice ao n cap] w fun e w' => e = .returned (.slice (some ⟨w.heap.size, 0, none⟩) (n + 2) (n + 2)) ∧ Arr w' w.heap.size 65 (u64L (xs ++ [77, 78])) ∧ Below w.heap.size w w' := by
  obtain ⟨b, hb⟩ : ∃ b, w.heap.size = b := ⟨_, rfl⟩
  obtain ⟨N, hN⟩ : ∃ N, n + 2 = N := ⟨_, rfl⟩
  have hNi : (n : Int) + 2 = (N : Int) := by omega
  obtain ⟨i0, hi, hz0, hz1, hz2⟩ := info_parts Tryz.infoU64
  have hmk := run_make1 (P := Tryz.prog) 22 65 i0 (.int .u64 0) Tryz.underlying22 hi hz0 hz1 rfl N (by rw [hz2]; omega) (by omega)
  have hsz : (Tryz.prog.info? 65).map (·.size) = some 1 := by rw [hi]; simp [hz1]
  clear hi hz0 hz1 hz2
  rw [hN, hb]
  have HBUF := hid hbuf
  clear hbuf
  obtain ⟨X, hX⟩ : ∃ X, u64L xs = X := ⟨_, rfl⟩
  have hXl : X.length = n := by rw [← hX]; simp [u64L, hn]
  have HX := hid hX
  clear hX
  go_enter Tryz.func24, Tryz.ntmps24
  go_wp2_with (refine wpList_copy_splice rfl (.tmp 10) (.tmp 11) 22 22 rfl 65 Tryz.underlying22 hsz (some ⟨b, 0, none⟩) ao N N n cap (by first | rfl | (rw [← hb]; rfl)) rfl b 0 (List.replicate N (.int .u64 0)) 65 ?c0 X ?c1 ?c2 ?c3 ?c4 b w ?c5 (Nat.le_refl _) ?_)
  case c0 => rw [List.toArray_replicate, ← hb]; exact World.alloc_heap_new w _
  case c1 => show X.length = min n N; omega
  case c2 =>
    intro hpos
    have h0 : xs[0]? = some (xs[0]'(by omega)) := by simp
    obtain ⟨_, ad, hao, _, _⟩ := HBUF.out 0 _ h0
    refine ⟨ad, hao, fun j v hj => ?_⟩
    rw [← HX.out] at hj
    obtain ⟨x, hx, rfl⟩ : ∃ x, xs[j]? = some x ∧ Value.int .u64 (x : Int) = v := by
      unfold u64L at hj; rw [List.getElem?_map] at hj
      cases h : xs[j]? with
      | none => rw [h] at hj; cases hj
      | some x => rw [h] at hj; exact ⟨x, rfl, Option.some.inj hj⟩
    obtain ⟨_, ad', hao', hlt, hc⟩ := HBUF.out j x hx
    rw [hao] at hao'; cases hao'
    exact (Sim.alloc 0 _ _).cell hc
  case c3 => simp; omega
  case c4 =>
    intro v hv
    rw [← HX.out] at hv
    obtain ⟨x, _, rfl⟩ := List.mem_map.1 hv
    rfl
  case c5 => rw [← hb]; exact Below.refl' _ _
  · intro W1 hg1 hb1
    have a1 : Arr W1 b 65 (X ++ [.int .u64 0, .int .u64 0]) := by
      have e : splice (List.replicate N (Value.int .u64 0)) 0 X = X ++ [.int .u64 0, .int .u64 0] := by
        unfold splice
        simp only [List.take_zero, List.nil_append, Nat.zero_add, List.drop_replicate]
        rw [show N - X.length = 2 by omega]; rfl
      have := hg1.out
      rw [e] at this
      exact this
    have k0 : W1.cell? ⟨b, n, none⟩ = some (.int .u64 0) := a1.cell (by rw [List.getElem?_append_right (by omega), hXl]; simp)
    have f0 := a1.frozen n
    have HA1 := hid a1
    have HB1 := hid hb1
    clear a1 hb1 hg1
    have h1 : (n : Int) < N := by omega
    have h2 : (n : Int) + 1 < N := by omega
    have k1 : (W1.setCell ⟨b, n, none⟩ (.int .u64 77)).cell? ⟨b, n + 1, none⟩ = some (.int .u64 0) := (HA1.out.set n (.int .u64 77)).cell (by rw [List.getElem?_set, if_neg (by omega), List.getElem?_append_right (by omega), hXl]; simp)
    have f1 : (W1.setCell ⟨b, n, none⟩ (.int .u64 77)).frozen? ⟨b, n + 1, none⟩ = false := (HA1.out.set n (.int .u64 77)).frozen _
    go_wp2
    go_ret
    refine ⟨rfl, ?_, (HB1.out.setCell (p := ⟨b, n, none⟩) (Nat.le_refl _) _).setCell (p := ⟨b, n + 1, none⟩) (Nat.le_refl _) _⟩
    have e : ((X ++ [Value.int .u64 0, Value.int .u64 0]).set n (Value.int .u64 77)).set (n + 1) (.int .u64 78) = u64L (xs ++ [77, 78]) := by
      rw [List.set_append_right _ _ (by omega), List.set_append_right _ _ (by omega), hXl, ← HX.out]
      simp [u64L]
    rw [← e]
    exact (HA1.out.set n _).set (n + 1) _

/-- all of a row is as it was -/
theorem still_any (w : World) (g : Nat) (ao : Option Addr) (n cap : Nat) (xs : List Nat) (hn : xs.length = n) (hn1 : n ≤ 20000000000000) (hbuf : BufIs w ao xs) (ha : Arr w g 65 (u64L (xs ++ [77, 78]))) :
    Calls Tryz.prog 26 #[.slice (some ⟨g, 0, none⟩) (n + 2) (n + 2), .slice ao n cap] w fun e w' => e = .returned (.bool true) ∧ ∃ m, w' = w.drewN m := by
  have hmix : Tryz.prog.follows .mixedOrders = true := by kernel_rfl
  obtain ⟨N, hN⟩ : ∃ N, n + 2 = N := ⟨_, rfl⟩
  rw [hN]
  have HA : Hid (∀ (k x : Nat), (xs ++ [77, 78])[k]? = some x → w.cell? ⟨g, k, none⟩ = some (.int .u64 (x : Int))) := fun k x hk => ha.cell (by unfold u64L; rw [List.getElem?_map, hk]; rfl)
  have HBUF := hid hbuf
  clear hbuf ha
  go_enter Tryz.func26, Tryz.ntmps26
  go_wp2
  go_loopw [6] (fun vi wr => ∃ i m : Nat, vi = .int .i64 (i : Int) ∧ i ≤ n ∧ wr = w.drewN m) (fun vi _ => n - (intOf vi).toNat)
  case atStart => exact ⟨0, 0, rfl, by omega, (World.drewN_zero w).symm⟩
  case round =>
    obtain ⟨i, m, rfl, hi, rfl⟩ := hrel
    by_cases hlt : i < n
    · have hlt' : (i : Int) < n := by omega
      have hlt2 : (i : Int) < N := by omega
      obtain ⟨x, hx⟩ : ∃ x, xs[i]? = some x := ⟨xs[i]'(by omega), by simp [hn, hlt]⟩
      obtain ⟨hx64, ad, rfl, had, hc1⟩ := HBUF.out i x hx
      have hc2 := HA.out i x (by rw [List.getElem?_append_left (by omega)]; exact hx)
      go_wp2
      go_quiet (fail)
      go_wp2
      go_round
      case rel => exact ⟨i + 1, _, by simp, by omega, rfl⟩
      case measure => simp [intOf]; omega
    · have hlt' : ¬ (i : Int) < n := by omega
      obtain rfl : i = n := by omega
      have hlt2 : (i : Int) < N := by omega
      have hlt3 : (i : Int) + 1 < N := by omega
      have c1 := HA.out i 77 (by rw [List.getElem?_append_right (by omega), hn]; simp)
      have c2 := HA.out (i + 1) 78 (by rw [List.getElem?_append_right (by omega), hn]; simp)
      go_wp2
      go_ret
      exact ⟨rfl, m, rfl⟩

end Go.Proofs.YthdcceackfdbbaaGreatDoor
/- Own text: the law's own: written. -/
namespace Go.Proofs.YthdcceackfdbbaaGreatDoor
open Go Go.RowKit

/-- a writer of the law: the program's, and what it has still to write -/
structure Scribe (w : World) (B q p : Nat) (rest : ByteArray) : Prop where
  s : Arr w q 81 [.pointer (some ⟨p, 0, none⟩), .string rest]
  w : Arr w p 101 [.string rest]
  hq : B ≤ q
  hp : B ≤ p
  ne : p ≠ q

def WrittenR (B : Nat) (L : List UInt8 × Int) (e : Ending) (w' : World) : Prop :=
  (L.2 ≠ 0 ∧ e = .returned (.tuple #[.pointer none, .bool true])) ∨
  (L.2 = 0 ∧ ∃ (q p : Nat) (s : ByteArray), e = .returned (.tuple #[.pointer (some ⟨q, 0, none⟩), .bool true]) ∧ Scribe w' B q p s ∧ s.data.toList = L.1)

theorem bytes_ext {s t : ByteArray} {l : List UInt8} (h : s.data.toList = l) (h' : t.data.toList = l) : s = t := by rw [bytes_of_list h, bytes_of_list h']

set_option maxRecDepth 20000 in
set_option maxHeartbeats 4000000 in
theorem written_any (w : World) (R C off rs cs kind : Int) (ao : Option Addr) (n cap : Nat) (xs : List Nat) (hn : xs.length = n) (hn1 : n ≤ 20000000000000) (hbuf : BufIs w ao xs) (htab : Lib.TabIs Tryz.prog w "internal/strconv.uint64pow10" .u64 Lib.pow10Tab) :
    Calls Tryz.prog 9 #[.slice ao n cap, viewV R C off rs cs, .int .i64 kind] w fun e w' => WrittenR w.heap.size (fileL xs R C off rs cs kind) e w' ∧ Below w.heap.size w w' := by
  have hmix : Tryz.prog.follows .mixedOrders = true := by kernel_rfl
  obtain ⟨b, hb⟩ : ∃ b, w.heap.size = b := ⟨_, rfl⟩
  have hpr : ∀ x, x < 18446744073709551616 → PrintOk x (prL x) ∧ (prL x).length ≤ 100 := fun x hx => prL_ok htab hx
  have HPR := hid hpr
  have HB := hid hbuf
  have HT := hid htab
  clear hbuf htab hpr
  obtain ⟨L, hL⟩ : ∃ L, fileL xs R C off rs cs kind = L := ⟨_, rfl⟩
  rw [hL, hb]
  have HL := hid hL
  clear hL
  unfold viewV
  obtain ⟨V, hV⟩ : ∃ V, w.alloc (.cells #[.int .i64 R, .int .i64 C, .int .i64 off, .int .i64 rs, .int .i64 cs] 24) = V := ⟨_, rfl⟩
  have mV : Arr V b 24 [.int .i64 R, .int .i64 C, .int .i64 off, .int .i64 rs, .int .i64 cs] := by rw [← hV, ← hb]; exact Arr.newL w _ _
  have bV : Below b w V := by rw [← hV, ← hb]; exact Below.refl' _ _
  have zV : V.heap.size = b + 1 := by rw [← hV]; simp [hb]
  have HC := hid (copied_any V ao n cap xs hn hn1 (HB.out.below (hb ▸ bV)))
  rw [zV] at HC
  have HV := hid hV
  have HMV := hid mV
  have HBV := hid bV
  have HZV := hid zV
  clear hV mV bV zV
  go_enter Tryz.func9, Tryz.ntmps9
  go_wp2_with fail
  rw [HV.out]
  refine HC.out.mono ?_
  rintro e W1 ⟨rfl, a1, b1⟩
  have HA1 := hid a1
  have HB1 := hid b1
  clear a1 b1 HC HV
  have bw1 : Below b w W1 := HBV.out.trans (HB1.out.mono (by omega))
  have mW1 : Arr W1 b 24 [.int .i64 R, .int .i64 C, .int .i64 off, .int .i64 rs, .int .i64 cs] := HMV.out.below HB1.out (by omega)
  have zW1 : b + 2 ≤ W1.heap.size := by have := HA1.out.lt; omega
  have HBW1 := hid bw1
  have HMW1 := hid mW1
  have HZW1 := hid zW1
  clear bw1 mW1 zW1 HMV
  go_wp2_with fail
  refine wp_region_held (S := fun W' => Arr W' b 24 [.int .i64 R, .int .i64 C, .int .i64 off, .int .i64 rs, .int .i64 cs]) hmix ?_
  change wpAnyH _ _ _ _ _ _ _ _ W1.drew
  have hS0 : Arr W1.drew b 24 [.int .i64 R, .int .i64 C, .int .i64 off, .int .i64 rs, .int .i64 cs] := HMW1.out.drew
  refine wpAnyH_take (i := 0) (v := .slice (some ⟨b + 1, 0, none⟩) (n + 2) (n + 2)) rfl (by kernel_rfl) (by kernel_rfl) (by kernel_rfl) (fun _ _ _ h => h) (Or.inl ⟨by rfl, fun W' hS => ?_⟩) hS0 ?_
  · clear hS
    go_simp
  simp only [Act.put]
  refine wpAnyH_take (i := 1) (v := .int .i64 (n : Int)) rfl (by kernel_rfl) (by kernel_rfl) (by kernel_rfl) (fun _ _ _ h => h) (Or.inl ⟨by rfl, fun W' hS => ?_⟩) hS0 ?_
  · clear hS
    go_simp
  simp only [Act.put]
  refine wpAnyH_take (i := 2) (v := .slice (some ⟨b + 1, 0, none⟩) n (n + 2)) rfl (by kernel_rfl) (by kernel_rfl) (by kernel_rfl) (fun _ _ _ h => h) (Or.inl ⟨by rfl, fun W' hS => ?_⟩) hS0 ?_
  · clear hS
    have h1 : ¬ ((n : Int) + 2 < (n : Int)) := by omega
    go_simp
    all_goals (intro h; exact absurd h h1)
  simp only [Act.put]
  refine wpAnyH_take (i := 3) (v := .agg #[.int .i64 R, .int .i64 C, .int .i64 off, .int .i64 rs, .int .i64 cs]) rfl (by kernel_rfl) (by kernel_rfl) (by kernel_rfl) (fun _ _ _ h => h) (Or.inl ⟨by rfl, fun W' hS => ?_⟩) hS0 ?_
  · have c0 := hS.cell (i := 0) rfl
    have c1 := hS.cell (i := 1) rfl
    have c2 := hS.cell (i := 2) rfl
    have c3 := hS.cell (i := 3) rfl
    have c4 := hS.cell (i := 4) rfl
    clear hS
    go_simp
  simp only [Act.put]
  refine wpAnyH_take (i := 4) (v := .int .i64 kind) rfl (by kernel_rfl) (by kernel_rfl) (by kernel_rfl) (fun _ _ _ h => h) (Or.inl ⟨by rfl, fun W' hS => ?_⟩) hS0 ?_
  · clear hS
    go_simp
  simp only [Act.put]
  refine wpAnyH_ready (rs := [5]) (by kernel_rfl) (by simp) ?_
  refine AllReadyH.cons rfl (fun K hKK => ?_) AllReadyH.nil
  go_simp
  have hcell : ∀ (k x : Nat), xs[k]? = some x → W1.drew.cell? ⟨b + 1, k, none⟩ = some (.int .u64 (x : Int)) := fun k x hk => HA1.out.drew.cell (by
    unfold u64L; rw [List.getElem?_map, List.getElem?_append_left (by have := (List.getElem?_eq_some_iff.1 hk).1; omega), hk]; rfl)
  have hNW := newWriter_any W1.drew R C off rs cs kind (b + 1) n (n + 2) xs hn (by omega) HB.out.lt hcell (by have := HA1.out.drew.lt; exact this) (tab_below HT.out (hb ▸ HBW1.out.drew))
  unfold viewV at hNW
  refine hNW.mono ?_
  rintro e W2 ⟨hW, b2⟩
  rw [HL.out] at hW
  obtain ⟨pv, rfl, hpv⟩ : ∃ pv : Option Addr, e = .returned (.tuple #[.pointer pv, .int .i64 L.2]) ∧ ((L.2 ≠ 0 ∧ pv = none) ∨ (L.2 = 0 ∧ ∃ (p : Nat) (s : ByteArray), pv = some ⟨p, 0, none⟩ ∧ W1.drew.heap.size ≤ p ∧ Arr W2 p 101 [.string s] ∧ s.data.toList = L.1)) := by
    rcases hW with ⟨h1, rfl⟩ | ⟨h1, p, s, rfl, h2, h3, h4⟩
    · exact ⟨none, rfl, .inl ⟨h1, rfl⟩⟩
    · exact ⟨some ⟨p, 0, none⟩, by rw [h1], .inr ⟨h1, p, s, rfl, h2, h3, h4⟩⟩
  have hS1 : Arr W2 b 24 [.int .i64 R, .int .i64 C, .int .i64 off, .int .i64 rs, .int .i64 cs] := hS0.belowAll b2
  refine hKK.out _ _ hS1 (fun hHeld => ?_)
  clear hKK hHeld hNW hcell hW
  refine wpAnyH_take (i := 6) (v := .tuple #[.pointer pv, .int .i64 L.2]) rfl (by kernel_rfl) (by kernel_rfl) (by kernel_rfl) (fun _ _ _ h => h) (Or.inl ⟨by rfl, fun W' hS => ?_⟩) hS1 ?_
  · clear hS
    go_simp
  simp only [Act.put]
  refine wpAnyH_take (i := 7) (v := .pointer pv) rfl (by kernel_rfl) (by kernel_rfl) (by kernel_rfl) (fun _ _ _ h => h) (Or.inl ⟨by rfl, fun W' hS => ?_⟩) hS1 ?_
  · clear hS
    go_simp
  simp only [Act.put]
  refine wpAnyH_take (i := 8) (v := .int .i64 L.2) rfl (by kernel_rfl) (by kernel_rfl) (by kernel_rfl) (fun _ _ _ h => h) (Or.inl ⟨by rfl, fun W' hS => ?_⟩) hS1 ?_
  · clear hS
    go_simp
  simp only [Act.put]
  refine wpAnyH_take (i := 9) (v := .pointer pv) rfl (by kernel_rfl) (by kernel_rfl) (by kernel_rfl) (fun _ _ _ h => h) (Or.inl ⟨by rfl, fun W' hS => ?_⟩) hS1 ?_
  · clear hS
    go_simp
  simp only [Act.put]
  refine wpAnyH_take (i := 10) (v := .int .i64 L.2) rfl (by kernel_rfl) (by kernel_rfl) (by kernel_rfl) (fun _ _ _ h => h) (Or.inl ⟨by rfl, fun W' hS => ?_⟩) hS1 ?_
  · clear hS
    go_simp
  simp only [Act.put]
  refine wpAnyH_done (by kernel_rfl) ?_ _
  have ed : W1.drew.heap.size = W1.heap.size := rfl
  have a2 : Arr W2 (b + 1) 65 (u64L (xs ++ [77, 78])) := HA1.out.drew.belowAll b2
  have bw2 : Below b w W2 := HBW1.out.drew.trans (b2.mono (by have := HZW1.out; omega))
  have z2 := b2.size
  have HA2 := hid a2
  have HBW2 := hid bw2
  have HM2 := hid hS1
  have HPV := hid hpv
  have HZ2 : Hid (b + 2 ≤ W2.heap.size) := by have := HZW1.out; show _ ≤ _; omega
  clear a2 bw2 hS1 hS0 b2 hpv z2 HA1 HBW1 HMW1
  have HST := hid (still_any W2 (b + 1) ao n cap xs hn hn1 (HB.out.below (hb ▸ HBW2.out)) HA2.out)
  go_wp2_with fail
  refine HST.out.mono ?_
  rintro e W3 ⟨rfl, m3, rfl⟩
  have c0 : (W2.drewN m3).cell? ⟨b, 0, none⟩ = some (.int .i64 R) := HM2.out.cell (i := 0) rfl
  have c1 : (W2.drewN m3).cell? ⟨b, 1, none⟩ = some (.int .i64 C) := HM2.out.cell (i := 1) rfl
  have c2 : (W2.drewN m3).cell? ⟨b, 2, none⟩ = some (.int .i64 off) := HM2.out.cell (i := 2) rfl
  have c3 : (W2.drewN m3).cell? ⟨b, 3, none⟩ = some (.int .i64 rs) := HM2.out.cell (i := 3) rfl
  have c4 : (W2.drewN m3).cell? ⟨b, 4, none⟩ = some (.int .i64 cs) := HM2.out.cell (i := 4) rfl
  have HBW3 := hid (below_dn HBW2.out m3)
  have HA3 : Hid (Arr (W2.drewN m3) (b + 1) 65 (u64L (xs ++ [77, 78]))) := HA2.out
  have HZ3 : Hid (b + 2 ≤ (W2.drewN m3).heap.size) := HZ2.out
  have hpv3 : (L.2 ≠ 0 ∧ pv = none) ∨ (L.2 = 0 ∧ ∃ (p : Nat) (s : ByteArray), pv = some ⟨p, 0, none⟩ ∧ b + 2 ≤ p ∧ Arr (W2.drewN m3) p 101 [.string s] ∧ s.data.toList = L.1) := by
    rcases HPV.out with h | ⟨h1, p, s, h2, h3, h4, h5⟩
    · exact .inl h
    · exact .inr ⟨h1, p, s, h2, by have := HZW1.out; omega, h4, h5⟩
  have HPV3 := hid hpv3
  have HF := hid (file_any (W2.drewN m3) R C off rs cs kind ao n cap xs hn (by omega) (HB.out.below (hb ▸ HBW3.out)) HPR.out)
  unfold viewV at HF
  generalize W2.drewN m3 = W3 at *
  clear HPV hpv3 HBW2 HA2 HZ2 HM2 HST HZW1
  rw [HL.out] at HF
  go_wp2_with fail
  refine HF.out.mono ?_
  rintro e W4 ⟨⟨t, rfl, ht⟩, b4⟩
  have HBW4 := hid (HBW3.out.trans (b4.mono (by have := HZ3.out; omega)))
  have HA4 := hid (HA3.out.belowAll b4)
  have HTT := hid ht
  have HPV4 : Hid ((L.2 ≠ 0 ∧ pv = none) ∨ (L.2 = 0 ∧ ∃ p : Nat, pv = some ⟨p, 0, none⟩ ∧ b + 2 ≤ p ∧ Arr W4 p 101 [.string t])) := by
    rcases HPV3.out with h | ⟨h1, p, s, h2, h3, h4, h5⟩
    · exact .inl h
    · refine .inr ⟨h1, p, h2, h3, ?_⟩
      have := h4.belowAll b4
      rw [bytes_ext h5 ht] at this
      exact this
  have hN : (u64L (xs ++ [77, 78])).length = n + 2 := by simp [u64L, hn]
  have HL4 : Hid (∃ l, Arr W4 (b + 1) 65 l ∧ l.length = n + 2) := ⟨_, HA4.out, hN⟩
  have HZ4 : Hid (b + 2 ≤ W4.heap.size) := by have := b4.size; have := HZ3.out; show _ ≤ _; omega
  clear b4 ht HPV3 HA4 HA3 HBW3 HZ3 c0 c1 c2 c3 c4 HF hN
  go_wp2
  go_loopw [15] (fun vi wr => ∃ i : Nat, vi = .int .i64 (i : Int) ∧ i ≤ n ∧ Hid (∃ l, Arr wr (b + 1) 65 l ∧ l.length = n + 2) ∧ Hid (Below b w wr) ∧ Hid ((L.2 ≠ 0 ∧ pv = none) ∨ (L.2 = 0 ∧ ∃ p : Nat, pv = some ⟨p, 0, none⟩ ∧ b + 2 ≤ p ∧ Arr wr p 101 [.string t])) ∧ Hid (b + 2 ≤ wr.heap.size)) (fun vi _ => n - (intOf vi).toNat)
  case atStart => exact ⟨0, rfl, by omega, HL4, HBW4, HPV4, HZ4⟩
  case round =>
    clear HL4 HBW4 HPV4 HZ4
    obtain ⟨i, rfl, hi, HLL, HBW, HPV, HZ⟩ := hrel
    by_cases hlt : i < n
    · have hlt' : (i : Int) < n := by omega
      have hlt2 : (i : Int) < ((n + 2 : Nat) : Int) := by omega
      obtain ⟨l, al, hl⟩ := HLL.out
      obtain ⟨v, hv⟩ : ∃ v, l[i]? = some v := ⟨l[i]'(by omega), by simp⟩
      have k0 := al.cell hv
      have f0 := al.frozen i
      have HAL := hid al
      clear al hv HLL
      go_wp2
      go_round
      case rel =>
        refine ⟨i + 1, by simp, by omega, ⟨_, HAL.out.set i _, by simp [hl]⟩, HBW.out.setCell (p := ⟨b + 1, i, none⟩) (by show b ≤ b + 1; omega) _, ?_, by show _ ≤ _; simpa [World.setCell] using HZ.out⟩
        rcases HPV.out with h | ⟨h1, p, h2, h3, h4⟩
        · exact .inl h
        · exact .inr ⟨h1, p, h2, h3, h4.other _ (by omega)⟩
      case measure => simp [intOf]; omega
    · have hlt' : ¬ (i : Int) < n := by omega
      rcases HPV.out with ⟨h1, rfl⟩ | ⟨h1, p, rfl, h3, h4⟩
      · have h1b : (L.2 != 0) = true := by simpa using h1
        go_wp2
        go_ret2
        exact ⟨.inl ⟨h1, rfl⟩, HBW.out⟩
      · have HW := hid h4
        clear h4
        rw [h1]
        go_wp2
        go_ret2
        refine ⟨.inr ⟨h1, wr.heap.size, p, t, rfl, ⟨Arr.newL _ _ _, HW.out.alloc _, by have := HZ.out; omega, by omega, by have := HW.out.lt; omega⟩, HTT.out⟩, HBW.out.alloc (by have := HZ.out; omega) _⟩

end Go.Proofs.YthdcceackfdbbaaGreatDoor
/- Own text: the law's own: next, Writes. -/
namespace Go.Proofs.YthdcceackfdbbaaGreatDoor
open Go Go.RowKit

set_option maxRecDepth 20000 in
set_option maxHeartbeats 4000000 in
theorem lnext_any (w : World) (B q p : Nat) (rest : ByteArray) (most : Int) (hs : Scribe w B q p rest) (hr : rest.size ≤ 1000000) (hB : B ≤ w.heap.size) :
    Calls Tryz.prog 10 #[.pointer (some ⟨q, 0, none⟩), .int .i64 most] w fun e w' => e = .returned (.bool true) ∧ ∃ rest' : ByteArray, rest'.size ≤ 1000000 ∧ Scribe w' B q p rest' ∧ Below B w w' := by
  have hqp := hs.ne
  have hqB := hs.hq
  have hpB := hs.hp
  have c0 := hs.s.cell (i := 0) rfl
  have HS := hid hs
  clear hs
  have HN := hid (next_any w p rest most HS.out.w (by omega))
  obtain ⟨m, hm⟩ : ∃ m : Nat, min most.toNat rest.size = m := ⟨_, rfl⟩
  rw [hm] at HN
  go_enter Tryz.func10, Tryz.ntmps10
  go_wp2_with fail
  refine HN.out.mono ?_
  rintro e W ⟨rfl, W1, b1, rfl⟩
  have s1 : Arr (W1.setCell ⟨p, 0, none⟩ (.string (rest.extract m rest.size))) q 81 [.pointer (some ⟨p, 0, none⟩), .string rest] := (HS.out.s.belowAll b1).other _ (Ne.symm hqp)
  have w1 : Arr (W1.setCell ⟨p, 0, none⟩ (.string (rest.extract m rest.size))) p 101 [.string (rest.extract m rest.size)] := (HS.out.w.belowAll b1).set 0 _
  have bb : Below B w (W1.setCell ⟨p, 0, none⟩ (.string (rest.extract m rest.size))) := (b1.mono hB).setCell (p := ⟨p, 0, none⟩) hpB _
  generalize W1.setCell ⟨p, 0, none⟩ (.string (rest.extract m rest.size)) = W2 at *
  clear b1 HN c0 HS
  have k1 := s1.cell (i := 1) rfl
  have f1 := s1.frozen 1
  have HS1 := hid s1
  have HW1 := hid w1
  have HBB := hid bb
  clear s1 w1 bb
  have fin : Hid (∃ rest' : ByteArray, rest'.size ≤ 1000000 ∧ Scribe (W2.setCell ⟨q, 1, none⟩ (.string (rest.extract m rest.size))) B q p rest' ∧ Below B w (W2.setCell ⟨q, 1, none⟩ (.string (rest.extract m rest.size)))) :=
    ⟨rest.extract m rest.size, by rw [ByteArray.size_extract]; omega, ⟨HS1.out.set 1 _, HW1.out.other _ hqp, hqB, hpB, hqp⟩, HBB.out.setCell (p := ⟨q, 1, none⟩) hqB _⟩
  by_cases h1 : (rest.size : Int) < most
  · have hm1 : m = rest.size := by omega
    have h2 : ¬ ((rest.size : Int) < 0) := by omega
    subst hm1
    go_wp2
    go_ret
    exact ⟨by simp, by have := fin.out; simpa using this⟩
  · by_cases h2 : most < 0
    · have hm1 : m = 0 := by omega
      subst hm1
      go_wp2
      go_ret
      exact ⟨by simp, by have := fin.out; simpa using this⟩
    · have hm1 : most = (m : Int) := by omega
      subst hm1
      go_wp2
      go_ret
      exact ⟨by simp, fin.out⟩

/-- a row of integers that came in -/
def IntsAt (w : World) (ao : Option Addr) (zs : List Int) : Prop := ∀ (k : Nat) (x : Int), zs[k]? = some x → ∃ ad : Addr, ao = some ad ∧ ad.block < w.heap.size ∧ w.cell? (ad.add k) = some (.int .i64 x)

theorem IntsAt.below {w w' : World} {ao : Option Addr} {zs : List Int} (h : IntsAt w ao zs) (b : Below w.heap.size w w') : IntsAt w' ao zs := fun k x hk => by
  obtain ⟨ad, h2, h3, h4⟩ := h k x hk
  exact ⟨ad, h2, Nat.lt_of_lt_of_le h3 b.size, (b.cell (p := ad.add k) (by rw [Go.ChangeShapes.block_add]; exact h3)).trans h4⟩

set_option maxRecDepth 20000 in
set_option maxHeartbeats 4000000 in
theorem writes_law (w : World) (R C off rs cs kind : Int) (ao : Option Addr) (n cap : Nat) (xs : List Nat) (hn : xs.length = n) (hn1 : n ≤ 20000000000000) (hbuf : BufIs w ao xs) (htab : Lib.TabIs Tryz.prog w "internal/strconv.uint64pow10" .u64 Lib.pow10Tab)
    (so : Option Addr) (sn scap : Nat) (zs : List Int) (hsn : zs.length = sn) (hsn1 : sn ≤ 9223372036854775807) (hsz : IntsAt w so zs) :
    Calls Tryz.prog 3 #[.slice ao n cap, viewV R C off rs cs, .int .i64 kind, .slice so sn scap] w fun e w' => e = .returned (.bool true) ∧ Below w.heap.size w w' := by
  obtain ⟨b, hb⟩ : ∃ b, w.heap.size = b := ⟨_, rfl⟩
  have HFL : Hid ((fileL xs R C off rs cs kind).1.length ≤ 1000000) := fileL_len hbuf.lt (fun x hx => prL_ok htab hx)
  have HZS := hid hsz
  obtain ⟨V, hV⟩ : ∃ V, w.alloc (.cells #[.int .i64 R, .int .i64 C, .int .i64 off, .int .i64 rs, .int .i64 cs] 24) = V := ⟨_, rfl⟩
  have bV : Below b w V := by rw [← hV, ← hb]; exact Below.refl' _ _
  have zV : V.heap.size = b + 1 := by rw [← hV]; simp [hb]
  have HW := hid (written_any V R C off rs cs kind ao n cap xs hn hn1 (hbuf.below (hb ▸ bV)) (tab_below htab (hb ▸ bV)))
  obtain ⟨L, hL⟩ : ∃ L, fileL xs R C off rs cs kind = L := ⟨_, rfl⟩
  rw [hL] at HW HFL
  rw [zV] at HW
  have HV := hid hV
  have HBV := hid bV
  have HZV := hid zV
  clear hbuf htab hsz hV bV zV hL
  unfold viewV at HW ⊢
  rw [hb]
  go_enter Tryz.func3, Tryz.ntmps3
  go_wp2_with fail
  rw [HV.out]
  refine HW.out.mono ?_
  rintro e W1 ⟨hwr, b1⟩
  have HB1 := hid (HBV.out.trans (b1.mono (by omega)))
  have HZ1 : Hid (b + 1 ≤ W1.heap.size) := by have := b1.size; have := HZV.out; show _ ≤ _; omega
  clear b1 HW HV
  rcases hwr with ⟨h0, rfl⟩ | ⟨h0, q, p, s, rfl, hs, hsl⟩
  · go_wp2
    go_ret
    exact ⟨rfl, HB1.out⟩
  · have hsz : s.size ≤ 1000000 := by rw [bytes_size hsl]; exact HFL.out
    have HS := hid hs
    clear hs hsl
    go_wp2
    go_loopw [11, 10] (fun vi _ wr => ∃ (i : Nat) (r : ByteArray), vi = .int .i64 (i : Int) ∧ i ≤ sn ∧ r.size ≤ 1000000 ∧ Hid (Scribe wr (b + 1) q p r) ∧ Hid (Below b w wr) ∧ Hid (b + 1 ≤ wr.heap.size)) (fun vi _ _ => sn - (intOf vi).toNat)
    case atStart => exact ⟨0, s, rfl, by omega, hsz, HS, HB1, HZ1⟩
    case round =>
      clear HS HB1 HZ1 hsz
      obtain ⟨i, r, rfl, hi, hr, HS, HB, HZ⟩ := hrel
      by_cases hlt : i < sn
      · have hlt' : (i : Int) < sn := by omega
        obtain ⟨z, hz⟩ : ∃ z, zs[i]? = some z := ⟨zs[i]'(by omega), by simp [hsn, hlt]⟩
        obtain ⟨ad, rfl, had, hc⟩ := HZS.out i z hz
        have hc1 : wr.cell? (ad.add i) = some (.int .i64 z) := (HB.out.cell (p := ad.add i) (by rw [Go.ChangeShapes.block_add]; omega)).trans hc
        have HN := hid (lnext_any wr (b + 1) q p r z HS.out hr HZ.out)
        clear hc hz
        go_wp2_with fail
        refine HN.out.mono ?_
        rintro e W2 ⟨rfl, r2, hr2, s2, b2⟩
        have HS2 := hid s2
        have HB2 := hid (HB.out.trans (b2.mono (by omega)))
        have HZ2 : Hid (b + 1 ≤ W2.heap.size) := by have := b2.size; have := HZ.out; show _ ≤ _; omega
        clear s2 b2 HN hc1 HS HB HZ
        go_wp2
        go_round
        case rel => exact ⟨i + 1, r2, by simp, by omega, hr2, HS2, HB2, HZ2⟩
        case measure => simp [intOf]; omega
      · have hlt' : ¬ (i : Int) < sn := by omega
        have HN := hid (lnext_any wr (b + 1) q p r 4611686018427387904 HS.out hr HZ.out)
        go_wp2_with fail
        refine HN.out.mono ?_
        rintro e W2 ⟨rfl, r2, hr2, s2, b2⟩
        have HB2 := hid (HB.out.trans (b2.mono (by omega)))
        have HN2 := hid (lnext_any W2 (b + 1) q p r2 1 s2 hr2 (by have := b2.size; have := HZ.out; omega))
        clear s2 b2 HN HS HB HZ
        go_wp2_with fail
        refine HN2.out.mono ?_
        rintro e W3 ⟨rfl, r3, hr3, s3, b3⟩
        have HB3 := hid (HB2.out.trans (b3.mono (by omega)))
        clear s3 b3 HN2 HB2
        go_wp2
        go_ret
        exact ⟨rfl, HB3.out⟩

end Go.Proofs.YthdcceackfdbbaaGreatDoor
