import Derived.Test.YthdcceackfdbbaaGreatDoorM29K
import Derived.Test.YthdcceackfdbbaaGreatDoorM30K
import Derived.Test.YthdcceackfdbbaaGreatDoorM31K
import Derived.Test.YthdcceackfdbbaaGreatDoorM09K

/- Own text: the law's own: pick, read. -/
namespace Go.Proofs.YthdcceackfdbbaaGreatDoor
open Go Go.RowKit

set_option maxHeartbeats 400000 in
theorem kpick (w : World) (c n : Int) (h1 : -9223372036854775808 ≤ c) (h2 : c ≤ 9223372036854775807) (hn : 0 < n) (hn2 : n ≤ 9223372036854775807) :
    Calls Tryz.prog 16 #[.int .i64 c, .int .i64 n] w fun e w' => (∃ k : Nat, e = .returned (.int .i64 (k : Int)) ∧ (k : Int) < n) ∧ w' = w := by
  by_cases hc : c < 0
  · go_enter Tryz.func16, Tryz.ntmps16
    go_wp2
    go_ret
    have e1 : (c + 1).tmod n = -(-(c + 1) % n) := by
      rw [← Int.tmod_eq_emod_of_nonneg (by omega : 0 ≤ -(c + 1)), Int.neg_tmod, Int.neg_neg]
    have e2 := Int.emod_nonneg (-(c + 1)) (by omega : n ≠ 0)
    have e3 := Int.emod_lt_of_pos (-(c + 1)) hn
    exact ⟨⟨(-(c + 1) % n).toNat, ret_int (by rw [e1]; omega), by omega⟩, rfl⟩
  · go_enter Tryz.func16, Tryz.ntmps16
    go_wp2
    go_ret
    refine ⟨⟨(c % n).toNat, ret_int ?_, ?_⟩, rfl⟩
    · have := Int.emod_nonneg c (by omega : n ≠ 0); omega
    · have := Int.emod_nonneg c (by omega : n ≠ 0); have := Int.emod_lt_of_pos c hn; omega

def shpV (R C k : Nat) : Value := .agg #[.int .i64 (R : Int), .int .i64 (C : Int), .int .i64 (k : Int)]

/-- what read answers -/
def ReadR (w : World) (l : List UInt8) (e : Ending) (w' : World) : Prop :=
  Below w.heap.size w w' ∧
  (((feedS .begin l).1 ≠ 0 ∧ e = .returned (.tuple #[.pointer none, shpV 0 0 0, .bool false])) ∨
   ((feedS .begin l).1 = 0 ∧ ∃ (p : Nat) (Sf : Nat → Prop), e = .returned (.tuple #[.pointer (some ⟨p, 0, none⟩), shpV (endS (feedS .begin l).2).1.1 (endS (feedS .begin l).2).1.2.1 (endS (feedS .begin l).2).1.2.2, .bool ((endS (feedS .begin l).2).2.1 == 0)]) ∧
      w.heap.size ≤ p ∧ (∀ q, Sf q → w.heap.size ≤ q) ∧ ReadIs w' p Sf (endS (feedS .begin l).2).2.2))

theorem piece_list {x : ByteArray} {k e : Nat} : (x.extract k e).data.toList = (x.data.toList.drop k).take (e - k) := ext_list x k e

/-- a piece more -/
theorem feed_piece {l : List UInt8} {k e : Nat} {s : RSt} (h : feedS .begin (l.take k) = (0, s)) (hk : k ≤ e) : feedS .begin (l.take e) = feedS s ((l.drop k).take (e - k)) := by
  have e1 : l.take e = l.take k ++ (l.drop k).take (e - k) := by
    have := List.take_add (l := l) (i := k) (j := e - k)
    rw [show k + (e - k) = e by omega] at this
    exact this
  rw [e1, feedS_app, h]

set_option maxRecDepth 20000 in
set_option maxHeartbeats 4000000 in
theorem kread_any (w : World) (x : ByteArray) (n piece : Nat) (hn : x.size = n) (hn1 : n ≤ 281474976710656) (hp1 : 1 ≤ piece) (hp2 : piece ≤ 1000000) :
    Calls Tryz.prog 19 #[.string x, .int .i64 (piece : Int)] w fun e w' => ReadR w x.data.toList e w' := by
  have hmix : Tryz.prog.follows .mixedOrders = true := by kernel_rfl
  obtain ⟨b, hb⟩ : ∃ b, w.heap.size = b := ⟨_, rfl⟩
  have rX : Arr (w.alloc (.cells #[.int .i64 0, .int .i64 0, .int .i64 0] 62)) b 62 [.int .i64 0, .int .i64 0, .int .i64 0] := by rw [← hb]; exact Arr.newL _ _ _
  have bX : Below b w (w.alloc (.cells #[.int .i64 0, .int .i64 0, .int .i64 0] 62)) := by rw [← hb]; exact Below.refl' _ _
  have zX : (w.alloc (.cells #[.int .i64 0, .int .i64 0, .int .i64 0] 62)).heap.size = b + 1 := by simp [hb]
  obtain ⟨X, hX⟩ : ∃ X, w.alloc (.cells #[.int .i64 0, .int .i64 0, .int .i64 0] 62) = X := ⟨_, rfl⟩
  rw [hX] at rX bX zX
  have HRX := hid rX
  have HBX := hid bX
  have HZX := hid zX
  have HN := hid hn
  have hxl : x.data.toList.length = n := by rw [← hn]; exact (bytes_size rfl).symm
  have HXL := hid hxl
  clear rX bX zX hn hxl
  obtain ⟨p, hp⟩ : ∃ p, X.heap.size = p := ⟨_, rfl⟩
  have hnr := newReader_any X
  rw [hp] at hnr
  have HNR := hid hnr
  have HPB : Hid (p = b + 1) := by show _ = _; rw [← hp, HZX.out]
  clear hnr hp
  go_enter Tryz.func19, Tryz.ntmps19
  go_wp2_with fail
  clear hX
  refine HNR.out.mono ?_
  rintro e W1 ⟨rfl, b1, hr⟩
  have HB1 : Hid (Below b w W1) := (HBX.out.trans (b1.mono (by have := HPB.out; omega)))
  have HR1 : Hid (Arr W1 b 62 [.int .i64 0, .int .i64 0, .int .i64 0]) := (b1.block b (by have := HPB.out; omega)).trans HRX.out
  have HRD := hid hr
  have HBW : Hid (b = w.heap.size) := hb.symm
  clear hr b1 HNR HBX HRX HZX hb
  go_wp2_with fail
  go_loopw [8] (fun i wr => ∃ (k : Nat) (s : RSt) (Sk : Nat → Prop), k ≤ n + 1000000 ∧ i = .int .i64 (k : Int) ∧ Hid (feedS .begin (x.data.toList.take k) = (0, s)) ∧ Hid (ReadIs wr p Sk s) ∧ Hid (∀ q, Sk q → p < q) ∧ Hid (Below b w wr) ∧ Hid (Arr wr b 62 [.int .i64 0, .int .i64 0, .int .i64 0])) (fun i _ => n - (intOf i).toNat)
  case atStart => exact ⟨0, .begin, fun _ => False, by omega, rfl, by show _ = _; rw [List.take_zero]; exact feedS_nil, HRD, fun q h => h.elim, HB1, HR1⟩
  case round =>
    obtain ⟨k, s, Sk, hk, rfl, HF, HR, HS, HB, HZ⟩ := hrel
    have hns := HN.out
    by_cases hlt : k < n
    · have hlt' : (k : Int) < (x.size : Int) := by omega
      have hkx : k ≤ x.size := by omega
      by_cases hen : n < k + piece
      · have hen' : (x.size : Int) < (k : Int) + (piece : Int) := by omega
        have hfd := feed_any wr p Sk s (x.extract k x.size) (by rw [bytes_size piece_list]; unfold maxLen; simp; omega) HR.out
        rw [piece_list, ← feed_piece HF.out (by omega)] at hfd
        have HFD := hid hfd
        have HT : Hid (x.data.toList.take x.size = x.data.toList) := by show _ = _; exact List.take_of_length_le (by rw [HXL.out]; omega)
        clear hfd hns
        go_wp2_with fail
        refine HFD.out.mono ?_
        rintro e W2 ⟨rfl, hk2, S2, hS2, hR2⟩
        obtain ⟨⟨er, s2⟩, hes⟩ : ∃ r : Int × RSt, feedS .begin (x.data.toList.take x.size) = r := ⟨_, rfl⟩
        rw [hes] at hR2 ⊢
        simp only at hR2 ⊢
        have HB2 : Hid (Below b w W2) := HB.out.trans (hk2.below (fun q hq => by
          have := HPB.out
          rcases hq with rfl | hq
          · omega
          · have := HS.out q hq; omega) (by have := HB.out.size; have := HBW.out; omega))
        have hZ2 : Arr W2 b 62 [.int .i64 0, .int .i64 0, .int .i64 0] := hk2.arr HZ.out (fun hq => by
          have := HPB.out
          rcases hq with hq | hq
          · omega
          · have := HS.out b hq; omega)
        have HS2 : Hid (∀ q, S2 q → p < q) := fun q hq => by
          rcases hS2 q hq with h | h
          · exact HS.out q h
          · have := HR.out.ptr_lt; omega
        have HES := hid hes
        have HR2 := hid hR2
        clear hes hR2 hS2 HFD hk2
        by_cases he : er = 0
        · subst he
          have HZ2 := hid hZ2
          clear hZ2
          go_wp2
          go_round
          case rel => exact ⟨k + piece, s2, S2, by omega, by simp, by have h := HES.out; rw [HT.out] at h; show _ = _; rw [List.take_of_length_le (by rw [HXL.out]; omega)]; exact h, HR2, HS2, HB2, HZ2⟩
          case measure => simp [intOf]; omega
        · have c0 := hZ2.cell (i := 0) rfl
          have f0 := hZ2.frozen 0
          have z1 := hZ2.set 0 (.int .i64 0)
          have c1 := z1.cell (i := 1) rfl
          have f1 := z1.frozen 1
          have z2 := z1.set 1 (.int .i64 0)
          have c2 := z2.cell (i := 2) rfl
          have f2 := z2.frozen 2
          have z3 := z2.set 2 (.int .i64 0)
          have d0 := z3.cell (i := 0) rfl
          have d1 := z3.cell (i := 1) rfl
          have d2 := z3.cell (i := 2) rfl
          have hfin : Hid (ReadR w x.data.toList (.returned (.tuple #[.pointer none, shpV 0 0 0, .bool false])) (((W2.setCell ⟨b, 0, none⟩ (.int .i64 0)).setCell ⟨b, 1, none⟩ (.int .i64 0)).setCell ⟨b, 2, none⟩ (.int .i64 0))) := by
            refine ⟨?_, .inl ⟨?_, rfl⟩⟩
            · rw [← HBW.out]
              exact ((HB2.out.setCell (p := ⟨b, 0, none⟩) (Nat.le_refl _) _).setCell (p := ⟨b, 1, none⟩) (Nat.le_refl _) _).setCell (p := ⟨b, 2, none⟩) (Nat.le_refl _) _
            · have h1 : feedS .begin x.data.toList = (er, .failed er) := by
                conv => lhs; rw [← List.take_append_drop x.size x.data.toList]
                exact feedS_begin_err (by rw [HES.out]) he
              rw [h1]; exact he
          clear hZ2 z1 z2 z3 HES HR2 HS2 HB2
          go_wp2
          refine bodyPost_ret (v := .tuple #[.pointer none, .agg #[.int .i64 0, .int .i64 0, .int .i64 0], .bool false]) ?_ rfl hfin.out
          simp [results, Tryz.results19, go_sem, d0, d1, d2]
      · have hen' : ¬ (x.size : Int) < (k : Int) + (piece : Int) := by omega
        have hfd := feed_any wr p Sk s (x.extract k (k + piece)) (by rw [bytes_size piece_list]; unfold maxLen; simp; omega) HR.out
        rw [piece_list, ← feed_piece HF.out (by omega)] at hfd
        have HFD := hid hfd
        clear hfd hns
        go_wp2_with fail
        refine HFD.out.mono ?_
        rintro e W2 ⟨rfl, hk2, S2, hS2, hR2⟩
        obtain ⟨⟨er, s2⟩, hes⟩ : ∃ r : Int × RSt, feedS .begin (x.data.toList.take (k + piece)) = r := ⟨_, rfl⟩
        rw [hes] at hR2 ⊢
        simp only at hR2 ⊢
        have HB2 : Hid (Below b w W2) := HB.out.trans (hk2.below (fun q hq => by
          have := HPB.out
          rcases hq with rfl | hq
          · omega
          · have := HS.out q hq; omega) (by have := HB.out.size; have := HBW.out; omega))
        have hZ2 : Arr W2 b 62 [.int .i64 0, .int .i64 0, .int .i64 0] := hk2.arr HZ.out (fun hq => by
          have := HPB.out
          rcases hq with hq | hq
          · omega
          · have := HS.out b hq; omega)
        have HS2 : Hid (∀ q, S2 q → p < q) := fun q hq => by
          rcases hS2 q hq with h | h
          · exact HS.out q h
          · have := HR.out.ptr_lt; omega
        have HES := hid hes
        have HR2 := hid hR2
        clear hes hR2 hS2 HFD hk2
        by_cases he : er = 0
        · subst he
          have HZ2 := hid hZ2
          clear hZ2
          go_wp2
          go_round
          case rel => exact ⟨k + piece, s2, S2, by omega, by simp, HES, HR2, HS2, HB2, HZ2⟩
          case measure => simp [intOf]; omega
        · have c0 := hZ2.cell (i := 0) rfl
          have f0 := hZ2.frozen 0
          have z1 := hZ2.set 0 (.int .i64 0)
          have c1 := z1.cell (i := 1) rfl
          have f1 := z1.frozen 1
          have z2 := z1.set 1 (.int .i64 0)
          have c2 := z2.cell (i := 2) rfl
          have f2 := z2.frozen 2
          have z3 := z2.set 2 (.int .i64 0)
          have d0 := z3.cell (i := 0) rfl
          have d1 := z3.cell (i := 1) rfl
          have d2 := z3.cell (i := 2) rfl
          have hfin : Hid (ReadR w x.data.toList (.returned (.tuple #[.pointer none, shpV 0 0 0, .bool false])) (((W2.setCell ⟨b, 0, none⟩ (.int .i64 0)).setCell ⟨b, 1, none⟩ (.int .i64 0)).setCell ⟨b, 2, none⟩ (.int .i64 0))) := by
            refine ⟨?_, .inl ⟨?_, rfl⟩⟩
            · rw [← HBW.out]
              exact ((HB2.out.setCell (p := ⟨b, 0, none⟩) (Nat.le_refl _) _).setCell (p := ⟨b, 1, none⟩) (Nat.le_refl _) _).setCell (p := ⟨b, 2, none⟩) (Nat.le_refl _) _
            · have h1 : feedS .begin x.data.toList = (er, .failed er) := by
                conv => lhs; rw [← List.take_append_drop (k + piece) x.data.toList]
                exact feedS_begin_err (by rw [HES.out]) he
              rw [h1]; exact he
          clear hZ2 z1 z2 z3 HES HR2 HS2 HB2
          go_wp2
          refine bodyPost_ret (v := .tuple #[.pointer none, .agg #[.int .i64 0, .int .i64 0, .int .i64 0], .bool false]) ?_ rfl hfin.out
          simp [results, Tryz.results19, go_sem, d0, d1, d2]
    · have hlt' : ¬ (k : Int) < (x.size : Int) := by omega
      clear hns
      have hall : Hid (feedS .begin x.data.toList = (0, s)) := by
        have h := HF.out
        rw [List.take_of_length_le (by rw [HXL.out]; omega)] at h
        exact h
      have hen := rend_any wr p Sk s HR.out
      obtain ⟨⟨⟨R, C, kd⟩, er, s'⟩, hes⟩ : ∃ r, endS s = r := ⟨_, rfl⟩
      rw [hes] at hen
      simp only at hen
      have HEN := hid hen
      have HES := hid hes
      clear hen hes
      go_wp2_with fail
      refine HEN.out.mono ?_
      rintro e W2 ⟨rfl, hk2, S2, hS2, hR2⟩
      have hb2 : Below b w W2 := HB.out.trans (hk2.below (fun q hq => by
          have := HPB.out
          rcases hq with rfl | hq
          · omega
          · have := HS.out q hq; omega) (by have := HB.out.size; have := HBW.out; omega))
      have hZ2 : Arr W2 b 62 [.int .i64 0, .int .i64 0, .int .i64 0] := hk2.arr HZ.out (fun hq => by
          have := HPB.out
          rcases hq with hq | hq
          · omega
          · have := HS.out b hq; omega)
      have HS2 : Hid (∀ q, S2 q → p < q) := fun q hq => by
          rcases hS2 q hq with h | h
          · exact HS.out q h
          · have := HR.out.ptr_lt; omega
      have hp2 := hR2.ptr_lt
      obtain ⟨c, hc⟩ : ∃ c, W2.heap.size = c := ⟨_, rfl⟩
      have hbc : b < c := by have := hZ2.lt; omega
      have aV : Arr (W2.alloc (.cells #[.int .i64 (R : Int), .int .i64 (C : Int), .int .i64 (kd : Int)] 62)) c 62 [.int .i64 (R : Int), .int .i64 (C : Int), .int .i64 (kd : Int)] := by rw [← hc]; exact Arr.newL _ _ _
      have bV : Below c W2 (W2.alloc (.cells #[.int .i64 (R : Int), .int .i64 (C : Int), .int .i64 (kd : Int)] 62)) := by rw [← hc]; exact Below.refl' _ _
      have HAV := hid aV
      have HBV := hid bV
      have HB2 := hid hb2
      have HZ2 := hid hZ2
      have HR2 := hid hR2
      have HC := hid hc
      clear aV bV hb2 hZ2 hR2 hS2 hk2 HEN hc
      go_wp2_with fail
      rw [HC.out]
      have rD : Arr (W2.alloc (.cells #[.int .i64 (R : Int), .int .i64 (C : Int), .int .i64 (kd : Int)] 62)).drew b 62 [.int .i64 0, .int .i64 0, .int .i64 0] := Arr.drew (w := W2.alloc (.cells #[.int .i64 (R : Int), .int .i64 (C : Int), .int .i64 (kd : Int)] 62)) ((HBV.out.block b hbc).trans HZ2.out)
      have hSS := HAV.out.drew
      have hbD : Below b w (W2.alloc (.cells #[.int .i64 (R : Int), .int .i64 (C : Int), .int .i64 (kd : Int)] 62)).drew := (HB2.out.trans (HBV.out.mono (by omega))).drew
      have hrD : ReadIs (W2.alloc (.cells #[.int .i64 (R : Int), .int .i64 (C : Int), .int .i64 (kd : Int)] 62)).drew p S2 s' := HR2.out.frame (fun q hq => HBV.out.block q (by
        have := HC.out
        rcases hq with rfl | hq
        · omega
        · have := HR2.out.lt q hq; omega)) HBV.out.size
      clear HAV HBV HB2 HZ2 HR2
      refine wp_region_held (S := fun W' => Arr W' c 62 [.int .i64 (R : Int), .int .i64 (C : Int), .int .i64 (kd : Int)]) hmix ?_
      change wpAnyH _ _ _ _ _ _ _ _ (W2.alloc (.cells #[.int .i64 (R : Int), .int .i64 (C : Int), .int .i64 (kd : Int)] 62)).drew
      generalize (W2.alloc (.cells #[.int .i64 (R : Int), .int .i64 (C : Int), .int .i64 (kd : Int)] 62)).drew = Y at *
      refine wpAnyH_take (i := 0) (v := .pointer (some ⟨p, 0, none⟩)) rfl (by kernel_rfl) (by kernel_rfl) (by kernel_rfl) (fun _ _ _ h => h) (Or.inl ⟨by rfl, fun W' hS => ?_⟩) hSS ?_
      · clear hS
        go_simp
      simp only [Act.put]
      refine wpAnyH_take (i := 1) (v := .agg #[.int .i64 (R : Int), .int .i64 (C : Int), .int .i64 (kd : Int)]) rfl (by kernel_rfl) (by kernel_rfl) (by kernel_rfl) (fun _ _ _ h => h) (Or.inl ⟨by rfl, fun W' hS => ?_⟩) hSS ?_
      · have q0 := hS.cell (i := 0) rfl
        have q1 := hS.cell (i := 1) rfl
        have q2 := hS.cell (i := 2) rfl
        clear hS
        go_simp
      simp only [Act.put]
      refine wpAnyH_take (i := 2) (v := .int .i64 er) rfl (by kernel_rfl) (by kernel_rfl) (by kernel_rfl) (fun _ _ _ h => h) (Or.inl ⟨by rfl, fun W' hS => ?_⟩) hSS ?_
      · clear hS
        go_simp
      simp only [Act.put]
      refine wpAnyH_take (i := 3) (v := .bool (er == 0)) rfl (by kernel_rfl) (by kernel_rfl) (by kernel_rfl) (fun _ _ _ h => h) (Or.inl ⟨by rfl, fun W' hS => ?_⟩) hSS ?_
      · clear hS
        go_simp
      simp only [Act.put]
      refine wpAnyH_take (i := 4) (v := .pointer (some ⟨p, 0, none⟩)) rfl (by kernel_rfl) (by kernel_rfl) (by kernel_rfl) (fun _ _ _ h => h) (Or.inl ⟨by rfl, fun W' hS => ?_⟩) hSS ?_
      · clear hS
        go_simp
      simp only [Act.put, List.getElem_toArray, List.getElem_cons_succ, List.getElem_cons_zero, List.setIfInBounds_toArray, List.set_cons_succ, List.set_cons_zero]
      have x0 := rD.cell (i := 0) rfl
      have y0 := rD.frozen 0
      have x1 := (rD.set 0 (.int .i64 (R : Int))).cell (i := 1) rfl
      have y1 := (rD.set 0 (.int .i64 (R : Int))).frozen 1
      have x2 := ((rD.set 0 (.int .i64 (R : Int))).set 1 (.int .i64 (C : Int))).cell (i := 2) rfl
      have y2 := ((rD.set 0 (.int .i64 (R : Int))).set 1 (.int .i64 (C : Int))).frozen 2
      have r3 := ((rD.set 0 (.int .i64 (R : Int))).set 1 (.int .i64 (C : Int))).set 2 (.int .i64 (kd : Int))
      refine wpAnyH_ready (rs := [5]) (by kernel_rfl) (by simp) ?_
      refine AllReadyH.cons rfl (fun K hKK => ?_) AllReadyH.nil
      go_simp
      have aZ : Arr (((Y.setCell ⟨b, 0, none⟩ (.int .i64 (R : Int))).setCell ⟨b, 1, none⟩ (.int .i64 (C : Int))).setCell ⟨b, 2, none⟩ (.int .i64 (kd : Int))) c 62 [.int .i64 (R : Int), .int .i64 (C : Int), .int .i64 (kd : Int)] := ((hSS.other _ (by omega)).other _ (by omega)).other _ (by omega)
      refine hKK.out _ _ aZ (fun hHeld => ?_)
      clear hKK hHeld
      refine wpAnyH_take (i := 6) (v := .bool (er == 0)) rfl (by kernel_rfl) (by kernel_rfl) (by kernel_rfl) (fun _ _ _ h => h) (Or.inl ⟨by rfl, fun W' hS => ?_⟩) aZ ?_
      · clear hS
        go_simp
      simp only [Act.put, List.getElem_toArray, List.getElem_cons_succ, List.getElem_cons_zero, List.setIfInBounds_toArray, List.set_cons_succ, List.set_cons_zero]
      refine wpAnyH_done (by kernel_rfl) ?_ _
      have d0 := r3.cell (i := 0) rfl
      have d1 := r3.cell (i := 1) rfl
      have d2 := r3.cell (i := 2) rfl
      have hb3 : Below b w (((Y.setCell ⟨b, 0, none⟩ (.int .i64 (R : Int))).setCell ⟨b, 1, none⟩ (.int .i64 (C : Int))).setCell ⟨b, 2, none⟩ (.int .i64 (kd : Int))) :=
        ((hbD.setCell (p := ⟨b, 0, none⟩) (Nat.le_refl _) _).setCell (p := ⟨b, 1, none⟩) (Nat.le_refl _) _).setCell (p := ⟨b, 2, none⟩) (Nat.le_refl _) _
      have kb : ∀ (W : World) (i : Nat) (v : Value), ReadIs W p S2 s' → ReadIs (W.setCell ⟨b, i, none⟩ v) p S2 s' := fun W i v h => h.frame (fun q hq => Below.heap_setCell _ _ _ _ (fun e => by
        have e' : q = b := e
        have := HPB.out
        rcases hq with hq | hq
        · omega
        · have := HS2.out q hq; omega)) (by simp [World.setCell])
      have hr3 := kb _ 2 (.int .i64 (kd : Int)) (kb _ 1 (.int .i64 (C : Int)) (kb _ 0 (.int .i64 (R : Int)) hrD))
      have hfin : Hid (ReadR w x.data.toList (.returned (.tuple #[.pointer (some ⟨p, 0, none⟩), .agg #[.int .i64 (R : Int), .int .i64 (C : Int), .int .i64 (kd : Int)], .bool (er == 0)])) (((Y.setCell ⟨b, 0, none⟩ (.int .i64 (R : Int))).setCell ⟨b, 1, none⟩ (.int .i64 (C : Int))).setCell ⟨b, 2, none⟩ (.int .i64 (kd : Int)))) := by
        refine ⟨by rw [← HBW.out]; exact hb3, .inr ?_⟩
        rw [hall.out]
        simp only
        rw [HES.out]
        exact ⟨trivial, p, S2, rfl, by have := HPB.out; have := HBW.out; omega, fun q hq => by have := HS2.out q hq; have := HPB.out; have := HBW.out; omega, hr3⟩
      clear hSS aZ rD hbD hrD hb3 kb hr3 r3 x0 x1 x2 y0 y1 y2 HES hall HF HR HS HB HZ HS2
      generalize ((Y.setCell ⟨b, 0, none⟩ (.int .i64 (R : Int))).setCell ⟨b, 1, none⟩ (.int .i64 (C : Int))).setCell ⟨b, 2, none⟩ (.int .i64 (kd : Int)) = Z at *
      go_wp2
      refine bodyPost_ret (v := .tuple #[.pointer (some ⟨p, 0, none⟩), .agg #[.int .i64 (R : Int), .int .i64 (C : Int), .int .i64 (kd : Int)], .bool (er == 0)]) ?_ rfl hfin.out
      simp [results, Tryz.results19, go_sem, d0, d1, d2]

end Go.Proofs.YthdcceackfdbbaaGreatDoor
/- Own text: the law Cut. -/
namespace Go.Proofs.YthdcceackfdbbaaGreatDoor
open Go Go.RowKit

/-- square, of every kind -/
theorem square_any (w : World) (ao : Option Addr) (n cap : Nat) (xs : List Nat) (hn : xs.length = n) (hn1 : n ≤ 20000000000000) (hbuf : BufIs w ao xs) (R C k : Nat) (hR : R ≤ 40) (hC : C ≤ 40) :
    Calls Tryz.prog 17 #[.slice ao n cap, .int .i64 (R : Int), .int .i64 (C : Int), .int .i64 (k : Int)] w fun e w' => ∃ (D : Nat) (mo : Option Addr) (mcap : Nat) (ys : List Nat), e = .returned (.tuple #[.slice mo (R * D) mcap, viewV R D 0 D 1]) ∧ D ≤ 40 ∧ (k = 1 ∨ k = 3 → D = R) ∧ (k = 1 ∨ k = 3 → ∀ i j, i < R → j < D → ys[i * D + j]? = ys[j * D + i]?) ∧ ys.length = R * D ∧ (∀ y ∈ ys, y < 18446744073709551616) ∧ BufIs w' mo ys ∧ (∀ ad, mo = some ad → w.heap.size ≤ ad.block) ∧ Below w.heap.size w w' := by
  have out : ∀ (D : Nat) (half : Bool) (e : Ending) (w' : World), D ≤ 40 → (k = 1 ∨ k = 3 → D = R) → (k = 1 ∨ k = 3 → half = true) → (∃ v ys, e = .returned (.tuple #[v, .agg (viewC R D).toArray]) ∧ SquareR w.heap.size R D half v ys w w') → ∃ (D : Nat) (mo : Option Addr) (mcap : Nat) (ys : List Nat), e = .returned (.tuple #[.slice mo (R * D) mcap, viewV R D 0 D 1]) ∧ D ≤ 40 ∧ (k = 1 ∨ k = 3 → D = R) ∧ (k = 1 ∨ k = 3 → ∀ i j, i < R → j < D → ys[i * D + j]? = ys[j * D + i]?) ∧ ys.length = R * D ∧ (∀ y ∈ ys, y < 18446744073709551616) ∧ BufIs w' mo ys ∧ (∀ ad, mo = some ad → w.heap.size ≤ ad.block) ∧ Below w.heap.size w w' := by
    rintro D half e w' hD hDR hh ⟨v, ys, rfl, hs⟩
    rcases hs.mem with ⟨rfl, h0⟩ | ⟨g, mcap, rfl, hg, L, hA, hL⟩
    · refine ⟨D, none, 0, ys, by rw [h0]; rfl, hD, hDR, fun h => hs.sym (hh h), hs.len, hs.lt, fun q x hq => ?_, (fun ad h => by cases h), hs.bel⟩
      have := (List.getElem?_eq_some_iff.1 hq).1
      have := hs.len
      omega
    · refine ⟨D, _, mcap, ys, rfl, hD, hDR, fun h => hs.sym (hh h), hs.len, hs.lt, fun q x hq => ⟨hs.lt x (List.mem_of_getElem? hq), ⟨g, 0, none⟩, rfl, hA.lt, ?_⟩, (fun ad h => by cases h; exact hg), hs.bel⟩
      have := hA.cell (hL q x hq)
      have e : (⟨g, 0, none⟩ : Addr).add q = ⟨g, q, none⟩ := by
        by_cases h : q = 0
        · subst h; simp [Addr.add]
        · simp [Addr.add, h]
      rw [e]; exact this
  by_cases h1 : k = 1 ∨ k = 3
  · exact (square_half w ao n cap xs hn hn1 hbuf R C k hR h1).mono (fun e w' h => out R true e w' hR (fun _ => rfl) (fun _ => rfl) h)
  · exact (square_plain w ao n cap xs hn hn1 hbuf R C k hR hC (by simp; omega) (by simp; omega)).mono (fun e w' h => out C false e w' hC (fun h => (h1 h).elim) (fun h => (h1 h).elim) h)


/-- a matrix of the laws, its file, and how that is read -/
structure MatR (b k R D : Nat) (mo : Option Addr) (ys : List Nat) (w w' : World) : Prop where
  hD : D ≤ 40
  len : ys.length = R * D
  lt : ∀ y ∈ ys, y < 18446744073709551616
  buf : BufIs w' mo ys
  own : ∀ ad, mo = some ad → b ≤ ad.block
  bel : Below b w w'

end Go.Proofs.YthdcceackfdbbaaGreatDoor
/- Walks: clean, Round. Own text. -/
namespace Go.Proofs.YthdcceackfdbbaaGreatDoor
open Go.RowKit

set_option maxRecDepth 5000 in
set_option maxHeartbeats 400000 in
theorem clean_any (w : World) (x : Nat) (hx : x < 18446744073709551616) :
    Calls Tryz.prog 21 #[.int .u64 (x : Int)] w fun e w' => e = .returned (.int .u64 ((cleanN x : Nat) : Int)) ∧ w' = w := by
  have h1 := and_inf hx
  have h2 := and_frac hx
  by_cases c1 : x / 4503599627370496 % 2048 = 2047
  · have b1 : (bits BinOp.and IntKind.u64 (x : Int) 9218868437227405312 == 9218868437227405312) = true := by rw [h1, c1]; rfl
    by_cases c2 : x % 4503599627370496 = 0
    · have b2 : (bits BinOp.and IntKind.u64 (x : Int) 4503599627370495 != 0) = false := by rw [h2, c2]; rfl
      clear h1 h2
      go_enter Tryz.func21, Tryz.ntmps21
      go_wp2
      go_ret
      refine ⟨ret_int ?_, rfl⟩
      rw [cleanN, if_neg (by omega)]
    · have b2 : (bits BinOp.and IntKind.u64 (x : Int) 4503599627370495 != 0) = true := by rw [h2]; simp; omega
      clear h1 h2
      go_enter Tryz.func21, Tryz.ntmps21
      go_wp2
      go_ret
      refine ⟨ret_int ?_, rfl⟩
      rw [cleanN, if_pos (by omega)]
      rfl
  · have b1 : (bits BinOp.and IntKind.u64 (x : Int) 9218868437227405312 == 9218868437227405312) = false := by rw [h1]; simp; omega
    clear h1 h2
    go_enter Tryz.func21, Tryz.ntmps21
    go_wp2
    go_ret
    refine ⟨ret_int ?_, rfl⟩
    rw [cleanN, if_neg (by omega)]

end Go.Proofs.YthdcceackfdbbaaGreatDoor
