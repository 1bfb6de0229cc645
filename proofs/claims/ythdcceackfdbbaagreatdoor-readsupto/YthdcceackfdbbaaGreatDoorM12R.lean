import Derived.Test.YthdcceackfdbbaaGreatDoorEeQR
import Derived.Test.YthdcceackfdbbaaGreatDoorM09R
import Derived.Test.YthdcceackfdbbaaGreatDoorM11R
import Derived.Test.YthdcceackfdbbaaGreatDoorM10R
import Derived.Laws.EntriesVeiled
import Derived.Deep.RegionHeld
namespace Go.Proofs.YthdcceackfdbbaaGreatDoor
open Go Go.RowKit
theorem take_snoc {l : List UInt8} {b : UInt8} {n : Nat} (h : n ≤ l.length) : (l ++ [b]).take n = l.take n := List.take_append_of_le_length h
theorem dt_snoc {l : List UInt8} {b : UInt8} {a n : Nat} (h : a + n ≤ l.length) : ((l ++ [b]).drop a).take n = (l.drop a).take n := by
  rw [List.drop_append_of_le_length (by omega), List.take_append_of_le_length (by rw [List.length_drop]; omega)]
theorem rowsB_snoc {l : List UInt8} {b : UInt8} (h : 14 ≤ l.length) : rowsB (l ++ [b]) = rowsB l := by unfold rowsB; rw [dt_snoc (by omega)]
theorem colsB_snoc {l : List UInt8} {b : UInt8} (h : 14 ≤ l.length) : colsB (l ++ [b]) = colsB l := by unfold colsB; rw [dt_snoc (by omega)]
theorem kindB_snoc {l : List UInt8} {b : UInt8} (h : 14 ≤ l.length) : kindB (l ++ [b]) = kindB l := by unfold kindB; rw [List.getElem?_append_left (by omega)]
theorem HeadOk.snoc {l : List UInt8} {b : UInt8} (h : HeadOk l) : HeadOk (l ++ [b]) := by
  have hl := h.len
  refine ⟨markOk_more h.mark (by omega), by simp; omega, ?_, by rw [rowsB_snoc hl]; exact h.hR, by rw [colsB_snoc hl]; exact h.hC⟩
  rw [dt_snoc (by omega), take_snoc (by omega)]; exact h.sum
theorem kindB_or (l : List UInt8) : kindB l = 4 ∨ kindB l = 5 := by unfold kindB; split <;> simp
theorem numB_numP {l : List UInt8} {M k : Nat} (h : 8 * k + 8 ≤ M) : numP ((l.drop 14).take M) k = numB l k := by
  unfold numP numB
  rw [take_drop_take _ _ _ _ h, List.drop_drop]
theorem boxE_full {l : List UInt8} (h : HeadOk l) (hl : l.length = 18 + 8 * (rowsB l * colsB l)) :
    boxE l = if valL ((l.drop 14).drop (8 * (rowsB l * colsB l))) ≠ sumL ((l.drop 14).take (8 * (rowsB l * colsB l))) then 12 else if ∃ k, k < rowsB l * colsB l ∧ canon (numB l k) ≠ numB l k then 1 else 0 := by
  have h1 := h.len
  have h2 := h.hR
  have h3 := h.hC
  have e : ((l.drop (14 + 8 * (rowsB l * colsB l))).take 4) = (l.drop 14).drop (8 * (rowsB l * colsB l)) := by
    rw [List.drop_drop, List.take_of_length_le (by rw [List.length_drop]; omega)]
  unfold boxE
  rw [if_neg (fun k => k h.mark), if_neg (by omega), if_neg (fun k => k h.sum), if_neg (by omega), if_neg (by omega), e]
  by_cases hs : valL ((l.drop 14).drop (8 * (rowsB l * colsB l))) ≠ sumL ((l.drop 14).take (8 * (rowsB l * colsB l)))
  · rw [if_pos hs, if_pos hs]
  · rw [if_neg hs, if_neg hs]
    by_cases hc : ∃ k, k < rowsB l * colsB l ∧ canon (numB l k) ≠ numB l k
    · rw [if_pos hc, if_pos hc]
    · rw [if_neg hc, if_neg hc, if_neg (by omega)]
set_option maxRecDepth 20000 in
set_option maxHeartbeats 1000000 in
theorem payload_step (w : World) (p : Nat) (S : Nat → Prop) (l : List UInt8) (b : UInt8) (held : Value) (g n R C kind : Nat) (hR : rowsB l = R) (hC : colsB l = C) (hkd : kindB l = kind) (hn : l.length - 14 = n) (hok : HeadOk l) (hl : n < 4 + 8 * (R * C)) (hS : S p) (hSg : S g)
    (ha : Arr w p 171 (boxC (stV 186 p) held kind R C (.slice (some ⟨g, 0, none⟩) (R * C) (R * C)) false)) (hr : RowIn w S 5 1 held n (u8s (l.drop 14))) (hg : Arr w g 65 (List.replicate (R * C) (.int .u64 0))) :
    Calls Tryz.prog 186 #[.pointer (some ⟨p, 0, none⟩), .int .u8 (b.toNat : Int)] w fun e w' => StepB w p S (l ++ [b]) e w' := by
  have hmf : ∀ (fn : Fn) (first cap : Array Value) (w : World), (Instr.makeFunc fn first cap).run Tryz.prog w = .ok (.func fn first cap) w := fun _ _ _ _ => rfl
  obtain ⟨i0, hi, hz0, hz1, hz2⟩ := info_parts Tryz.infoU8
  have hl14 := hok.len
  have hR40 : R ≤ 40 := by rw [← hR]; exact hok.hR
  have hC40 : C ≤ 40 := by rw [← hC]; exact hok.hC
  have hRC : R * C ≤ 40 * 40 := Nat.mul_le_mul hR40 hC40
  have HI := hid hi
  have HA := hid ha
  have HR := hid hr
  have HG := hid hg
  have hb8 := b.toNat_lt
  obtain ⟨l', hl'⟩ : ∃ l', l ++ [b] = l' := ⟨_, rfl⟩
  have HOK : Hid (HeadOk l') := by rw [← hl']; exact hok.snoc
  have HRD : Hid (rowsB l' = R) := by rw [← hl']; exact (rowsB_snoc hl14).trans hR
  have HCD : Hid (colsB l' = C) := by rw [← hl']; exact (colsB_snoc hl14).trans hC
  have HKD : Hid (kindB l' = kind) := by rw [← hl']; exact (kindB_snoc hl14).trans hkd
  have HK45 : Hid (kind = 4 ∨ kind = 5) := by rw [← hkd]; exact kindB_or l
  have hn' : l'.length = n + 15 := by rw [← hl', List.length_append, List.length_singleton]; omega
  obtain ⟨pl, hpl⟩ : ∃ pl, l'.drop 14 = pl := ⟨_, rfl⟩
  have HPL := hid hpl
  have hpln : pl.length = n + 1 := by rw [← hpl, List.length_drop]; omega
  have HU : Hid (u8s pl = u8s (l.drop 14) ++ [.int .u8 (b.toNat : Int)]) := by
    rw [← hpl, ← hl', List.drop_append_of_le_length hl14]; exact u8s_snoc _ b
  have HN := hid hn'
  have HPN := hid hpln
  rw [hl']
  obtain ⟨ao, cap, rfl, _, _⟩ := hr.shape
  have c1 := ha.cell (i := 1) rfl
  clear ha hr hi hn hn' hl' hpl hpln hg hR hC hkd hok hl14
  obtain ⟨M, hM⟩ : ∃ M, 8 * (R * C) = M := ⟨_, rfl⟩
  have hMi : 8 * (R : Int) * (C : Int) = (M : Int) := by rw [← hM]; simp [Int.mul_assoc]
  have HMD := hid hM
  rw [hM] at hl
  have hM2 : M ≤ 12800 := by omega
  have h8R : 8 * (R : Int) ≤ 320 := by omega
  clear hM
  obtain ⟨N, hNd⟩ : ∃ N, R * C = N := ⟨_, rfl⟩
  rw [hNd] at HA HG HMD hRC
  have HND := hid hNd
  clear hNd
  go_enter Tryz.func186, Tryz.ntmps186
  go_wp2_with (at_builtin; refine wpList_append_mine _ rfl _ _ 72 rfl S 5 i0 (.int .u8 0) 1 1 Tryz.underlying72 HI.out hz0 hz1 hz2 rfl (by decide) _ _ _ rfl (HR.out.below (Below.refl' _ _)) ⟨w.heap.size, 0, none⟩ 1 1 [.int .u8 (b.toNat : Int)] rfl rfl ?c1 ?c2 ?c3 ?c4 ?_)
  case c1 => exact cell_one_new _ _ _
  case c2 => intro u hu; simp at hu; subst hu; rfl
  case c3 => unfold maxLen; omega
  case c4 => omega
  · intro v' w2 hrow hgrow
    have a1 : Arr (w.alloc (.cells #[.int .u8 (b.toNat : Int)] 5)) p 171 (boxC (stV 186 p) (.slice ao n cap) kind R C (.slice (some ⟨g, 0, none⟩) N N) false) := HA.out.alloc _
    have a2 : Arr w2 p 171 (boxC (stV 186 p) (.slice ao n cap) kind R C (.slice (some ⟨g, 0, none⟩) N N) false) := grown_arr hgrow (HR.out.below (Below.refl' _ _)) a1 (by decide)
    have g2 : Arr w2 g 65 (List.replicate N (.int .u64 0)) := grown_arr hgrow (HR.out.below (Below.refl' _ _)) (HG.out.alloc _) (by decide)
    have hgp : g ≠ p := HG.out.ne HA.out (by decide)
    have kw : Kept S w w2 := (Kept.ofBelow (Below.refl' w _)).trans (Kept.grown hgrow (fun k hk => HR.out.own k hk)) (fun q h => .inl h)
    have d1 := a2.cell (i := 1) rfl
    have f1 := a2.frozen 1
    have hrow2 : RowIn w2 (fun q => S q ∨ w.heap.size + 1 ≤ q) 5 1 v' (n + 1) (u8s pl) := by
      rw [HU.out]; simpa using hrow
    obtain ⟨ao', cap', rfl, hca1, hca2⟩ := hrow.shape
    obtain ⟨W3, hW3⟩ : ∃ W3, w2.setCell ⟨p, 1, none⟩ (.slice ao' (n + 1) cap') = W3 := ⟨_, rfl⟩
    have a3 : Arr W3 p 171 (boxC (stV 186 p) (.slice ao' (n + 1) cap') kind R C (.slice (some ⟨g, 0, none⟩) N N) false) := by rw [← hW3]; exact a2.set 1 _
    have kw3 : Kept S w W3 := by rw [← hW3]; exact kw.trans (Kept.set hS _) (fun q h => .inl h)
    have row3 : RowIn W3 (fun q => S q ∨ w.heap.size + 1 ≤ q) 5 1 (.slice ao' (n + 1) cap') (n + 1) (u8s pl) := by rw [← hW3]; exact hrow2.set a2 (by decide) _
    have g3 : Arr W3 g 65 (List.replicate N (.int .u64 0)) := by rw [← hW3]; exact g2.other _ hgp
    have HW3 := hid hW3
    have HA3 := hid a3
    have HK3 := hid kw3
    have HR3 := hid row3
    have HG3 := hid g3
    have y1 := a3.cell (i := 1) rfl
    have y3 := a3.cell (i := 3) rfl
    have y4 := a3.cell (i := 4) rfl
    clear hrow hrow2 a1 a2 kw hgrow a3 kw3 row3 hW3 g2 g3
    go_wp2_with fail
    rw [HW3.out]
    by_cases hlt : n + 1 < M + 4
    · have hlt' : (n : Int) + 1 < (M : Int) + 4 := by omega
      go_quiet (fail)
      have HAd : Hid (Arr (W3.drewN nq) p 171 (boxC (stV 186 p) (.slice ao' (n + 1) cap') kind R C (.slice (some ⟨g, 0, none⟩) N N) false)) := HA3.out
      have HKd : Hid (Kept S w (W3.drewN nq)) := HK3.out.trans (Kept.drewN (S := S) nq) (fun q h => .inl h)
      have HRd : Hid (RowIn (W3.drewN nq) (fun q => S q ∨ w.heap.size + 1 ≤ q) 5 1 (.slice ao' (n + 1) cap') (n + 1) (u8s pl)) := HR3.out.keep (fun _ _ => rfl)
      have HGd : Hid (Arr (W3.drewN nq) g 65 (List.replicate N (.int .u64 0))) := HG3.out
      generalize W3.drewN nq = Wd at *
      clear HA3 HK3 HR3 HG3 HW3 y1 y3 y4
      go_wp2
      go_ret2
      have hlen : l'.length < 18 + 8 * (rowsB l' * colsB l') := by rw [HN.out, HRD.out, HCD.out, HND.out]; have := HMD.out; omega
      have hE : boxE l' = 0 := boxE_pay HOK.out hlen
      refine ⟨stV 186 p, by rw [hE]; rfl, ⟨_, _, _, .inl rfl⟩, HKd.out, ⟨_, HAd.out, rfl⟩, fun _ => ⟨.inl hS, .inr (.inr (.inl ⟨HOK.out, hlen, .slice ao' (n + 1) cap', g, ?_, ?_, ?_, .inl hSg⟩))⟩⟩
      · rw [HKD.out, HRD.out, HCD.out, HND.out]; exact HAd.out.set 0 _
      · rw [HPL.out, HN.out, show n + 15 - 14 = n + 1 by omega]
        exact (HRd.out.toPlus (by omega) (Nat.le_refl _)).set HAd.out (by decide) _
      · rw [HRD.out, HCD.out, HND.out]; exact HGd.out.other _ hgp
    · have hnM : n + 1 = M + 4 := by omega
      have HNM := hid hnM
      have hlt' : ¬ (n : Int) + 1 < (M : Int) + 4 := by omega
      have HSUB : Hid (n + 1 - 4 = M) := by show _ = _; omega
      clear hnM
      obtain ⟨ao2, cap2, e2, hc1, hc2, hby⟩ := RowIn.bytes (l := pl) (S := fun q => S q ∨ w.heap.size + 1 ≤ q) (w := W3) (by rw [HPN.out]; exact HR3.out)
      rw [HPN.out] at e2 hc1
      simp only [Value.slice.injEq] at e2
      obtain ⟨rfl, _, rfl⟩ := e2
      rcases hby with ⟨_, h0⟩ | ⟨g0, rfl, hbytes⟩
      · have := HPN.out; rw [h0] at this; cases this
      obtain ⟨_, cu, hcu⟩ := HR3.out.lt g0 rfl
      have h0 : Arr W3 g0 5 cu.toList := by unfold Arr; rw [Array.toArray_toList]; exact hcu
      have HH0 := hid h0
      have HBY := hid hbytes
      clear hcu h0 hbytes
      go_quiet (fail)
      have HAd : Hid (Arr (W3.drewN nq) p 171 (boxC (stV 186 p) (.slice (some ⟨g0, 0, none⟩) (n + 1) cap') kind R C (.slice (some ⟨g, 0, none⟩) N N) false)) := HA3.out
      have HKd : Hid (Kept S w (W3.drewN nq)) := HK3.out.trans (Kept.drewN (S := S) nq) (fun q h => .inl h)
      have HGd : Hid (Arr (W3.drewN nq) g 65 (List.replicate N (.int .u64 0))) := HG3.out
      have H0d : Hid (Arr (W3.drewN nq) g0 5 cu.toList) := HH0.out
      have HBd : Hid (BytesAt (W3.drewN nq) g0 0 pl) := HBY.out
      have yd : (W3.drewN nq).cell? ⟨p, 1, none⟩ = some (.slice (some ⟨g0, 0, none⟩) (n + 1) cap') := HA3.out.cell (i := 1) rfl
      generalize W3.drewN nq = Wd at *
      clear HA3 HK3 HR3 HG3 HW3 y1 y3 y4 HH0 HBY
      have hcs := cutSum_any Wd g0 cap' pl (by rw [HPN.out]; omega) (by rw [HPN.out]; omega) hc2 HBd.out
      rw [HPN.out, HSUB.out] at hcs
      have HCS := hid hcs
      have HSR : Hid (sumRight pl = decide (valL (pl.drop M) = sumL (pl.take M))) := by
        show _ = _
        unfold sumRight; rw [HPN.out, HSUB.out]
      clear hcs
      have hfull : boxE l' = if valL (pl.drop M) ≠ sumL (pl.take M) then 12 else if ∃ k, k < N ∧ canon (numB l' k) ≠ numB l' k then 1 else 0 := by
        have h := boxE_full HOK.out (by rw [HN.out, HRD.out, HCD.out, HND.out]; have := HMD.out; have := HNM.out; omega)
        rw [HRD.out, HCD.out, HND.out, HMD.out, HPL.out] at h
        exact h
      have HFU := hid hfull
      clear hfull
      go_wp2_with fail
      refine HCS.out.mono ?_
      rintro e W4 ⟨rfl, m4, hW4⟩
      have HA4 : Hid (Arr W4 p 171 (boxC (stV 186 p) (.slice (some ⟨g0, 0, none⟩) (n + 1) cap') kind R C (.slice (some ⟨g, 0, none⟩) N N) false)) := by rw [hW4]; exact HAd.out
      have HK4 : Hid (Kept S w W4) := by rw [hW4]; exact HKd.out.trans (Kept.drewN (S := S) m4) (fun q h => .inl h)
      have HG4 : Hid (Arr W4 g 65 (List.replicate N (.int .u64 0))) := by rw [hW4]; exact HGd.out
      have H04 : Hid (Arr W4 g0 5 cu.toList) := by rw [hW4]; exact H0d.out
      have HB4 : Hid (BytesAt W4 g0 0 pl) := by rw [hW4]; exact HBd.out
      clear hW4 HCS HAd HKd HGd H0d HBd yd
      by_cases hsum : valL (pl.drop M) = sumL (pl.take M)
      · have hsr : sumRight pl = true := by rw [HSR.out]; simpa using hsum
        rw [hsr]
        have HSU := hid hsum
        clear hsr hsum HSR
        have hptl : (pl.take M).length = 8 * (R * C) := by rw [List.length_take, HPN.out, HND.out, HMD.out]; have := HNM.out; omega
        have hf := fill_any W4 p S g g0 cap' kind R C (stV 186 p) (.slice (some ⟨g0, 0, none⟩) (n + 1) cap') false (pl.take M) cu.toList (List.replicate N (.int .u64 0)) HK45.out hR40 hC40 hSg
          (by rw [HND.out]; exact HA4.out) HG4.out (by rw [HND.out]; simp) H04.out (HB4.out.take M) hptl (by rw [hptl, HND.out, HMD.out]; have := HNM.out; omega) (by omega)
        rw [HND.out, HMD.out] at hf
        have HFI := hid hf
        clear hf hptl
        have hnum : ∀ k, k < N → numP (pl.take M) k = numB l' k := fun k hk => by
          have := HMD.out
          rw [← HPL.out]; exact numB_numP (by omega)
        have HNU := hid hnum
        clear hnum
        go_wp2_with fail
        refine HFI.out.mono ?_
        rintro e W5 ⟨k5, a5, hres⟩
        have HK5 : Hid (Kept S w W5) := HK4.out.trans k5 (fun q h => .inl h)
        have HA5 := hid a5
        clear k5 a5 HFI HA4 HK4 HG4 H04 HB4
        rcases hres with ⟨⟨q, hq, hqc⟩, rfl⟩ | ⟨hall, rfl, lg, ag, mg⟩
        · have hE : boxE l' = 1 := by
            rw [HFU.out, if_neg (fun h => h HSU.out), if_pos ⟨q, hq, by rw [← HNU.out q hq]; exact hqc⟩]
          clear hqc
          go_wp2
          go_ret2
          exact ⟨.nilFunc, by rw [hE]; rfl, ⟨default, default, default, .inr rfl⟩, HK5.out, ⟨_, HA5.out, rfl⟩, fun h => by rw [hE] at h; cases h⟩
        · have hE : boxE l' = 0 := by
            rw [HFU.out, if_neg (fun h => h HSU.out), if_neg (by rintro ⟨q, hq, hqc⟩; rw [← HNU.out q hq] at hqc; exact hqc (hall q hq))]
          have HE := hid hE
          have HAG := hid ag
          have HMG := hid mg
          clear hE ag mg hall
          have q1 := HA5.out.cell (i := 1) rfl
          have r1 := HA5.out.frozen 1
          have A6 := HA5.out.set 1 (.slice none 0 0)
          have q6 := A6.cell (i := 6) rfl
          have r6 := A6.frozen 6
          have HA6 := hid A6
          clear A6
          go_wp2
          go_ret2
          have A7 := HA6.out.set 6 (.bool true)
          have hK : Kept S w ((W5.setCell ⟨p, 1, none⟩ (.slice none 0 0)).setCell ⟨p, 6, none⟩ (.bool true)) :=
            (HK5.out.trans (Kept.set (S := S) hS _) (fun q h => .inl h)).trans (Kept.set (S := S) hS _) (fun q h => .inl h)
          have hgA : Arr (((W5.setCell ⟨p, 1, none⟩ (.slice none 0 0)).setCell ⟨p, 6, none⟩ (.bool true)).setCell ⟨p, 0, none⟩ (stV 217 p)) g 65 lg := ((HAG.out.other _ hgp).other _ hgp).other _ hgp
          refine ⟨stV 217 p, by rw [HE.out]; rfl, ⟨_, _, _, .inl rfl⟩, hK, ⟨_, A7, rfl⟩, fun _ => ⟨.inl hS, .inr (.inr (.inr ⟨HOK.out, ?_, HE.out, g, lg, ?_, hgA, ?_, .inl hSg⟩))⟩⟩
          · rw [HN.out, HRD.out, HCD.out, HND.out]; have := HMD.out; have := HNM.out; omega
          · rw [HKD.out, HRD.out, HCD.out, HND.out]; exact A7.set 0 _
          · rw [HRD.out, HCD.out]
            refine ⟨hgA.lt, fun i j hi hj => ?_⟩
            have hm := HMG.out.2 i j hi hj
            have e : fB l' i j = fP kind R C (pl.take M) i j := by
              have hlt1 : i * C + j < N := by rw [← HND.out]; exact idx_lt hi hj
              have hlt2 : j * R + i < N := by rw [← HND.out, Nat.mul_comm R C]; exact idx_lt hj hi
              unfold fB fP
              rw [HKD.out, HCD.out, HRD.out, HNU.out _ hlt1, HNU.out _ hlt2]
            rw [e, ← hm]
            exact World.cell?_of_block ((Below.heap_setCell _ _ _ _ (by simpa using hgp)).trans ((Below.heap_setCell _ _ _ _ (by simpa using hgp)).trans (Below.heap_setCell _ _ _ _ (by simpa using hgp))))
      · have hsr : sumRight pl = false := by rw [HSR.out]; simpa using hsum
        rw [hsr]
        have hE : boxE l' = 12 := by rw [HFU.out, if_pos hsum]
        clear hsr hsum HSR
        go_wp2
        go_ret2
        exact ⟨.nilFunc, by rw [hE]; rfl, ⟨default, default, default, .inr rfl⟩, HK4.out, ⟨_, HA4.out, rfl⟩, fun h => by rw [hE] at h; cases h⟩
end Go.Proofs.YthdcceackfdbbaaGreatDoor
namespace Go.Proofs.YthdcceackfdbbaaGreatDoor
open Go Go.RowKit
theorem numB_snoc {l : List UInt8} {b : UInt8} {k : Nat} (h : 14 + 8 * k + 8 ≤ l.length) : numB (l ++ [b]) k = numB l k := by unfold numB; rw [dt_snoc h]
theorem boxE_behind {l : List UInt8} {b : UInt8} (h : HeadOk l) (hl : l.length = 18 + 8 * (rowsB l * colsB l)) (h0 : boxE l = 0) : boxE (l ++ [b]) = 6 := by
  have hf := boxE_full h hl
  rw [h0] at hf
  have h14 := h.len
  have h' := h.snoc (b := b)
  have hs : ¬ valL ((l.drop 14).drop (8 * (rowsB l * colsB l))) ≠ sumL ((l.drop 14).take (8 * (rowsB l * colsB l))) := fun hs => by rw [if_pos hs] at hf; cases hf
  rw [if_neg hs] at hf
  have hc : ¬ ∃ k, k < rowsB l * colsB l ∧ canon (numB l k) ≠ numB l k := fun hc => by rw [if_pos hc] at hf; cases hf
  have h2 := h.hR
  have h3 := h.hC
  have hR := rowsB_snoc (b := b) h14
  have hC := colsB_snoc (b := b) h14
  unfold boxE
  rw [if_neg (fun k => k h'.mark), if_neg (by have := h'.len; omega), if_neg (fun k => k h'.sum), hR, hC, if_neg (by omega), if_neg (by rw [List.length_append, List.length_singleton]; omega)]
  rw [dt_snoc (by omega), dt_snoc (by omega), if_neg ?_, if_neg ?_, if_pos (by rw [List.length_append, List.length_singleton]; omega)]
  · rintro ⟨k, hk, hkc⟩
    rw [numB_snoc (by omega)] at hkc
    exact hc ⟨k, hk, hkc⟩
  · intro hh
    apply hs
    rw [List.drop_drop]
    rw [List.take_of_length_le (by rw [List.length_drop]; omega)] at hh
    exact hh
theorem behind_step (w : World) (p : Nat) (S : Nat → Prop) (l : List UInt8) (b : UInt8) (c : List Value) (hok : HeadOk l) (hl : l.length = 18 + 8 * (rowsB l * colsB l)) (h0 : boxE l = 0) (ha : Arr w p 171 c) (hc : c.length = 7) :
    Calls Tryz.prog 217 #[.pointer (some ⟨p, 0, none⟩), .int .u8 (b.toNat : Int)] w fun e w' => StepB w p S (l ++ [b]) e w' := by
  have hE := boxE_behind (b := b) hok hl h0
  have HE := hid hE
  have HA := hid ha
  clear hE ha hok hl h0
  go_enter Tryz.func217, Tryz.ntmps217
  go_wp2
  go_ret2
  exact ⟨.nilFunc, by rw [HE.out]; rfl, ⟨default, default, default, .inr rfl⟩, Kept.refl _ _, ⟨_, HA.out, hc⟩, fun h => by rw [HE.out] at h; cases h⟩
theorem BoxIs.mono {w : World} {p : Nat} {S T : Nat → Prop} {l : List UInt8} (h : BoxIs w p S l) (hT : ∀ q, S q → T q) : BoxIs w p T l := by
  obtain ⟨h0, h⟩ := h
  refine ⟨hT p h0, ?_⟩
  rcases h with ⟨h1, h2, held, h3, h4⟩ | ⟨h1, h2, h3, held, h4, h5⟩ | ⟨h1, h2, held, g, h3, h4, h5, h6⟩ | ⟨h1, h2, h3, g, v, h4, h5, h6, h7⟩
  · exact .inl ⟨h1, h2, held, h3, h4.mono hT⟩
  · exact .inr (.inl ⟨h1, h2, h3, held, h4, h5.mono hT⟩)
  · exact .inr (.inr (.inl ⟨h1, h2, held, g, h3, h4.mono hT, h5, hT g h6⟩))
  · exact .inr (.inr (.inr ⟨h1, h2, h3, g, v, h4, h5, h6, hT g h7⟩))
theorem BoxIs.kept {w w' : World} {p : Nat} {S : Nat → Prop} {l : List UInt8} (h : BoxIs w p S l) (hk : ∀ q, S q → w'.heap[q]? = w.heap[q]?) (hsz : w.heap.size ≤ w'.heap.size) : BoxIs w' p S l := by
  obtain ⟨h0, h⟩ := h
  refine ⟨h0, ?_⟩
  rcases h with ⟨h1, h2, held, h3, h4⟩ | ⟨h1, h2, h3, held, h4, h5⟩ | ⟨h1, h2, held, g, h3, h4, h5, h6⟩ | ⟨h1, h2, h3, g, v, h4, h5, h6, h7⟩
  · exact .inl ⟨h1, h2, held, (hk p h0).trans h3, h4.keep (fun g hg => hk g (h4.own g hg))⟩
  · exact .inr (.inl ⟨h1, h2, h3, held, (hk p h0).trans h4, h5.keep (fun g hg => hk g (h5.own g hg))⟩)
  · exact .inr (.inr (.inl ⟨h1, h2, held, g, (hk p h0).trans h3, h4.keep (fun q hq => hk q (h4.own q hq)), (hk g h6).trans h5, h6⟩))
  · exact .inr (.inr (.inr ⟨h1, h2, h3, g, v, (hk p h0).trans h4, (hk g h7).trans h5, ⟨Nat.lt_of_lt_of_le h6.1 hsz, fun i j hi hj => (World.cell?_of_block (w := w) (hk g h7)).trans (h6.2 i j hi hj)⟩, h7⟩))
def TakeB (w : World) (p : Nat) (S : Nat → Prop) (l : List UInt8) (e : Ending) (w' : World) : Prop :=
  e = .returned (.int .i64 (boxE l)) ∧ Kept S w w' ∧ (boxE l = 0 → BoxIs w' p (plus S w w') l)
set_option maxRecDepth 20000 in
theorem take_of (w : World) (p F : Nat) (S : Nat → Prop) (l : List UInt8) (b : UInt8) (rest : List Value) (hS : S p) (eg : ∀ args w, (callFunc F args).run Tryz.prog w = .ok (.enter F args) w) (ha : Arr w p 171 (stV F p :: rest))
    (hstep : Calls Tryz.prog F #[.pointer (some ⟨p, 0, none⟩), .int .u8 (b.toNat : Int)] w fun e w' => StepB w p S l e w') :
    Calls Tryz.prog 280 #[.pointer (some ⟨p, 0, none⟩), .int .u8 (b.toNat : Int)] w fun e w' => TakeB w p S l e w' := by
  have c0 := ha.cell (i := 0) rfl
  have HST := hid hstep
  clear ha hstep
  unfold stV at c0
  go_enter Tryz.func280, Tryz.ntmps280
  go_wp2_with fail
  refine HST.out.mono ?_
  rintro e W1 ⟨st, rfl, hst, hk, ⟨c, hc, hcl⟩, hb⟩
  obtain ⟨x, hx⟩ : ∃ x, c[0]? = some x := ⟨c[0]'(by omega), by simp⟩
  have d0 := hc.cell hx
  have f0 := hc.frozen 0
  have fin : Hid (TakeB w p S l (.returned (.int .i64 (boxE l))) (W1.setCell ⟨p, 0, none⟩ st)) :=
    ⟨rfl, hk.trans (Kept.set (S := S) hS _) (fun q h => .inl h), fun h0 => (hb h0).mono (fun q hq => hq.imp id (fun h => ⟨h.1, by simpa [World.setCell] using h.2⟩))⟩
  clear hb hk hc HST c0
  generalize boxE l = err at *
  obtain ⟨F', a', b', rfl | rfl⟩ := hst
  · go_wp2
    go_ret
    exact fin.out
  · go_wp2
    go_ret
    exact fin.out
theorem takeB (w : World) (p : Nat) (S : Nat → Prop) (l : List UInt8) (b : UInt8) (h : BoxIs w p S l) :
    Calls Tryz.prog 280 #[.pointer (some ⟨p, 0, none⟩), .int .u8 (b.toNat : Int)] w fun e w' => TakeB w p S (l ++ [b]) e w' := by
  obtain ⟨hS, h⟩ := h
  rcases h with ⟨h1, h2, held, h3, h4⟩ | ⟨h1, h2, h3, held, h4, h5⟩ | ⟨h1, h2, held, g, h3, h4, h5, h6⟩ | ⟨h1, h2, h3, g, v, h4, h5, h6, h7⟩
  · exact take_of w p _ S _ b _ hS (enters_of Tryz.func115 (by kernel_rfl) rfl) h3 (begin_step w p S l b held l.length rfl hS h1 h2 h3 h4)
  · exact take_of w p _ S _ b _ hS (enters_of Tryz.func150 (by kernel_rfl) rfl) h4 (head_step w p S l b held l.length rfl hS h1 h2 h3 h4 h5)
  · exact take_of w p _ S _ b _ hS (enters_of Tryz.func186 (by kernel_rfl) rfl) h3 (payload_step w p S l b held g (l.length - 14) (rowsB l) (colsB l) (kindB l) rfl rfl rfl rfl h1 (by have := h1.len; omega) hS h6 h3 h4 h5)
  · exact take_of w p _ S _ b _ hS (enters_of Tryz.func217 (by kernel_rfl) rfl) h4 (behind_step w p S l b _ h1 h2 h3 h4 rfl)
theorem newBox_any (w : World) : Calls Tryz.prog 81 #[] w fun e w' => e = .returned (.pointer (some ⟨w.heap.size, 0, none⟩)) ∧ Below w.heap.size w w' ∧ BoxIs w' w.heap.size (fun q => q = w.heap.size) [] := by
  have hmf : ∀ (fn : Fn) (first cap : Array Value) (w : World), (Instr.makeFunc fn first cap).run Tryz.prog w = .ok (.func fn first cap) w := fun _ _ _ _ => rfl
  have a0 : Arr (w.alloc (.cells #[.nilFunc, .slice none 0 0, .int .i64 0, .int .i64 0, .int .i64 0, .slice none 0 0, .bool false] 171)) w.heap.size 171 (boxC .nilFunc (.slice none 0 0) 0 0 0 (.slice none 0 0) false) := Arr.newL _ _ _
  have c0 := a0.cell (i := 0) rfl
  have f0 := a0.frozen 0
  clear a0
  go_enter Tryz.func81, Tryz.ntmps81
  go_wp2
  go_ret
  refine ⟨rfl, Below.refl' _ _, rfl, .inl ⟨by simp, fun i x h => by simp at h, .slice none 0 0, Arr.newL _ _ _, ?_⟩⟩
  exact RowIn.nil _ _ _ _
end Go.Proofs.YthdcceackfdbbaaGreatDoor
namespace Go.Proofs.YthdcceackfdbbaaGreatDoor
open Go Go.RowKit
def wholeB (l : List UInt8) : Prop := HeadOk l ∧ l.length = 18 + 8 * (rowsB l * colsB l)
def EndB (w : World) (S : Nat → Prop) (l : List UInt8) (e : Ending) (w' : World) : Prop :=
  Below w.heap.size w w' ∧
  ((¬ wholeB l ∧ e = .returned (.tuple #[.agg #[.int .i64 0, .int .i64 0, .slice none 0 0], .int .i64 0, .int .i64 11])) ∨
   (wholeB l ∧ ∃ g v, e = .returned (.tuple #[matV (rowsB l) (colsB l) g, .int .i64 (kindB l : Int), .int .i64 0]) ∧ S g ∧ Arr w' g 65 v ∧ MemM (colsB l) g (rowsB l) (fB l) w'))
set_option maxRecDepth 20000 in
set_option maxHeartbeats 1000000 in
theorem endB_no (w : World) (p : Nat) (c : List Value) (ha : Arr w p 171 c) (h6 : c[6]? = some (.bool false)) :
    Calls Tryz.prog 279 #[.pointer (some ⟨p, 0, none⟩)] w fun e w' => Below w.heap.size w w' ∧ e = .returned (.tuple #[.agg #[.int .i64 0, .int .i64 0, .slice none 0 0], .int .i64 0, .int .i64 11]) := by
  have k6 : ∀ o, (w.alloc o).cell? ⟨p, 6, none⟩ = some (.bool false) := fun o => (ha.alloc o).cell h6
  clear ha h6
  go_enter Tryz.func279, Tryz.ntmps279
  go_wp2
  have r0 : Arr (w.alloc (.cells #[.int .i64 0, .int .i64 0, .slice none 0 0] 88)) w.heap.size 88 [.int .i64 0, .int .i64 0, .slice none 0 0] := Arr.newL _ _ _
  have x0 := r0.cell (i := 0) rfl
  have x1 := r0.cell (i := 1) rfl
  have x2 := r0.cell (i := 2) rfl
  exact bodyPost_ret (v := .tuple #[.agg #[.int .i64 0, .int .i64 0, .slice none 0 0], .int .i64 0, .int .i64 11]) (by simp [results, Tryz.results279, go_sem, x0, x1, x2]) rfl ⟨Below.refl' _ _, rfl⟩
set_option maxRecDepth 20000 in
set_option maxHeartbeats 1000000 in
theorem endB_yes (w : World) (p : Nat) (c : List Value) (kind R C N : Nat) (ao : Option Addr) (ha : Arr w p 171 c) (h2 : c[2]? = some (.int .i64 (kind : Int))) (h3 : c[3]? = some (.int .i64 (R : Int))) (h4 : c[4]? = some (.int .i64 (C : Int))) (h5 : c[5]? = some (.slice ao N N)) (h6 : c[6]? = some (.bool true)) :
    Calls Tryz.prog 279 #[.pointer (some ⟨p, 0, none⟩)] w fun e w' => Below w.heap.size w w' ∧ e = .returned (.tuple #[.agg #[.int .i64 (R : Int), .int .i64 (C : Int), .slice ao N N], .int .i64 (kind : Int), .int .i64 0]) := by
  have hmix : Tryz.prog.follows .mixedOrders = true := by kernel_rfl
  have k6 : ∀ o, (w.alloc o).cell? ⟨p, 6, none⟩ = some (.bool true) := fun o => (ha.alloc o).cell h6
  obtain ⟨b, hb⟩ : ∃ b, w.heap.size = b := ⟨_, rfl⟩
  have hpb : p < b := by have := ha.lt; omega
  go_enter Tryz.func279, Tryz.ntmps279
  go_wp2_with fail
  obtain ⟨V, hV⟩ : ∃ V, w.alloc (.cells #[.int .i64 0, .int .i64 0, .slice none 0 0] 88) = V := ⟨_, rfl⟩
  have aV : Arr V.drew p 171 c := by rw [← hV]; exact (ha.alloc _).drew
  have rV : Arr V.drew b 88 [.int .i64 0, .int .i64 0, .slice none 0 0] := by rw [← hV, ← hb]; exact (Arr.newL w _ _).drew
  have bV : Below b w V.drew := by rw [← hV, ← hb]; exact (Below.refl' _ _).drew
  rw [hV]
  clear hV k6 ha
  refine wp_region_held (S := fun W' => Arr W' p 171 c) hmix ?_
  change wpAnyH _ _ _ _ _ _ _ _ V.drew
  obtain ⟨Vd, hVd⟩ : ∃ Vd, V.drew = Vd := ⟨_, rfl⟩
  rw [hVd] at aV rV bV ⊢
  clear hVd
  refine wpAnyH_take (i := 0) (v := .pointer (some ⟨p, 0, none⟩)) rfl (by kernel_rfl) (by kernel_rfl) (by kernel_rfl) (fun _ _ _ h => h) (Or.inl ⟨by rfl, fun W' hS => ?_⟩) aV ?_
  · clear hS
    go_simp
  simp only [Act.put]
  refine wpAnyH_take (i := 1) (v := .pointer (some ⟨p, 0, none⟩)) rfl (by kernel_rfl) (by kernel_rfl) (by kernel_rfl) (fun _ _ _ h => h) (Or.inl ⟨by rfl, fun W' hS => ?_⟩) aV ?_
  · clear hS
    go_simp
  simp only [Act.put]
  refine wpAnyH_take (i := 2) (v := .pointer (some ⟨p, 3, none⟩)) rfl (by kernel_rfl) (by kernel_rfl) (by kernel_rfl) (fun _ _ _ h => h) (Or.inl ⟨by rfl, fun W' hS => ?_⟩) aV ?_
  · clear hS
    go_simp
  simp only [Act.put]
  refine wpAnyH_take (i := 3) (v := .agg #[.int .i64 (R : Int), .int .i64 (C : Int), .slice ao N N]) rfl (by kernel_rfl) (by kernel_rfl) (by kernel_rfl) (fun _ _ _ h => h) (Or.inl ⟨by rfl, fun W' hS => ?_⟩) aV ?_
  · have q0 := hS.cell h3
    have q1 := hS.cell h4
    have q2 := hS.cell h5
    clear hS
    go_simp
  simp only [Act.put]
  refine wpAnyH_take (i := 4) (v := .pointer (some ⟨p, 0, none⟩)) rfl (by kernel_rfl) (by kernel_rfl) (by kernel_rfl) (fun _ _ _ h => h) (Or.inl ⟨by rfl, fun W' hS => ?_⟩) aV ?_
  · clear hS
    go_simp
  simp only [Act.put]
  refine wpAnyH_take (i := 5) (v := .pointer (some ⟨p, 0, none⟩)) rfl (by kernel_rfl) (by kernel_rfl) (by kernel_rfl) (fun _ _ _ h => h) (Or.inl ⟨by rfl, fun W' hS => ?_⟩) aV ?_
  · clear hS
    go_simp
  simp only [Act.put]
  refine wpAnyH_take (i := 6) (v := .pointer (some ⟨p, 2, none⟩)) rfl (by kernel_rfl) (by kernel_rfl) (by kernel_rfl) (fun _ _ _ h => h) (Or.inl ⟨by rfl, fun W' hS => ?_⟩) aV ?_
  · clear hS
    go_simp
  simp only [Act.put]
  refine wpAnyH_take (i := 7) (v := .int .i64 (kind : Int)) rfl (by kernel_rfl) (by kernel_rfl) (by kernel_rfl) (fun _ _ _ h => h) (Or.inl ⟨by rfl, fun W' hS => ?_⟩) aV ?_
  · have q0 := hS.cell h2
    clear hS
    go_simp
  simp only [Act.put]
  have x0 := rV.cell (i := 0) rfl
  have y0 := rV.frozen 0
  have x1 := (rV.set 0 (.int .i64 (R : Int))).cell (i := 1) rfl
  have y1 := (rV.set 0 (.int .i64 (R : Int))).frozen 1
  have x2 := ((rV.set 0 (.int .i64 (R : Int))).set 1 (.int .i64 (C : Int))).cell (i := 2) rfl
  have y2 := ((rV.set 0 (.int .i64 (R : Int))).set 1 (.int .i64 (C : Int))).frozen 2
  refine wpAnyH_ready (rs := [8]) (by kernel_rfl) (by simp) ?_
  refine AllReadyH.cons rfl (fun K hKK => ?_) AllReadyH.nil
  go_simp
  have aW : Arr (((Vd.setCell ⟨b, 0, none⟩ (.int .i64 (R : Int))).setCell ⟨b, 1, none⟩ (.int .i64 (C : Int))).setCell ⟨b, 2, none⟩ (.slice ao N N)) p 171 c := ((aV.other _ (by omega)).other _ (by omega)).other _ (by omega)
  refine hKK.out _ _ aW (fun hHeld => ?_)
  clear hKK hHeld
  refine wpAnyH_take (i := 9) (v := .int .i64 (kind : Int)) rfl (by kernel_rfl) (by kernel_rfl) (by kernel_rfl) (fun _ _ _ h => h) (Or.inl ⟨by rfl, fun W' hS => ?_⟩) aW ?_
  · clear hS
    go_simp
  simp only [Act.put, List.getElem_toArray, List.getElem_cons_succ, List.getElem_cons_zero, List.setIfInBounds_toArray, List.set_cons_succ, List.set_cons_zero]
  refine wpAnyH_take (i := 10) (v := .int .i64 0) rfl (by kernel_rfl) (by kernel_rfl) (by kernel_rfl) (fun _ _ _ h => h) (Or.inl ⟨by rfl, fun W' hS => ?_⟩) aW ?_
  · clear hS
    go_simp
  simp only [Act.put, List.getElem_toArray, List.getElem_cons_succ, List.getElem_cons_zero, List.setIfInBounds_toArray, List.set_cons_succ, List.set_cons_zero]
  refine wpAnyH_done (by kernel_rfl) ?_ _
  have r3 := ((rV.set 0 (.int .i64 (R : Int))).set 1 (.int .i64 (C : Int))).set 2 (.slice ao N N)
  have b3 : Below b w (((Vd.setCell ⟨b, 0, none⟩ (.int .i64 (R : Int))).setCell ⟨b, 1, none⟩ (.int .i64 (C : Int))).setCell ⟨b, 2, none⟩ (.slice ao N N)) :=
    ((bV.setCell (p := ⟨b, 0, none⟩) (Nat.le_refl _) _).setCell (p := ⟨b, 1, none⟩) (Nat.le_refl _) _).setCell (p := ⟨b, 2, none⟩) (Nat.le_refl _) _
  generalize ((Vd.setCell ⟨b, 0, none⟩ (.int .i64 (R : Int))).setCell ⟨b, 1, none⟩ (.int .i64 (C : Int))).setCell ⟨b, 2, none⟩ (.slice ao N N) = W3 at *
  have z0 := r3.cell (i := 0) rfl
  have z1 := r3.cell (i := 1) rfl
  have z2 := r3.cell (i := 2) rfl
  clear x0 x1 x2 y0 y1 y2
  go_wp2
  refine bodyPost_ret (v := .tuple #[.agg #[.int .i64 (R : Int), .int .i64 (C : Int), .slice ao N N], .int .i64 (kind : Int), .int .i64 0]) ?_ rfl ⟨hb ▸ b3, rfl⟩
  simp [results, Tryz.results279, go_sem, z0, z1, z2]
theorem endB (w : World) (p : Nat) (S : Nat → Prop) (l : List UInt8) (h : BoxIs w p S l) :
    Calls Tryz.prog 279 #[.pointer (some ⟨p, 0, none⟩)] w fun e w' => EndB w S l e w' := by
  obtain ⟨hS, h⟩ := h
  rcases h with ⟨h1, h2, held, h3, h4⟩ | ⟨h1, h2, h3, held, h4, h5⟩ | ⟨h1, h2, held, g, h3, h4, h5, h6⟩ | ⟨h1, h2, h3, g, v, h4, h5, h6, h7⟩
  · exact (endB_no w p _ h3 rfl).mono (fun e w' hh => ⟨hh.1, .inl ⟨fun hw => by have := hw.1.len; omega, hh.2⟩⟩)
  · exact (endB_no w p _ h4 rfl).mono (fun e w' hh => ⟨hh.1, .inl ⟨fun hw => by have := hw.1.len; omega, hh.2⟩⟩)
  · exact (endB_no w p _ h3 rfl).mono (fun e w' hh => ⟨hh.1, .inl ⟨fun hw => by have := hw.2; omega, hh.2⟩⟩)
  · exact (endB_yes w p _ _ _ _ _ _ h4 rfl rfl rfl rfl rfl).mono (fun e w' hh => ⟨hh.1, .inr ⟨⟨h1, h2⟩, g, v, hh.2, h7, h5.belowAll hh.1, h6.below hh.1 h6.1⟩⟩)
end Go.Proofs.YthdcceackfdbbaaGreatDoor
namespace Go.Proofs.YthdcceackfdbbaaGreatDoor
open Go Go.RowKit
def setF (f : Nat → Nat → Nat) (i j x : Nat) : Nat → Nat → Nat := fun a b => if a = i ∧ b = j then x else f a b
def putF (k : Nat) (f : Nat → Nat → Nat) (q : Nat × Nat) (x : Nat) : Nat → Nat → Nat := if k = 1 ∨ k = 3 then setF (setF f q.1 q.2 x) q.2 q.1 x else setF f q.1 q.2 x
def rdC (st bytes : Value) (kind R C : Nat) (num : Value) (sized : Bool) (free : Value) (left : Nat) : List Value :=
  [st, bytes, .int .i64 (kind : Int), .int .i64 (R : Int), .int .i64 (C : Int), num, .bool sized, free, .int .i64 (left : Int)]
structure EntC (w : World) (p : Nat) (S : Nat → Prop) (st bytes : Value) (g : Nat) (fv : Value) (k R C left : Nat) (free : List (Nat × Nat)) (f : Nat → Nat → Nat) (cur : List UInt8) : Prop where
  own : S p
  arr : Arr w p 167 (rdC st bytes k R C (.slice (some ⟨g, 0, none⟩) (R * C) (R * C)) true fv left)
  rowB : RowIn w S 5 1 bytes cur.length (u8s cur)
  ownG : S g
  arrG : ∃ v, Arr w g 65 v ∧ v.length = R * C
  mem : MemM C g R f w
  rowF : RowIn w S 117 2 fv free.length (plcC free)
  hk : k ≤ 3
  hR : R ≤ 40
  hC : C ≤ 40
  sq : k = 1 ∨ k = 3 → R = C
  free_in : ∀ q ∈ free, q.1 < R ∧ q.2 < C
  len : free.length ≤ 1600
  left_le : left ≤ free.length
theorem memM_set {w : World} {R C g i j x : Nat} {f : Nat → Nat → Nat} {v : List Value} (h : MemM C g R f w) (ha : Arr w g 65 v) (hl : v.length = R * C) (hi : i < R) (hj : j < C) : MemM C g R (setF f i j x) (w.setCell ⟨g, i * C + j, none⟩ (.int .u64 (x : Int))) := by
  refine ⟨by simpa [World.setCell] using h.1, fun a b ha' hb' => ?_⟩
  have hs := ha.set (i * C + j) (.int .u64 (x : Int))
  have hv : v[a * C + b]? = some (.int .u64 (f a b : Int)) := by
    have h1 := h.2 a b ha' hb'
    have hlt : a * C + b < v.length := by rw [hl]; exact idx_lt ha' hb'
    obtain ⟨y, hy⟩ : ∃ y, v[a * C + b]? = some y := ⟨v[a * C + b], by simp [hlt]⟩
    rw [ha.cell hy] at h1
    rw [hy]; exact h1
  refine hs.cell ?_
  rw [List.getElem?_set]
  unfold setF
  by_cases e : a = i ∧ b = j
  · obtain ⟨rfl, rfl⟩ := e
    rw [if_pos rfl, if_pos (by rw [hl]; exact idx_lt ha' hb'), if_pos ⟨rfl, rfl⟩]
  · rw [if_neg e, if_neg (fun e2 => e (by have := idx_inj hb' hj e2.symm; exact this)), hv]
theorem EntC.frame {w w' : World} {p : Nat} {S : Nat → Prop} {st bytes : Value} {g : Nat} {fv : Value} {k R C left : Nat} {free : List (Nat × Nat)} {f : Nat → Nat → Nat} {cur : List UInt8} (h : EntC w p S st bytes g fv k R C left free f cur)
    (hk : ∀ q, S q → w'.heap[q]? = w.heap[q]?) (hsz : w.heap.size ≤ w'.heap.size) : EntC w' p S st bytes g fv k R C left free f cur :=
  ⟨h.own, (hk p h.own).trans h.arr, h.rowB.keep (fun q hq => hk q (h.rowB.own q hq)), h.ownG, by obtain ⟨v, h1, h2⟩ := h.arrG; exact ⟨v, (hk g h.ownG).trans h1, h2⟩,
    ⟨Nat.lt_of_lt_of_le h.mem.1 hsz, fun i j hi hj => (World.cell?_of_block (w := w) (hk g h.ownG)).trans (h.mem.2 i j hi hj)⟩, h.rowF.keep (fun q hq => hk q (h.rowF.own q hq)), h.hk, h.hR, h.hC, h.sq, h.free_in, h.len, h.left_le⟩
theorem EntC.mono {w : World} {p : Nat} {S T : Nat → Prop} {st bytes : Value} {g : Nat} {fv : Value} {k R C left : Nat} {free : List (Nat × Nat)} {f : Nat → Nat → Nat} {cur : List UInt8} (h : EntC w p S st bytes g fv k R C left free f cur)
    (hT : ∀ q, S q → T q) : EntC w p T st bytes g fv k R C left free f cur :=
  ⟨hT p h.own, h.arr, h.rowB.mono hT, hT g h.ownG, h.arrG, h.mem, h.rowF.mono hT, h.hk, h.hR, h.hC, h.sq, h.free_in, h.len, h.left_le⟩
theorem EntC.lt {w : World} {p : Nat} {S : Nat → Prop} {st bytes : Value} {g : Nat} {fv : Value} {k R C left : Nat} {free : List (Nat × Nat)} {f : Nat → Nat → Nat} {cur : List UInt8} (h : EntC w p S st bytes g fv k R C left free f cur) : p < w.heap.size ∧ g < w.heap.size ∧ p ≠ g := by
  obtain ⟨v, h1, h2⟩ := h.arrG
  refine ⟨h.arr.lt, h1.lt, fun e => ?_⟩
  have := h.arr
  rw [e] at this
  have h3 := (show w.heap[g]? = _ from this).symm.trans h1
  simp at h3
theorem EntC.below {w w' : World} {p : Nat} {S : Nat → Prop} {st bytes : Value} {g : Nat} {fv : Value} {k R C left : Nat} {free : List (Nat × Nat)} {f : Nat → Nat → Nat} {cur : List UInt8} (h : EntC w p S st bytes g fv k R C left free f cur)
    (b : Below w.heap.size w w') : EntC w' p S st bytes g fv k R C left free f cur :=
  ⟨h.own, h.arr.belowAll b, h.rowB.below b, h.ownG, by obtain ⟨v, h1, h2⟩ := h.arrG; exact ⟨v, h1.belowAll b, h2⟩, h.mem.below b h.mem.1, h.rowF.below b, h.hk, h.hR, h.hC, h.sq, h.free_in, h.len, h.left_le⟩
theorem EntC.setNum {w : World} {p : Nat} {S : Nat → Prop} {st bytes : Value} {g : Nat} {fv : Value} {k R C left : Nat} {free : List (Nat × Nat)} {f : Nat → Nat → Nat} {cur : List UInt8} (h : EntC w p S st bytes g fv k R C left free f cur)
    {i j : Nat} (x : Nat) (hi : i < R) (hj : j < C) : EntC (w.setCell ⟨g, i * C + j, none⟩ (.int .u64 (x : Int))) p S st bytes g fv k R C left free (setF f i j x) cur := by
  obtain ⟨v, h1, h2⟩ := h.arrG
  exact ⟨h.own, h.arr.other _ h.lt.2.2, h.rowB.set h1 (by decide) _, h.ownG, ⟨_, h1.set _ _, by rw [List.length_set]; exact h2⟩, memM_set h.mem h1 h2 hi hj, h.rowF.set h1 (by decide) _, h.hk, h.hR, h.hC, h.sq, h.free_in, h.len, h.left_le⟩
end Go.Proofs.YthdcceackfdbbaaGreatDoor
