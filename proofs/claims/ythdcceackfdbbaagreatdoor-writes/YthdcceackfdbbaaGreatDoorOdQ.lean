import Derived.Test.YthdcceackfdbbaaGreatDoorM16W

namespace Go.Proofs.YthdcceackfdbbaaGreatDoor
open Go Go.RowKit Go.Shelf
attribute [local go_sem] Oper.semAt_some

/-- a line -/
def lineL (ws : List ByteArray) : List UInt8 := Lib.join (ws.map (·.data.toList)) [32] ++ [10]

noncomputable def bodyL (kind : Nat) (es : List (Nat × Nat × Nat)) : List UInt8 := es.flatMap fun y => lineL (entW kind y)

/-- the text of a matrix -/
noncomputable def textL (kind R C : Nat) (f : Nat → Nat → Nat) : List UInt8 := lineL (firstW kind) ++ lineL (sizW kind R C (entL kind R C f).length) ++ bodyL kind (entL kind R C f)

theorem dd_small {n : Nat} (h : n < 100000) : (Lib.decDigits n).length ≤ 6 := dd_len (k := 6) (by omega) (by omega)

theorem firstW_len (kind : Nat) : (firstW kind).length = 5 := by unfold firstW; split <;> rfl

theorem arr_strs {w : World} {q : Nat} {ws : List ByteArray} (h : Arr w q 9 (ws.map Value.string)) : ∀ (j : Nat) x, ws[j]? = some x → w.cell? ⟨q, 0 + j, none⟩ = some (.string x) := fun j x hx => by
  rw [Nat.zero_add]
  have := congrArg (Option.map Value.string) hx
  rw [← List.getElem?_map] at this
  exact h.cell this

theorem ent_len {kind : Nat} {y : Nat × Nat × Nat} (h1 : y.1 ≤ 40) (h2 : y.2.1 ≤ 40) (h3 : (prL y.2.2).length ≤ 100) : (lineL (entW kind y)).length ≤ 200 := by
  have d1 := dd_small (n := y.1 + 1) (by omega)
  have d2 := dd_small (n := y.2.1 + 1) (by omega)
  unfold lineL entW
  split
  · simp [Lib.join_cons, Lib.joinTail]; omega
  · simp [Lib.join_one]; omega

theorem siz_len {kind R C n : Nat} (hR : R ≤ 40) (hC : C ≤ 40) (hn : n ≤ 1600) : (lineL (sizW kind R C n)).length ≤ 200 := by
  have d1 := dd_small (n := R) (by omega)
  have d2 := dd_small (n := C) (by omega)
  have d3 := dd_small (n := n) (by omega)
  unfold lineL sizW
  split
  · simp [Lib.join_cons, Lib.joinTail]; omega
  · simp [Lib.join_cons, Lib.joinTail]; omega

theorem first_len (kind : Nat) : (lineL (firstW kind)).length ≤ 200 := by
  unfold firstW lineL
  split <;> · simp [Lib.join_cons, Lib.joinTail]

theorem bodyL_snoc (kind : Nat) (es : List (Nat × Nat × Nat)) (y : Nat × Nat × Nat) : bodyL kind (es ++ [y]) = bodyL kind es ++ lineL (entW kind y) := by simp [bodyL]

set_option maxRecDepth 20000 in
set_option maxHeartbeats 2000000 in
theorem market_any (w : World) (kind R C g : Nat) (f : Nat → Nat → Nat) (l : List Value) (hk : kind ≤ 3) (hR : R ≤ 40) (hC : C ≤ 40) (hm : MemM C g R f w) (hg : Arr w g 65 l) (hf : ∀ i j, f i j < 18446744073709551616) (htab : Lib.TabIs Tryz.prog w "internal/strconv.uint64pow10" .u64 Lib.pow10Tab) :
    Calls Tryz.prog 73 #[matV R C g, .int .i64 (kind : Int)] w fun e w' => ∃ s : ByteArray, e = .returned (.string s) ∧ s.data.toList = textL kind R C f ∧ Below w.heap.size w w' := by
  obtain ⟨b, hb⟩ : ∃ b, w.heap.size = b := ⟨_, rfl⟩
  have hgb : g < b := by have := hm.1; omega
  have hRC : R * C ≤ 40 * 40 := Nat.mul_le_mul hR hC
  have hel := entL_len kind R C f
  have HT := hid htab
  have HF := hid hf
  refine callsIn_wide (n := 0) |>.1 ?_
  refine callsIn_of_wp_marks Tryz.func73 rfl trivial ?_ rfl
  simp only [Tryz.ntmps73, List.size_toArray, List.length_cons, List.length_nil, Nat.reduceAdd, Nat.reduceSub, Array.replicate_succ, Array.replicate_zero, List.push_toArray, List.append_toArray, List.nil_append, List.cons_append, matV]
  have hdep : Fence.wide.depth = none := rfl
  have hf1 : Fence.wide.fn 110 := trivial
  have hf2 : Fence.wide.fn 108 := trivial
  have hf3 : Fence.wide.fn 107 := trivial
  have hf4 : Fence.wide.fn 109 := trivial
  have hf5 : Fence.wide.fn 111 := trivial
  have hf6 : Fence.wide.fn 112 := trivial
  gi_wp2_with fail
  obtain ⟨O, hO⟩ : ∃ O : List Obj, [.cells #[.int .i64 (R : Int), .int .i64 (C : Int), .slice (some ⟨g, 0, none⟩) (R * C) (R * C)] 88, .cells #[.int .i64 (kind : Int)] 3, .cells #[.pointer none, .slice none 0 0] 152] = O := ⟨_, rfl⟩
  obtain ⟨V, hV⟩ : ∃ V, allocs w O = V := ⟨_, rfl⟩
  have eV : ((w.alloc (.cells #[.int .i64 (R : Int), .int .i64 (C : Int), .slice (some ⟨g, 0, none⟩) (R * C) (R * C)] 88)).alloc (.cells #[.int .i64 (kind : Int)] 3)).alloc (.cells #[.pointer none, .slice none 0 0] 152) = V := by rw [← hV, ← hO]; rfl
  have zV : V.heap.size = b + 3 := by rw [← hV, allocs_size, hb, ← hO]; rfl
  have bV : Below b w V := by rw [← hV, ← hb]; exact allocs_below w O
  have hat : ∀ i o, O[i]? = some o → V.heap[b + i]? = some o := fun i o h => by rw [← hV, ← hb]; exact allocs_at O w i o h
  have mV : Arr V b 88 [.int .i64 (R : Int), .int .i64 (C : Int), .slice (some ⟨g, 0, none⟩) (R * C) (R * C)] := hat 0 _ (by rw [← hO]; rfl)
  have kV : Arr V (b + 1) 3 [.int .i64 (kind : Int)] := hat 1 _ (by rw [← hO]; rfl)
  have sV : Lib.IsBuilderF 152 5 (b + 2) (b + 2) (u8s []) V := .inl ⟨Nat.le_refl _, .slice none 0 0, hat 2 _ (by rw [← hO]; rfl), World.ownsRowF_nil _ _ _ _, by simp [Value.ownBlock]⟩
  rw [eV]
  clear eV hat hV hO htab hf
  have HMV := hid mV
  have HKV := hid kV
  have HSV := hid sV
  have HBV := hid bV
  have HM := hid hm
  have HG := hid hg
  obtain ⟨n, hn⟩ : ∃ n, (entL kind R C f).length = n := ⟨_, rfl⟩
  have HN := hid hn
  have hn2 : n ≤ 1600 := by omega
  clear mV kV sV bV hm hg hn hel
  obtain ⟨j1, hj1⟩ : ∃ j1, Lib.join ((firstW kind).map (·.data.toList)) [32] = j1 := ⟨_, rfl⟩
  obtain ⟨sw, hsw⟩ : ∃ sw, sizW kind R C n = sw := ⟨_, rfl⟩
  obtain ⟨j2, hj2⟩ : ∃ j2, Lib.join (sw.map (·.data.toList)) [32] = j2 := ⟨_, rfl⟩
  have hj1l : j1.length ≤ 199 := by have := first_len kind; unfold lineL at this; rw [hj1] at this; simp at this; omega
  have hj2l : j2.length ≤ 199 := by have := siz_len (kind := kind) (n := n) hR hC hn2; unfold lineL at this; rw [hsw, hj2] at this; simp at this; omega
  have hswl : sw.length ≤ 3 := by rw [← hsw]; unfold sizW; split <;> simp
  have HHD : Hid (lineL (firstW kind) ++ lineL (sizW kind R C n) = j1 ++ [10] ++ j2 ++ [10]) := by show _ = _; rw [hsw]; unfold lineL; rw [hj1, hj2]; simp
  have HJ1 := hid hj1
  have HJ2 := hid hj2
  have HSW := hid hsw
  clear hj1 hj2 hsw
  refine (callsIn_wide (n := 0).2 (first_any V kind hk)).mono ?_
  rintro e W1 ⟨rfl, hW1⟩
  have q1 : Arr W1 V.heap.size 9 ((firstW kind).map Value.string) := by rw [hW1]; exact Arr.newL _ _ _
  have b1 : Below V.heap.size V W1 := by rw [hW1]; exact Below.refl' _ _
  clear hW1
  have HA := addLine_any W1 (b + 2) (b + 2) V.heap.size 5 [] (firstW kind) (builder_below HSV.out b1) (by have := b1.size; omega) (by simp) (arr_strs q1) q1.lt (by rw [firstW_len]; omega) (by rw [firstW_len]; omega) j1 HJ1.out (by omega)
  rw [firstW_len, List.nil_append, zV] at HA
  have HA' := hid HA
  have HB1 := hid b1
  clear HA q1 b1
  gi_wp2_with fail
  refine (callsIn_wide (n := 0).2 HA'.out).mono ?_
  rintro e W2 ⟨⟨v2, rfl⟩, s2, b2, o2⟩
  have b1 := HB1.out
  have m2 := (HMV.out.belowAll b1).below b2 (by omega)
  have k2 := (HKV.out.belowAll b1).below b2 (by omega)
  have z1 := b1.size
  have z2 := b2.size
  have bW2 : Below b w W2 := (HBV.out.trans (b1.mono (by omega))).trans (b2.mono (by omega))
  have HS2 := hid s2
  have HBW2 := hid bW2
  have HM2 := hid m2
  have HK2 := hid k2
  have c0 := m2.cell (i := 0) rfl
  have c1 := m2.cell (i := 1) rfl
  have c2 := m2.cell (i := 2) rfl
  have c3 := k2.cell (i := 0) rfl
  have HSZ := hid (callsIn_wide (n := 0).2 (sizes_any W2 kind R C g f l hk hR hC (HM.out.below bW2 hgb) (HG.out.below bW2 hgb) (tab_below HT.out (hb ▸ bW2))))
  rw [HN.out, HSW.out] at HSZ
  unfold matV at HSZ
  have zz2 : b + 3 ≤ W2.heap.size := by omega
  clear s2 b2 o2 b1 m2 k2 bW2 HA' z1 z2
  gi_wp2_with fail
  refine HSZ.out.mono ?_
  rintro e W3 ⟨q3, cap3, rfl, hcap3, hq3, hc3, b3⟩
  have z3 := b3.size
  have HA := hid (callsIn_wide (n := 0).2 (addLine_any W3 (b + 2) (b + 2) q3 cap3 (j1 ++ [10]) sw (builder_below HS2.out b3) (by omega) (by simp; omega) hc3 hq3 (by omega) hcap3 j2 HJ2.out (by omega)))
  have HB3 := hid b3
  have HM3 := hid (HM2.out.belowAll b3)
  have HK3 := hid (HK2.out.belowAll b3)
  clear c0 c1 c2 c3 HSZ hc3 b3 hcap3 hq3 HM2 HK2
  gi_wp2_with fail
  refine HA.out.mono ?_
  rintro e W4 ⟨⟨v4, rfl⟩, s4, b4, o4⟩
  have m4 := HM3.out.below b4 (by omega)
  have k4 := HK3.out.below b4 (by omega)
  have z4 := b4.size
  have bW4 : Below b w W4 := (HBW2.out.trans (HB3.out.mono (by omega))).trans (b4.mono (by omega))
  have HS4 := hid s4
  have HBW4 := hid bW4
  have HM4 := hid m4
  have HK4 := hid k4
  have HE := hid (callsIn_wide (n := 0).2 (entries_any W4 kind R C g f (by omega) hR hC))
  unfold matV at HE
  have c0 := m4.cell (i := 0) rfl
  have c1 := m4.cell (i := 1) rfl
  have c2 := m4.cell (i := 2) rfl
  have c3 := k4.cell (i := 0) rfl
  have zz4 : b + 3 ≤ W4.heap.size := by omega
  clear s4 b4 o4 m4 k4 bW4 HA z3 z4
  gi_wp2_with fail
  refine HE.out.mono ?_
  rintro e W0 ⟨gf, fst, lb, rfl, Mem, eg, hgv, hmm, hty, hbe⟩
  clear c0 c1 c2 c3 HE
  have HEG := hid eg
  have HGV := hid hgv
  have HMM := hid hmm
  have HTY := hid hty
  have HBE := hid hbe
  clear eg hgv hmm hty hbe
  gi_wp2_with fail
  have hbe := HBE.out
  have s0 : Lib.IsBuilderF 152 5 (b + 2) (b + 2) (u8s (j1 ++ [10] ++ j2 ++ [10])) W0 := builder_below HS4.out hbe
  have k0 : Arr W0 (b + 1) 3 [.int .i64 (kind : Int)] := HK4.out.belowAll hbe
  have bW0 : Below b w W0 := HBW4.out.trans (hbe.mono (by omega))
  have g0 : Arr W0 g 65 l := HG.out.below bW0 hgb
  have mm0 : MemM C g R f W0 := HM.out.below bW0 hgb
  have z0 : b + 3 ≤ W0.heap.size := by have := hbe.size; omega
  obtain ⟨hdl, hhd⟩ : ∃ hdl, j1 ++ [10] ++ j2 ++ [10] = hdl := ⟨_, rfl⟩
  have hhl : hdl.length ≤ 400 := by rw [← hhd]; simp; omega
  rw [hhd] at s0
  have HHD2 := hid hhd
  clear hhd
  refine range_gives 0 (gf := gf) (fst := fst) (lb := lb) rfl HEG.out HGV.out (by intro x hx; obtain ⟨y, _, rfl⟩ := List.mem_map.1 hx; rfl)
    (fun k W => Lib.IsBuilderF 152 5 (b + 2) (b + 2) (u8s (hdl ++ bodyL kind ((entL kind R C f).take k))) W ∧ Lib.OthersKept 5 (some (b + 2)) W0 W ∧ Below (b + 2) W0 W ∧ W0.heap.size ≤ W.heap.size ∧ (bodyL kind ((entL kind R C f).take k)).length ≤ 200 * k)
    (fun _ _ => False)
    (fun x a' W' => ∃ (y : Nat × Nat × Nat) (Bx : Nat), x = entV y ∧ W0.heap.size ≤ Bx ∧ Arr W' Bx 117 [.int .i64 (y.1 : Int), .int .i64 (y.2.1 : Int)] ∧ a' = { tmps := #[.agg #[.int .i64 (R : Int), .int .i64 (C : Int), .slice (some ⟨g, 0, none⟩) (R * C) (R * C)], .int .i64 (kind : Int), .pointer (some ⟨b, 0, none⟩), .pointer (some ⟨b + 1, 0, none⟩), .string ⟨#[]⟩, .pointer (some ⟨b + 1 + 1, 0, none⟩), .pointer (some ⟨Bx, 0, none⟩), .int .u64 (y.2.2 : Int), .int .i64 (kind : Int), .slice (some ⟨b + 3, 0, none⟩) 5 5, v2, .agg #[.int .i64 (R : Int), .int .i64 (C : Int), .slice (some ⟨g, 0, none⟩) (R * C) (R * C)], .int .i64 (kind : Int), .slice (some ⟨q3, 0, none⟩) sw.length cap3, v4, .agg #[.int .i64 (R : Int), .int .i64 (C : Int), .slice (some ⟨g, 0, none⟩) (R * C) (R * C)], .int .i64 (kind : Int), .func (.func gf) fst lb, plcV y.1 y.2.1, .int .u64 (y.2.2 : Int), undef, undef, undef, undef, undef, undef], defers := [] })
    ?hMem ?hI ?hIx ?hAx ?h0 ?assign ?body ?done ?stop
  case hMem =>
    rintro k W ⟨h1, h3, h4, h5, _⟩
    refine HMM.out W (mm0.others h3 g0 (fun e => by cases e; omega) h5) (fun q hq1 hq2 => ?_)
    obtain ⟨o, ho, hno⟩ := HTY.out q hq1 hq2
    exact (h3 q o ho (fun e => by cases e; omega) hno).trans ho.symm
  case hI => rintro k A B ⟨h1, h3, h4, h5, h6⟩ s; exact ⟨builder_sim h1 s, others_sim h3 s, h4.trans (Below.ofSim s (by omega) (by omega)), Nat.le_trans h5 s.size, h6⟩
  case hIx => exact fun c A B h s => h
  case hAx => rintro x a' A B ⟨y, Bx, h1, h2, h3, h4⟩ s; exact ⟨y, Bx, h1, h2, h3.sim s, h4⟩
  case h0 => exact ⟨by simpa [bodyL] using s0, Lib.OthersKept.refl _ _ _, Below.refl _ _, Nat.le_refl _, by simp [bodyL]⟩
  case assign =>
    intro l1 k x W1 K hx hi hK
    obtain ⟨y, hy, rfl⟩ := map_get hx
    have HK : Hid _ := hid (hK { tmps := #[.agg #[.int .i64 (R : Int), .int .i64 (C : Int), .slice (some ⟨g, 0, none⟩) (R * C) (R * C)], .int .i64 (kind : Int), .pointer (some ⟨b, 0, none⟩), .pointer (some ⟨b + 1, 0, none⟩), .string ⟨#[]⟩, .pointer (some ⟨b + 1 + 1, 0, none⟩), .pointer (some ⟨W1.heap.size, 0, none⟩), .int .u64 (y.2.2 : Int), .int .i64 (kind : Int), .slice (some ⟨b + 3, 0, none⟩) 5 5, v2, .agg #[.int .i64 (R : Int), .int .i64 (C : Int), .slice (some ⟨g, 0, none⟩) (R * C) (R * C)], .int .i64 (kind : Int), .slice (some ⟨q3, 0, none⟩) sw.length cap3, v4, .agg #[.int .i64 (R : Int), .int .i64 (C : Int), .slice (some ⟨g, 0, none⟩) (R * C) (R * C)], .int .i64 (kind : Int), .func (.func gf) fst lb, plcV y.1 y.2.1, .int .u64 (y.2.2 : Int), undef, undef, undef, undef, undef, undef], defers := [] } (W1.alloc (plcO y.1 y.2.1))
      (KeptFrom.below (Below.refl' _ _)) ⟨builder_below hi.1 (Below.refl' _ _), hi.2.1.alloc _, hi.2.2.1.alloc (by have := hi.2.2.2.1; omega) _, by have := hi.2.2.2.1; simp; omega, hi.2.2.2.2⟩ ⟨y, W1.heap.size, rfl, hi.2.2.2.1, Arr.newL _ _ _, rfl⟩)
    clear hK hi hx hy s0
    unfold entV plcV
    unfold plcV plcO at HK
    gi_wp2
    exact HK.out
  case body =>
    rintro l1 k x a' W1 hx ⟨h1, h3, h4, h5, h6⟩ ⟨y, Bx, rfl, hBx, hb2, rfl⟩
    obtain ⟨y', hy, hye⟩ := map_get hx
    obtain rfl := entV_inj hye
    have hkl : k < (entL kind R C f).length := (List.getElem?_eq_some_iff.1 hy).1
    have hmem := entL_mem (List.mem_of_getElem? hy)
    have HSN : Hid (bodyL kind ((entL kind R C f).take (k + 1)) = bodyL kind ((entL kind R C f).take k) ++ lineL (entW kind y')) := by show _ = _; rw [List.take_add_one, hy]; exact bodyL_snoc _ _ _
    have bW1 : Below b w W1 := bW0.trans (h4.mono (by omega))
    have kk := k0.below h4 (by omega)
    have HEN := hid (CallsIn.inRound l1 (callsIn_wide (n := 0).2 (entry_any W1 kind y' hk (by omega) (by omega) (by rw [hmem.2.2]; exact HF.out _ _) (tab_below HT.out (hb ▸ bW1)))))
    have c0 := hb2.cell (i := 0) rfl
    have c1 := hb2.cell (i := 1) rfl
    have c2 := kk.cell (i := 0) rfl
    have H1 := hid h1
    have H3 := hid h3
    have H4 := hid h4
    have HY := hid hmem
    have hnk : k < n := by rw [← HN.out]; exact hkl
    unfold plcV at HEN ⊢
    clear hx hye hy h1 h3 h4 s0 bW1 hmem hkl
    gi_wp2_with fail
    refine HEN.out.mono ?_
    rintro e W2 ⟨q, rfl, aq, b2, hpr⟩
    have hel1 := ent_len (kind := kind) (y := y') (by have := HY.out.1; omega) (by have := HY.out.2.1; omega) hpr
    obtain ⟨ew, hew⟩ : ∃ ew, entW kind y' = ew := ⟨_, rfl⟩
    obtain ⟨je, hje⟩ : ∃ je, Lib.join (ew.map (·.data.toList)) [32] = je := ⟨_, rfl⟩
    have hlje : lineL (entW kind y') = je ++ [10] := by rw [hew]; unfold lineL; rw [hje]
    rw [hlje] at hel1
    have hewl : ew.length ≤ 3 := by rw [← hew]; unfold entW; split <;> simp
    rw [hew] at aq
    have HAL := hid (CallsIn.inRound l1 (callsIn_wide (n := 0).2 (addLine_any W2 (b + 2) (b + 2) q ew.length _ ew (builder_below H1.out b2) (by have := b2.size; omega) (by simp; omega) (arr_strs aq) aq.lt (by omega) (Nat.le_refl _) je hje (by simp at hel1; omega))))
    have HB2 := hid b2
    have HLJ := hid hlje
    clear c0 c1 c2 HEN aq b2 hje hlje
    rw [hew]
    clear hew
    gi_wp2_with fail
    refine HAL.out.mono ?_
    rintro e W3 ⟨⟨v, rfl⟩, s3, b3, o3⟩
    have b2 := HB2.out
    gi_wp2
    refine ⟨(KeptFrom.below b2).trans (KeptFrom.others o3 b3.size (by omega)), ?_, (H3.out.trans (others_below b2)).trans o3, (H4.out.trans (b2.mono (by omega))).trans b3, by have := b2.size; have := b3.size; omega, ?_⟩
    · rw [HSN.out, HLJ.out, ← List.append_assoc, ← List.append_assoc]; exact s3
    · rw [HSN.out, HLJ.out]; simp at hel1 ⊢; omega
  case done =>
    rintro D W1 hD ⟨h1, h3, h4, h5, h6⟩ hK
    rw [List.length_map, List.take_length] at h1
    have HST := hid (callsIn_wide (n := 0).2 (Tryz.Builder_String_any_k (b + 2) (b + 2) (hdl ++ bodyL kind (entL kind R C f)) W1 h1 (by omega)))
    have H4 := hid h4
    clear h1 h3 h4 s0
    gi_wp2_with fail
    refine HST.out.mono ?_
    rintro e W2 ⟨rfl, _, b2, o2⟩
    have hK2 : W2.heap[D]? = some (.deferred (some [])) := o2 D _ hK (fun e => by cases e; omega) (fun c fz e => by cases e)
    clear o2
    gi_wp2
    refine ⟨by simp, .inl ⟨_, _, rfl, run_takeDeferred hK2, ?_⟩⟩
    refine ⟨_, results_tmp rfl _ _ _, _, rfl, ?_, ?_⟩
    · simp only
      unfold textL
      rw [← HHD2.out, HN.out, HHD.out]
    · rw [hb]
      exact ((bW0.trans (H4.out.mono (by omega))).trans (b2.mono (by omega))).trans ⟨rfl, rfl, rfl, by simp [World.putObj], fun q hq => World.putObj_heap_other (by omega)⟩
  case stop => exact fun _ _ _ _ h => h.elim

end Go.Proofs.YthdcceackfdbbaaGreatDoor
