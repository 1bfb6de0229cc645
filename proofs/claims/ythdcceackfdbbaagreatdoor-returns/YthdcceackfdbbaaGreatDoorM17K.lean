import Derived.Test.YthdcceackfdbbaaGreatDoorM16K
import Derived.Test.YthdcceackfdbbaaGreatDoorM14K
import Derived.Test.YthdcceackfdbbaaGreatDoorM07K
import Derived.Test.YthdcceackfdbbaaGreatDoorM11K
import Derived.Test.YthdcceackfdbbaaGreatDoorM15K

namespace Go.Proofs.YthdcceackfdbbaaGreatDoor
open Go Go.RowKit Go.Shelf
attribute [local go_sem] Oper.semAt_some

/-- a line -/
def lineL (ws : List ByteArray) : List UInt8 := Lib.join (ws.map (·.data.toList)) [32] ++ [10]

noncomputable def bodyL (kind : Nat) (es : List (Nat × Nat × Nat)) : List UInt8 := es.flatMap fun y => lineL (entW kind y)

/-- the text of a matrix -/
noncomputable def textL (kind R C : Nat) (f : Nat → Nat → Nat) : List UInt8 := lineL (firstW kind) ++ lineL (sizW kind R C (entL kind R C f).length) ++ bodyL kind (entL kind R C f)

theorem dd_small {n : Nat} (h : n < 100000) : (Lib.decDigits n).length ≤ 6 := dd_len (k := 6) (by omega) (by omega)

theorem firstW_len (kind : Nat) : (firstW kind).length = 5 := by unfold firstW; split <;> rfl

theorem arr_strs {w : World} {q : Nat} {ws : List ByteArray} (h : Arr w q 9 (ws.map Value.string)) : ∀ (j : Nat) x, ws[j]? = some x → w.cell? ⟨q, 0 + j, none⟩ = some (.string x) := fun j x hx => by
  rw [Nat.zero_add]
  have := congrArg (Option.map Value.string) hx
  rw [← List.getElem?_map] at this
  exact h.cell this

theorem ent_len {kind : Nat} {y : Nat × Nat × Nat} (h1 : y.1 ≤ 40) (h2 : y.2.1 ≤ 40) (h3 : (prL y.2.2).length ≤ 100) : (lineL (entW kind y)).length ≤ 200 := by
  have d1 := dd_small (n := y.1 + 1) (by omega)
  have d2 := dd_small (n := y.2.1 + 1) (by omega)
  unfold lineL entW
  split
  · simp [Lib.join_cons, Lib.joinTail]; omega
  · simp [Lib.join_one]; omega

theorem siz_len {kind R C n : Nat} (hR : R ≤ 40) (hC : C ≤ 40) (hn : n ≤ 1600) : (lineL (sizW kind R C n)).length ≤ 200 := by
  have d1 := dd_small (n := R) (by omega)
  have d2 := dd_small (n := C) (by omega)
  have d3 := dd_small (n := n) (by omega)
  unfold lineL sizW
  split
  · simp [Lib.join_cons, Lib.joinTail]; omega
  · simp [Lib.join_cons, Lib.joinTail]; omega

theorem first_len (kind : Nat) : (lineL (firstW kind)).length ≤ 200 := by
  unfold firstW lineL
  split <;> · simp [Lib.join_cons, Lib.joinTail]

theorem bodyL_snoc (kind : Nat) (es : List (Nat × Nat × Nat)) (y : Nat × Nat × Nat) : bodyL kind (es ++ [y]) = bodyL kind es ++ lineL (entW kind y) := by simp [bodyL]

set_option maxRecDepth 20000 in
set_option maxHeartbeats 2000000 in
theorem market_any (w : World) (kind R C g : Nat) (f : Nat → Nat → Nat) (l : List Value) (hk : kind ≤ 3) (hR : R ≤ 40) (hC : C ≤ 40) (hm : MemM C g R f w) (hg : Arr w g 65 l) (hf : ∀ i j, f i j < 18446744073709551616) (htab : Lib.TabIs Tryz.prog w "internal/strconv.uint64pow10" .u64 Lib.pow10Tab) :
    Calls Tryz.prog 73 #[matV R C g, .int .i64 (kind : Int)] w fun e w' => ∃ s : ByteArray, e = .returned (.string s) ∧ s.data.toList = textL kind R C f ∧ Below w.heap.size w w' := by
  obtain ⟨b, hb⟩ : ∃ b, w.heap.size = b := ⟨_, rfl⟩
  have hgb : g < b := by have := hm.1; omega
  have hRC : R * C ≤ 40 * 40 := Nat.mul_le_mul hR hC
  have hel := entL_len kind R C f
  have HT := hid htab
  have HF := hid hf
  refine callsIn_wide (n := 0) |>.1 ?_
  refine callsIn_of_wp_marks Tryz.func73 rfl trivial ?_ rfl
  simp only [Tryz.ntmps73, List.size_toArray, List.length_cons, List.length_nil, Nat.reduceAdd, Nat.reduceSub, Array.replicate_succ, Array.replicate_zero, List.push_toArray, List.append_toArray, List.nil_append, List.cons_append, matV]
  have hdep : Fence.wide.depth = none := rfl
  have hf1 : Fence.wide.fn 110 := trivial
  have hf2 : Fence.wide.fn 108 := trivial
  have hf3 : Fence.wide.fn 107 := trivial
  have hf4 : Fence.wide.fn 109 := trivial
  have hf5 : Fence.wide.fn 111 := trivial
  have hf6 : Fence.wide.fn 112 := trivial
  gi_wp2_with fail
  obtain ⟨O, hO⟩ : ∃ O : List Obj, [.cells #[.int .i64 (R : Int), .int .i64 (C : Int), .slice (some ⟨g, 0, none⟩) (R * C) (R * C)] 88, .cells #[.int .i64 (kind : Int)] 3, .cells #[.pointer none, .slice none 0 0] 152] = O := ⟨_, rfl⟩
  obtain ⟨V, hV⟩ : ∃ V, allocs w O = V := ⟨_, rfl⟩
  have eV : ((w.alloc (.cells #[.int .i64 (R : Int), .int .i64 (C : Int), .slice (some ⟨g, 0, none⟩) (R * C) (R * C)] 88)).alloc (.cells #[.int .i64 (kind : Int)] 3)).alloc (.cells #[.pointer none, .slice none 0 0] 152) = V := by rw [← hV, ← hO]; rfl
  have zV : V.heap.size = b + 3 := by rw [← hV, allocs_size, hb, ← hO]; rfl
  have bV : Below b w V := by rw [← hV, ← hb]; exact allocs_below w O
  have hat : ∀ i o, O[i]? = some o → V.heap[b + i]? = some o := fun i o h => by rw [← hV, ← hb]; exact allocs_at O w i o h
  have mV : Arr V b 88 [.int .i64 (R : Int), .int .i64 (C : Int), .slice (some ⟨g, 0, none⟩) (R * C) (R * C)] := hat 0 _ (by rw [← hO]; rfl)
  have kV : Arr V (b + 1) 3 [.int .i64 (kind : Int)] := hat 1 _ (by rw [← hO]; rfl)
  have sV : Lib.IsBuilderF 152 5 (b + 2) (b + 2) (u8s []) V := .inl ⟨Nat.le_refl _, .slice none 0 0, hat 2 _ (by rw [← hO]; rfl), World.ownsRowF_nil _ _ _ _, by simp [Value.ownBlock]⟩
  rw [eV]
  clear eV hat hV hO htab hf
  have HMV := hid mV
  have HKV := hid kV
  have HSV := hid sV
  have HBV := hid bV
  have HM := hid hm
  have HG := hid hg
  obtain ⟨n, hn⟩ : ∃ n, (entL kind R C f).length = n := ⟨_, rfl⟩
  have HN := hid hn
  have hn2 : n ≤ 1600 := by omega
  clear mV kV sV bV hm hg hn hel
  obtain ⟨j1, hj1⟩ : ∃ j1, Lib.join ((firstW kind).map (·.data.toList)) [32] = j1 := ⟨_, rfl⟩
  obtain ⟨sw, hsw⟩ : ∃ sw, sizW kind R C n = sw := ⟨_, rfl⟩
  obtain ⟨j2, hj2⟩ : ∃ j2, Lib.join (sw.map (·.data.toList)) [32] = j2 := ⟨_, rfl⟩
  have hj1l : j1.length ≤ 199 := by have := first_len kind; unfold lineL at this; rw [hj1] at this; simp at this; omega
  have hj2l : j2.length ≤ 199 := by have := siz_len (kind := kind) (n := n) hR hC hn2; unfold lineL at this; rw [hsw, hj2] at this; simp at this; omega
  have hswl : sw.length ≤ 3 := by rw [← hsw]; unfold sizW; split <;> simp
  have HHD : Hid (lineL (firstW kind) ++ lineL (sizW kind R C n) = j1 ++ [10] ++ j2 ++ [10]) := by show _ = _; rw [hsw]; unfold lineL; rw [hj1, hj2]; simp
  have HJ1 := hid hj1
  have HJ2 := hid hj2
  have HSW := hid hsw
  clear hj1 hj2 hsw
  refine (callsIn_wide (n := 0).2 (first_any V kind hk)).mono ?_
  rintro e W1 ⟨rfl, hW1⟩
  have q1 : Arr W1 V.heap.size 9 ((firstW kind).map Value.string) := by rw [hW1]; exact Arr.newL _ _ _
  have b1 : Below V.heap.size V W1 := by rw [hW1]; exact Below.refl' _ _
  clear hW1
  have HA := addLine_any W1 (b + 2) (b + 2) V.heap.size 5 [] (firstW kind) (builder_below HSV.out b1) (by have := b1.size; omega) (by simp) (arr_strs q1) q1.lt (by rw [firstW_len]; omega) (by rw [firstW_len]; omega) j1 HJ1.out (by omega)
  rw [firstW_len, List.nil_append, zV] at HA
  have HA' := hid HA
  have HB1 := hid b1
  clear HA q1 b1
  gi_wp2_with fail
  refine (callsIn_wide (n := 0).2 HA'.out).mono ?_
  rintro e W2 ⟨⟨v2, rfl⟩, s2, b2, o2⟩
  have b1 := HB1.out
  have m2 := (HMV.out.belowAll b1).below b2 (by omega)
  have k2 := (HKV.out.belowAll b1).below b2 (by omega)
  have z1 := b1.size
  have z2 := b2.size
  have bW2 : Below b w W2 := (HBV.out.trans (b1.mono (by omega))).trans (b2.mono (by omega))
  have HS2 := hid s2
  have HBW2 := hid bW2
  have HM2 := hid m2
  have HK2 := hid k2
  have c0 := m2.cell (i := 0) rfl
  have c1 := m2.cell (i := 1) rfl
  have c2 := m2.cell (i := 2) rfl
  have c3 := k2.cell (i := 0) rfl
  have HSZ := hid (callsIn_wide (n := 0).2 (sizes_any W2 kind R C g f l hk hR hC (HM.out.below bW2 hgb) (HG.out.below bW2 hgb) (tab_below HT.out (hb ▸ bW2))))
  rw [HN.out, HSW.out] at HSZ
  unfold matV at HSZ
  have zz2 : b + 3 ≤ W2.heap.size := by omega
  clear s2 b2 o2 b1 m2 k2 bW2 HA' z1 z2
  gi_wp2_with fail
  refine HSZ.out.mono ?_
  rintro e W3 ⟨q3, cap3, rfl, hcap3, hq3, hc3, b3⟩
  have z3 := b3.size
  have HA := hid (callsIn_wide (n := 0).2 (addLine_any W3 (b + 2) (b + 2) q3 cap3 (j1 ++ [10]) sw (builder_below HS2.out b3) (by omega) (by simp; omega) hc3 hq3 (by omega) hcap3 j2 HJ2.out (by omega)))
  have HB3 := hid b3
  have HM3 := hid (HM2.out.belowAll b3)
  have HK3 := hid (HK2.out.belowAll b3)
  clear c0 c1 c2 c3 HSZ hc3 b3 hcap3 hq3 HM2 HK2
  gi_wp2_with fail
  refine HA.out.mono ?_
  rintro e W4 ⟨⟨v4, rfl⟩, s4, b4, o4⟩
  have m4 := HM3.out.below b4 (by omega)
  have k4 := HK3.out.below b4 (by omega)
  have z4 := b4.size
  have bW4 : Below b w W4 := (HBW2.out.trans (HB3.out.mono (by omega))).trans (b4.mono (by omega))
  have HS4 := hid s4
  have HBW4 := hid bW4
  have HM4 := hid m4
  have HK4 := hid k4
  have HE := hid (callsIn_wide (n := 0).2 (entries_any W4 kind R C g f (by omega) hR hC))
  unfold matV at HE
  have c0 := m4.cell (i := 0) rfl
  have c1 := m4.cell (i := 1) rfl
  have c2 := m4.cell (i := 2) rfl
  have c3 := k4.cell (i := 0) rfl
  have zz4 : b + 3 ≤ W4.heap.size := by omega
  clear s4 b4 o4 m4 k4 bW4 HA z3 z4
  gi_wp2_with fail
  refine HE.out.mono ?_
  rintro e W0 ⟨gf, fst, lb, rfl, Mem, eg, hgv, hmm, hty, hbe⟩
  clear c0 c1 c2 c3 HE
  have HEG := hid eg
  have HGV := hid hgv
  have HMM := hid hmm
  have HTY := hid hty
  have HBE := hid hbe
  clear eg hgv hmm hty hbe
  gi_wp2_with fail
  have hbe := HBE.out
  have s0 : Lib.IsBuilderF 152 5 (b + 2) (b + 2) (u8s (j1 ++ [10] ++ j2 ++ [10])) W0 := builder_below HS4.out hbe
  have k0 : Arr W0 (b + 1) 3 [.int .i64 (kind : Int)] := HK4.out.belowAll hbe
  have bW0 : Below b w W0 := HBW4.out.trans (hbe.mono (by omega))
  have g0 : Arr W0 g 65 l := HG.out.below bW0 hgb
  have mm0 : MemM C g R f W0 := HM.out.below bW0 hgb
  have z0 : b + 3 ≤ W0.heap.size := by have := hbe.size; omega
  obtain ⟨hdl, hhd⟩ : ∃ hdl, j1 ++ [10] ++ j2 ++ [10] = hdl := ⟨_, rfl⟩
  have hhl : hdl.length ≤ 400 := by rw [← hhd]; simp; omega
  rw [hhd] at s0
  have HHD2 := hid hhd
  clear hhd
  refine range_gives 0 (gf := gf) (fst := fst) (lb := lb) rfl HEG.out HGV.out (by intro x hx; obtain ⟨y, _, rfl⟩ := List.mem_map.1 hx; rfl)
    (fun k W => Lib.IsBuilderF 152 5 (b + 2) (b + 2) (u8s (hdl ++ bodyL kind ((entL kind R C f).take k))) W ∧ Lib.OthersKept 5 (some (b + 2)) W0 W ∧ Below (b + 2) W0 W ∧ W0.heap.size ≤ W.heap.size ∧ (bodyL kind ((entL kind R C f).take k)).length ≤ 200 * k)
    (fun _ _ => False)
    (fun x a' W' => ∃ (y : Nat × Nat × Nat) (Bx : Nat), x = entV y ∧ W0.heap.size ≤ Bx ∧ Arr W' Bx 117 [.int .i64 (y.1 : Int), .int .i64 (y.2.1 : Int)] ∧ a' = { tmps := #[.agg #[.int .i64 (R : Int), .int .i64 (C : Int), .slice (some ⟨g, 0, none⟩) (R * C) (R * C)], .int .i64 (kind : Int), .pointer (some ⟨b, 0, none⟩), .pointer (some ⟨b + 1, 0, none⟩), .string ⟨#[]⟩, .pointer (some ⟨b + 1 + 1, 0, none⟩), .pointer (some ⟨Bx, 0, none⟩), .int .u64 (y.2.2 : Int), .int .i64 (kind : Int), .slice (some ⟨b + 3, 0, none⟩) 5 5, v2, .agg #[.int .i64 (R : Int), .int .i64 (C : Int), .slice (some ⟨g, 0, none⟩) (R * C) (R * C)], .int .i64 (kind : Int), .slice (some ⟨q3, 0, none⟩) sw.length cap3, v4, .agg #[.int .i64 (R : Int), .int .i64 (C : Int), .slice (some ⟨g, 0, none⟩) (R * C) (R * C)], .int .i64 (kind : Int), .func (.func gf) fst lb, plcV y.1 y.2.1, .int .u64 (y.2.2 : Int), undef, undef, undef, undef, undef, undef], defers := [] })
    ?hMem ?hI ?hIx ?hAx ?h0 ?assign ?body ?done ?stop
  case hMem =>
    rintro k W ⟨h1, h3, h4, h5, _⟩
    refine HMM.out W (mm0.others h3 g0 (fun e => by cases e; omega) h5) (fun q hq1 hq2 => ?_)
    obtain ⟨o, ho, hno⟩ := HTY.out q hq1 hq2
    exact (h3 q o ho (fun e => by cases e; omega) hno).trans ho.symm
  case hI => rintro k A B ⟨h1, h3, h4, h5, h6⟩ s; exact ⟨builder_sim h1 s, others_sim h3 s, h4.trans (Below.ofSim s (by omega) (by omega)), Nat.le_trans h5 s.size, h6⟩
  case hIx => exact fun c A B h s => h
  case hAx => rintro x a' A B ⟨y, Bx, h1, h2, h3, h4⟩ s; exact ⟨y, Bx, h1, h2, h3.sim s, h4⟩
  case h0 => exact ⟨by simpa [bodyL] using s0, Lib.OthersKept.refl _ _ _, Below.refl _ _, Nat.le_refl _, by simp [bodyL]⟩
  case assign =>
    intro l1 k x W1 K hx hi hK
    obtain ⟨y, hy, rfl⟩ := map_get hx
    have HK : Hid _ := hid (hK { tmps := #[.agg #[.int .i64 (R : Int), .int .i64 (C : Int), .slice (some ⟨g, 0, none⟩) (R * C) (R * C)], .int .i64 (kind : Int), .pointer (some ⟨b, 0, none⟩), .pointer (some ⟨b + 1, 0, none⟩), .string ⟨#[]⟩, .pointer (some ⟨b + 1 + 1, 0, none⟩), .pointer (some ⟨W1.heap.size, 0, none⟩), .int .u64 (y.2.2 : Int), .int .i64 (kind : Int), .slice (some ⟨b + 3, 0, none⟩) 5 5, v2, .agg #[.int .i64 (R : Int), .int .i64 (C : Int), .slice (some ⟨g, 0, none⟩) (R * C) (R * C)], .int .i64 (kind : Int), .slice (some ⟨q3, 0, none⟩) sw.length cap3, v4, .agg #[.int .i64 (R : Int), .int .i64 (C : Int), .slice (some ⟨g, 0, none⟩) (R * C) (R * C)], .int .i64 (kind : Int), .func (.func gf) fst lb, plcV y.1 y.2.1, .int .u64 (y.2.2 : Int), undef, undef, undef, undef, undef, undef], defers := [] } (W1.alloc (plcO y.1 y.2.1))
      (KeptFrom.below (Below.refl' _ _)) ⟨builder_below hi.1 (Below.refl' _ _), hi.2.1.alloc _, hi.2.2.1.alloc (by have := hi.2.2.2.1; omega) _, by have := hi.2.2.2.1; simp; omega, hi.2.2.2.2⟩ ⟨y, W1.heap.size, rfl, hi.2.2.2.1, Arr.newL _ _ _, rfl⟩)
    clear hK hi hx hy s0
    unfold entV plcV
    unfold plcV plcO at HK
    gi_wp2
    exact HK.out
  case body =>
    rintro l1 k x a' W1 hx ⟨h1, h3, h4, h5, h6⟩ ⟨y, Bx, rfl, hBx, hb2, rfl⟩
    obtain ⟨y', hy, hye⟩ := map_get hx
    obtain rfl := entV_inj hye
    have hkl : k < (entL kind R C f).length := (List.getElem?_eq_some_iff.1 hy).1
    have hmem := entL_mem (List.mem_of_getElem? hy)
    have HSN : Hid (bodyL kind ((entL kind R C f).take (k + 1)) = bodyL kind ((entL kind R C f).take k) ++ lineL (entW kind y')) := by show _ = _; rw [List.take_add_one, hy]; exact bodyL_snoc _ _ _
    have bW1 : Below b w W1 := bW0.trans (h4.mono (by omega))
    have kk := k0.below h4 (by omega)
    have HEN := hid (CallsIn.inRound l1 (callsIn_wide (n := 0).2 (entry_any W1 kind y' hk (by omega) (by omega) (by rw [hmem.2.2]; exact HF.out _ _) (tab_below HT.out (hb ▸ bW1)))))
    have c0 := hb2.cell (i := 0) rfl
    have c1 := hb2.cell (i := 1) rfl
    have c2 := kk.cell (i := 0) rfl
    have H1 := hid h1
    have H3 := hid h3
    have H4 := hid h4
    have HY := hid hmem
    have hnk : k < n := by rw [← HN.out]; exact hkl
    unfold plcV at HEN ⊢
    clear hx hye hy h1 h3 h4 s0 bW1 hmem hkl
    gi_wp2_with fail
    refine HEN.out.mono ?_
    rintro e W2 ⟨q, rfl, aq, b2, hpr⟩
    have hel1 := ent_len (kind := kind) (y := y') (by have := HY.out.1; omega) (by have := HY.out.2.1; omega) hpr
    obtain ⟨ew, hew⟩ : ∃ ew, entW kind y' = ew := ⟨_, rfl⟩
    obtain ⟨je, hje⟩ : ∃ je, Lib.join (ew.map (·.data.toList)) [32] = je := ⟨_, rfl⟩
    have hlje : lineL (entW kind y') = je ++ [10] := by rw [hew]; unfold lineL; rw [hje]
    rw [hlje] at hel1
    have hewl : ew.length ≤ 3 := by rw [← hew]; unfold entW; split <;> simp
    rw [hew] at aq
    have HAL := hid (CallsIn.inRound l1 (callsIn_wide (n := 0).2 (addLine_any W2 (b + 2) (b + 2) q ew.length _ ew (builder_below H1.out b2) (by have := b2.size; omega) (by simp; omega) (arr_strs aq) aq.lt (by omega) (Nat.le_refl _) je hje (by simp at hel1; omega))))
    have HB2 := hid b2
    have HLJ := hid hlje
    clear c0 c1 c2 HEN aq b2 hje hlje
    rw [hew]
    clear hew
    gi_wp2_with fail
    refine HAL.out.mono ?_
    rintro e W3 ⟨⟨v, rfl⟩, s3, b3, o3⟩
    have b2 := HB2.out
    gi_wp2
    refine ⟨(KeptFrom.below b2).trans (KeptFrom.others o3 b3.size (by omega)), ?_, (H3.out.trans (others_below b2)).trans o3, (H4.out.trans (b2.mono (by omega))).trans b3, by have := b2.size; have := b3.size; omega, ?_⟩
    · rw [HSN.out, HLJ.out, ← List.append_assoc, ← List.append_assoc]; exact s3
    · rw [HSN.out, HLJ.out]; simp at hel1 ⊢; omega
  case done =>
    rintro D W1 hD ⟨h1, h3, h4, h5, h6⟩ hK
    rw [List.length_map, List.take_length] at h1
    have HST := hid (callsIn_wide (n := 0).2 (Tryz.Builder_String_any_k (b + 2) (b + 2) (hdl ++ bodyL kind (entL kind R C f)) W1 h1 (by omega)))
    have H4 := hid h4
    clear h1 h3 h4 s0
    gi_wp2_with fail
    refine HST.out.mono ?_
    rintro e W2 ⟨rfl, _, b2, o2⟩
    have hK2 : W2.heap[D]? = some (.deferred (some [])) := o2 D _ hK (fun e => by cases e; omega) (fun c fz e => by cases e)
    clear o2
    gi_wp2
    refine ⟨by simp, .inl ⟨_, _, rfl, run_takeDeferred hK2, ?_⟩⟩
    refine ⟨_, results_tmp rfl _ _ _, _, rfl, ?_, ?_⟩
    · simp only
      unfold textL
      rw [← HHD2.out, HN.out, HHD.out]
    · rw [hb]
      exact ((bW0.trans (H4.out.mono (by omega))).trans (b2.mono (by omega))).trans ⟨rfl, rfl, rfl, by simp [World.putObj], fun q hq => World.putObj_heap_other (by omega)⟩
  case stop => exact fun _ _ _ _ h => h.elim

end Go.Proofs.YthdcceackfdbbaaGreatDoor
/- Own text: the canonical nan, in the program and in the reference. -/
namespace Go.Proofs.YthdcceackfdbbaaGreatDoor
open Go Go.RowKit Go.Shelf

theorem and_hi52 (x M : Nat) : x &&& (M * 2 ^ 52) = ((x / 2 ^ 52) &&& M) * 2 ^ 52 := by
  apply Nat.eq_of_testBit_eq
  intro i
  rw [Nat.testBit_and, Nat.testBit_mul_two_pow, Nat.testBit_mul_two_pow, Nat.testBit_and, Nat.testBit_div_two_pow]
  by_cases hi : 52 ≤ i
  · rw [show i - 52 + 52 = i by omega]
    simp [hi]
  · simp [hi]

theorem and_infin {x : Nat} (h : x < 18446744073709551616) : bits BinOp.and IntKind.u64 (x : Int) 9218868437227405312 = ((x / 4503599627370496 % 2048 * 4503599627370496 : Nat) : Int) := by
  rw [show (9218868437227405312 : Int) = ((2047 * 2 ^ 52 : Nat) : Int) from rfl, u64_and_nat _ _ h (by omega), and_hi52]
  congr 2
  exact Nat.and_two_pow_sub_one_eq_mod (x / 2 ^ 52) 11

theorem canon_any : CanonOk := by
  intro w x hx
  have h1 := andNot_sign hx
  obtain ⟨s, hs⟩ : ∃ s, x % 9223372036854775808 = s := ⟨_, rfl⟩
  rw [hs] at h1
  by_cases c : 9218868437227405312 < s
  · have cb : decide ((9218868437227405312 : Int) < (s : Int)) = true := by simp; omega
    have hc : canon x = 9221120237041090560 := by unfold canon; rw [hs, if_pos c]
    rw [hc]
    go_enter Tryz.func102, Tryz.ntmps102
    go_wp2
    go_ret
    exact ⟨rfl, rfl⟩
  · have cb : decide ((9218868437227405312 : Int) < (s : Int)) = false := by simp; omega
    have hc : canon x = x := by unfold canon; rw [hs, if_neg c]
    rw [hc]
    go_enter Tryz.func102, Tryz.ntmps102
    go_wp2
    go_ret
    exact ⟨rfl, rfl⟩

theorem refcanon_any (w : World) (x : Nat) (hx : x < 18446744073709551616) : Calls Tryz.prog 74 #[.int .u64 (x : Int)] w fun e w' => e = .returned (.int .u64 (canon x : Int)) ∧ w' = w := by
  have h1 := and_infin hx
  have h2 := and_frac hx
  obtain ⟨s, hs⟩ : ∃ s, x / 4503599627370496 % 2048 * 4503599627370496 = s := ⟨_, rfl⟩
  obtain ⟨f, hf⟩ : ∃ f, x % 4503599627370496 = f := ⟨_, rfl⟩
  rw [hs] at h1
  rw [hf] at h2
  by_cases c : s = 9218868437227405312
  · have cb : ((s : Int) == 9218868437227405312) = true := by simp; omega
    by_cases d : f = 0
    · have db : ((f : Int) != 0) = false := by simp; omega
      have hc : canon x = x := by unfold canon; rw [if_neg (by omega)]
      rw [hc]
      clear hs hf hc c d
      go_enter Tryz.func74, Tryz.ntmps74
      go_wp2
      go_ret
      exact ⟨rfl, rfl⟩
    · have db : ((f : Int) != 0) = true := by simp; omega
      have hc : canon x = 9221120237041090560 := by unfold canon; rw [if_pos (by omega)]
      rw [hc]
      clear hs hf hc c d
      go_enter Tryz.func74, Tryz.ntmps74
      go_wp2
      go_ret
      exact ⟨rfl, rfl⟩
  · have cb : ((s : Int) == 9218868437227405312) = false := by simp; omega
    have hc : canon x = x := by unfold canon; rw [if_neg (by omega)]
    rw [hc]
    clear hs hf hc c
    go_enter Tryz.func74, Tryz.ntmps74
    go_wp2
    go_ret
    exact ⟨rfl, rfl⟩

end Go.Proofs.YthdcceackfdbbaaGreatDoor
namespace Go.Proofs.YthdcceackfdbbaaGreatDoor
open Go Go.RowKit

theorem isSide_b (w : World) (k : Int) (b : Bool) (hb : decide (0 ≤ k ∧ k ≤ 40) = b) : Calls Tryz.prog 60 #[.int .i64 k] w fun e w' => e = .returned (.bool b) ∧ w' = w := by
  rw [← hb]; exact isSide_any w k

set_option maxHeartbeats 1000000 in
theorem fits_any (w : World) (R C off rs cs : Int) (n : Nat) (hn : n < 9223372036854775808) :
    Calls Tryz.prog 39 #[viewV R C off rs cs, .int .i64 (n : Int)] w fun e w' => BoolOk (FitV R C off rs cs n) e ∧ Below w.heap.size w w' := by
  have HB : Hid (∀ o, Below w.heap.size w (w.alloc o)) := fun o => (Below.refl _ _).alloc (Nat.le_refl _) _
  unfold viewV
  by_cases c0 : 100000 < n
  · have HN : Hid (¬ FitV R C off rs cs n) := fun h => by have := h.1; omega
    have c0' : (100000 : Int) < n := by omega
    go_enter Tryz.func39, Tryz.ntmps39
    go_wp2
    go_ret
    exact ⟨boolOk_f HN.out, HB.out _⟩
  have c0' : ¬ (100000 : Int) < n := by omega
  by_cases c1 : ¬ (0 ≤ R ∧ R ≤ 40)
  · have e1 : decide (0 ≤ R ∧ R ≤ 40) = false := by simp only [decide_eq_false_iff_not]; exact c1
    have HN : Hid (¬ FitV R C off rs cs n) := fun h => c1 h.2.1
    clear c1
    go_enter Tryz.func39, Tryz.ntmps39
    go_wp2_with fail
    refine (isSide_b _ _ false e1).mono ?_
    rintro e w1 ⟨rfl, rfl⟩
    clear e1
    go_wp2
    go_ret
    exact ⟨boolOk_f HN.out, HB.out _⟩
  replace c1 := Decidable.not_not.1 c1
  have e1 : decide (0 ≤ R ∧ R ≤ 40) = true := by simp only [decide_eq_true_eq]; exact c1
  by_cases c2 : ¬ (0 ≤ C ∧ C ≤ 40)
  · have e2 : decide (0 ≤ C ∧ C ≤ 40) = false := by simp only [decide_eq_false_iff_not]; exact c2
    have HN : Hid (¬ FitV R C off rs cs n) := fun h => c2 h.2.2.1
    clear c1 c2
    go_enter Tryz.func39, Tryz.ntmps39
    go_wp2_with fail
    refine (isSide_b _ _ true e1).mono ?_
    rintro e w1 ⟨rfl, rfl⟩
    clear e1
    go_wp2_with fail
    refine (isSide_b _ _ false e2).mono ?_
    rintro e w1 ⟨rfl, rfl⟩
    clear e2
    go_wp2
    go_ret
    exact ⟨boolOk_f HN.out, HB.out _⟩
  replace c2 := Decidable.not_not.1 c2
  have e2 : decide (0 ≤ C ∧ C ≤ 40) = true := by simp only [decide_eq_true_eq]; exact c2
  obtain ⟨r, rfl⟩ := Int.eq_ofNat_of_zero_le c1.1
  obtain ⟨c, rfl⟩ := Int.eq_ofNat_of_zero_le c2.1
  by_cases hr : r = 0
  · subst hr
    have HN : Hid (FitV ((0 : Nat) : Int) c off rs cs n) := ⟨by omega, c1, c2, .inl rfl⟩
    clear c1 c2
    go_enter Tryz.func39, Tryz.ntmps39
    go_wp2_with fail
    refine (isSide_b _ _ true e1).mono ?_
    rintro e w1 ⟨rfl, rfl⟩
    clear e1
    go_wp2_with fail
    refine (isSide_b _ _ true e2).mono ?_
    rintro e w1 ⟨rfl, rfl⟩
    clear e2
    go_wp2
    go_ret
    exact ⟨boolOk_t HN.out, HB.out _⟩
  have hr' : ¬ (r : Int) = 0 := by omega
  by_cases hc : c = 0
  · subst hc
    have HN : Hid (FitV r ((0 : Nat) : Int) off rs cs n) := ⟨by omega, c1, c2, .inr (.inl rfl)⟩
    clear c1 c2
    go_enter Tryz.func39, Tryz.ntmps39
    go_wp2_with fail
    refine (isSide_b _ _ true e1).mono ?_
    rintro e w1 ⟨rfl, rfl⟩
    clear e1
    go_wp2_with fail
    refine (isSide_b _ _ true e2).mono ?_
    rintro e w1 ⟨rfl, rfl⟩
    clear e2
    go_wp2
    go_ret
    exact ⟨boolOk_t HN.out, HB.out _⟩
  have hc' : ¬ (c : Int) = 0 := by omega
  have hr2 : ((r : Int) == 0) = false := by simp; omega
  have hc2 : ((c : Int) == 0) = false := by simp; omega
  have HF : Hid (FitV r c off rs cs n ↔ Fit r c off rs cs n) := by
    show _ ↔ _
    unfold FitV
    simp only [Int.toNat_natCast]
    constructor
    · rintro ⟨_, _, _, h | h | h⟩
      · omega
      · omega
      · exact h
    · exact fun h => ⟨by omega, c1, c2, .inr (.inr h)⟩
  have hrr : 1 ≤ r ∧ r ≤ 40 := by omega
  have hcc : 1 ≤ c ∧ c ≤ 40 := by omega
  have HI : Hid _ := hid (fun w => inside_any w r c off rs cs n hrr hcc (by omega))
  have HM : Hid _ := hid (fun w => meets_any w r c off rs cs hrr hcc)
  have HP : Hid (Fit r c off rs cs n ↔ Corner r c off rs cs n ∧ ¬ Meets r c rs cs) := fit_prog (by omega) (by omega)
  clear c1 c2
  go_enter Tryz.func39, Tryz.ntmps39
  go_wp2_with fail
  refine (isSide_b _ _ true e1).mono ?_
  rintro e w1 ⟨rfl, rfl⟩
  clear e1
  go_wp2_with fail
  refine (isSide_b _ _ true e2).mono ?_
  rintro e w1 ⟨rfl, rfl⟩
  clear e2
  go_wp2_with fail
  refine (HI.out _).mono ?_
  rintro e w1 ⟨⟨b, rfl, hb, hs⟩, b1⟩
  have HB1 : Hid _ := hid b1
  have hsz := b1.size
  simp only [World.size_alloc] at hsz
  have k0 : w1.cell? ⟨w.heap.size, 0, none⟩ = some (.int .i64 (r : Int)) := (b1.cell (p := ⟨w.heap.size, 0, none⟩) (by simp)).trans (by simp [go_sem])
  have k1 : w1.cell? ⟨w.heap.size, 1, none⟩ = some (.int .i64 (c : Int)) := (b1.cell (p := ⟨w.heap.size, 1, none⟩) (by simp)).trans (by simp [go_sem])
  have k2 : w1.cell? ⟨w.heap.size, 2, none⟩ = some (.int .i64 off) := (b1.cell (p := ⟨w.heap.size, 2, none⟩) (by simp)).trans (by simp [go_sem])
  have k3 : w1.cell? ⟨w.heap.size, 3, none⟩ = some (.int .i64 rs) := (b1.cell (p := ⟨w.heap.size, 3, none⟩) (by simp)).trans (by simp [go_sem])
  have k4 : w1.cell? ⟨w.heap.size, 4, none⟩ = some (.int .i64 cs) := (b1.cell (p := ⟨w.heap.size, 4, none⟩) (by simp)).trans (by simp [go_sem])
  have HB2 : Hid (Below w.heap.size w w1) := (HB.out _).trans (b1.mono (by simp))
  clear b1
  have HH := hid hb
  have HS := hid hs
  clear hb hs
  cases b with
  | false =>
    go_wp2
    go_ret
    exact ⟨boolOk_f (fun h => by have := HH.out.2 (HP.out.1 (HF.out.1 h)).1; cases this), HB2.out⟩
  | true =>
    have HC0 := hid (HH.out.1 rfl)
    have HS0 := hid (HS.out rfl)
    clear HH HS
    go_wp2_with fail
    refine (HM.out _ HS0.out.1 HS0.out.2).mono ?_
    rintro e w2 ⟨⟨b, rfl, hb⟩, b2⟩
    have HH2 := hid hb
    have HB3 := hid b2
    clear hb b2
    go_wp2
    go_ret
    refine ⟨⟨!b, rfl, ?_⟩, HB2.out.trans (HB3.out.mono HB2.out.size)⟩
    rw [HF.out, HP.out, ← HH2.out]
    have := HC0.out
    cases b <;> simp [this]

end Go.Proofs.YthdcceackfdbbaaGreatDoor
/- Own text: write: the whole file, or the error. -/
namespace Go.Proofs.YthdcceackfdbbaaGreatDoor
open Go Go.RowKit Go.Shelf
attribute [local go_sem] Oper.semAt_some

/-- the matrix that a view shows -/
def seenF (xs : List Nat) (off rs cs : Int) (i j : Nat) : Nat := canon (xs.getD (off + i * rs + j * cs).toNat 0)

open Classical in
/-- the file, or nothing; and the error's number -/
noncomputable def fileL (xs : List Nat) (R C off rs cs kind : Int) : List UInt8 × Int :=
  if ¬ FitV R C off rs cs xs.length then ([], 2) else
  if ¬ (0 ≤ kind ∧ kind ≤ 5) then ([], 3) else
  if (kind = 1 ∨ kind = 3) ∧ R ≠ C then ([], 4) else
  if (kind = 1 ∨ kind = 3) ∧ ¬ SymM R.toNat (seenF xs off rs cs) then ([], 5) else
  if kind = 4 ∨ kind = 5 then (boxL kind.toNat R.toNat C.toNat (seenF xs off rs cs), 0) else
  (textL kind.toNat R.toNat C.toNat (seenF xs off rs cs), 0)

theorem seenF_lt {xs : List Nat} (h : ∀ x ∈ xs, x < 18446744073709551616) (off rs cs : Int) (i j : Nat) : seenF xs off rs cs i j < 18446744073709551616 := by
  unfold seenF
  refine canon_lt ?_
  rw [List.getD_eq_getElem?_getD]
  cases hx : xs[(off + i * rs + j * cs).toNat]? with
  | none => simp
  | some x => exact h x (List.mem_of_getElem? hx)

def FileR (L : List UInt8 × Int) (e : Ending) : Prop := ∃ s : ByteArray, e = .returned (.tuple #[.string s, .int .i64 L.2]) ∧ s.data.toList = L.1

theorem fileR_err {L : List UInt8 × Int} {n : Int} (h : L = ([], n)) : FileR L (.returned (.tuple #[.string { data := #[] }, .int .i64 n])) := by
  subst h; exact ⟨_, rfl, rfl⟩
theorem fileR_ok {L : List UInt8 × Int} {s : ByteArray} (h : L = (s.data.toList, 0)) : FileR L (.returned (.tuple #[.string s, .int .i64 0])) := by
  subst h; exact ⟨_, rfl, rfl⟩

set_option maxRecDepth 20000 in
set_option maxHeartbeats 4000000 in
theorem write_any (w : World) (R C off rs cs kind : Int) (bb n cap : Nat) (xs : List Nat) (hn : xs.length = n) (hn1 : n < 9223372036854775808) (hx : ∀ x ∈ xs, x < 18446744073709551616)
    (hbuf : ∀ (k x : Nat), xs[k]? = some x → w.cell? ⟨bb, k, none⟩ = some (.int .u64 (x : Int))) (hbb : bb < w.heap.size) (htab : Lib.TabIs Tryz.prog w "internal/strconv.uint64pow10" .u64 Lib.pow10Tab) :
    Calls Tryz.prog 42 #[.slice (some ⟨bb, 0, none⟩) n cap, viewV R C off rs cs, .int .i64 kind] w fun e w' => FileR (fileL xs R C off rs cs kind) e ∧ Below w.heap.size w w' := by
  obtain ⟨b, hb⟩ : ∃ b, w.heap.size = b := ⟨_, rfl⟩
  have HB := hid hbuf
  have HX := hid hx
  have HT := hid htab
  clear hbuf hx htab
  obtain ⟨L, hL⟩ : ∃ L, fileL xs R C off rs cs kind = L := ⟨_, rfl⟩
  rw [hL]
  have HL := hid hL
  clear hL
  unfold viewV
  go_enter Tryz.func42, Tryz.ntmps42
  go_wp2_with fail
  obtain ⟨V, hV⟩ : ∃ V, w.alloc (.cells #[.int .i64 R, .int .i64 C, .int .i64 off, .int .i64 rs, .int .i64 cs] 24) = V := ⟨_, rfl⟩
  have mV : Arr V b 24 [.int .i64 R, .int .i64 C, .int .i64 off, .int .i64 rs, .int .i64 cs] := by rw [← hV, ← hb]; exact Arr.newL w _ _
  have bV : Below b w V := by rw [← hV, ← hb]; exact Below.refl' _ _
  have zV : b + 1 = V.heap.size := by rw [← hV]; simp [hb]
  rw [hV]
  clear hV
  refine (fits_any V R C off rs cs n hn1).mono ?_
  rintro e W1 ⟨⟨bo, rfl, hbo⟩, b1⟩
  have m1 := mV.below b1 (by omega)
  have q1 : Below b w W1 := bV.trans (b1.mono (by omega))
  have HQ := hid q1
  have HM := hid m1
  have z1 : b + 1 ≤ W1.heap.size := by have := b1.size; omega
  have HZ := hid z1
  have HBO := hid hbo
  clear mV bV zV b1 m1 q1 z1 hbo
  cases bo with
  | false =>
    go_wp2
    go_ret2
    refine ⟨fileR_err ?_, by rw [hb]; exact HQ.out⟩
    rw [← HL.out]
    unfold fileL
    rw [if_pos (by rw [hn]; exact fun h => by have := HBO.out.2 h; cases this)]
  | true =>
    have hfit := HBO.out.1 rfl
    have HFV := hid hfit
    clear HBO
    obtain ⟨hn5, hR, hC, hF⟩ := hfit
    obtain ⟨r, rfl⟩ : ∃ r : Nat, R = (r : Int) := ⟨R.toNat, by omega⟩
    obtain ⟨c, rfl⟩ : ∃ c : Nat, C = (c : Int) := ⟨C.toNat, by omega⟩
    have c0 := HM.out.cell (i := 0) rfl
    have c1 := HM.out.cell (i := 1) rfl
    have c2 := HM.out.cell (i := 2) rfl
    have c3 := HM.out.cell (i := 3) rfl
    have c4 := HM.out.cell (i := 4) rfl
    have HF := hid hF
    clear hF
    go_wp2_with fail
    refine (known_any W1 kind).mono ?_
    rintro e W ⟨rfl, e1⟩
    obtain rfl : W1 = W := e1.symm
    by_cases hk : 0 ≤ kind ∧ kind ≤ 5
    · obtain ⟨k, rfl⟩ : ∃ k : Nat, kind = (k : Int) := ⟨kind.toNat, by omega⟩
      have hkb : decide (0 ≤ (k : Int) ∧ (k : Int) ≤ 5) = true := by simpa using hk
      rw [hkb]
      go_wp2_with fail
      refine (ksym_any W1 k).mono ?_
      rintro e W ⟨rfl, e1⟩
      obtain rfl : W1 = W := e1.symm
      have HBUF : Hid (∀ (k x : Nat), xs[k]? = some x → x < 18446744073709551616 ∧ W1.cell? ⟨bb, k, none⟩ = some (.int .u64 (x : Int))) :=
        hid fun k x h => ⟨HX.out x (List.mem_of_getElem? h), (HQ.out.cell (p := ⟨bb, k, none⟩) (by show bb < b; omega)).trans (HB.out k x h)⟩
      have HFit : Hid (r = 0 ∨ c = 0 ∨ Fit r c off rs cs n) := hid (by
        rcases HF.out with h | h | h
        · exact .inl (by omega)
        · exact .inr (.inl (by omega))
        · exact .inr (.inr h))
      by_cases hs : (k : Int) = 1 ∨ (k : Int) = 3
      · have hsb : decide ((k : Int) = 1 ∨ (k : Int) = 3) = true := by simpa using hs
        rw [hsb]
        by_cases hrc : r = c
        · subst hrc
          go_wp2_with fail
          refine (copy_any canon_any W1 r r off rs cs bb n cap xs (by omega) (by omega) hn HFit.out hn5 HBUF.out (by have := HZ.out; omega)).mono ?_
          rintro e W2 ⟨g, rfl, hm, hg, b2, l, hl⟩
          unfold matV
          have HG := hid hg
          clear hg
          go_wp2_with fail
          obtain ⟨p, hp⟩ : ∃ p, W2.heap.size = p := ⟨_, rfl⟩
          obtain ⟨W3, hW3⟩ : ∃ W3, W2.alloc (.cells #[.int .i64 (r : Int), .int .i64 (r : Int), .slice (some ⟨g, 0, none⟩) (r * r) (r * r)] 88) = W3 := ⟨_, rfl⟩
          have a3 : Arr W3 p 88 [.int .i64 (r : Int), .int .i64 (r : Int), .slice (some ⟨g, 0, none⟩) (r * r) (r * r)] := by rw [← hW3, ← hp]; exact Arr.newL _ _ _
          have b3 : Below p W2 W3 := by rw [← hW3, ← hp]; exact Below.refl' _ _
          have hm3 : MemM r g r (seenF xs off rs cs) W3 := MemM.below hm b3 (by rw [← hp]; exact hm.1)
          have hl3 : Arr W3 g 65 l := by rw [← hW3]; exact hl.alloc _
          have hgp : g < p := by rw [← hp]; exact hm.1
          have q3 : Below b w W3 := (HQ.out.trans (b2.mono (by have := HZ.out; omega))).trans (b3.mono (by have := HZ.out; have := b2.size; omega))
          have z3 : p < W3.heap.size := a3.lt
          have T3 : Hid (Lib.TabIs Tryz.prog W3 "internal/strconv.uint64pow10" .u64 Lib.pow10Tab) := hid (tab_below HT.out (hb ▸ q3))
          rw [hW3, hp]
          clear hW3 b2 b3 hm hl
          have HA := hid a3
          have HM3 := hid hm3
          have HL3 := hid hl3
          have HQ3 := hid q3
          clear a3 hm3 hl3 q3
          refine (ksym_any W3 k).mono ?_
          rintro e W ⟨rfl, e1⟩
          obtain rfl : W3 = W := e1.symm
          rw [hsb]
          have d0 := HA.out.cell (i := 0) rfl
          have d1 := HA.out.cell (i := 1) rfl
          have d2 := HA.out.cell (i := 2) rfl
          go_wp2_with fail
          refine (sym_any W3 r g (seenF xs off rs cs) (by omega) HM3.out (seenF_lt HX.out off rs cs)).mono ?_
          rintro e W4 ⟨⟨bo, rfl, hbo⟩, b4⟩
          have HBO := hid hbo
          have q4 := HQ3.out.trans (b4.mono (by have := HQ3.out.size; omega))
          have HQ4 := hid q4
          have HA4 := hid (HA.out.below b4 z3)
          have HM4 := hid (HM3.out.below b4 (by omega))
          have HL4 := hid (HL3.out.below b4 (by omega))
          clear hbo q4 d0 d1 d2
          cases bo with
          | false =>
            clear b4
            go_wp2
            go_ret2
            refine ⟨fileR_err ?_, by rw [hb]; exact HQ4.out⟩
            rw [← HL.out]
            unfold fileL
            rw [if_neg (fun h => h (by rw [hn]; exact HFV.out)), if_neg (fun h => h hk), if_neg (fun h => h.2 rfl), if_pos ⟨hs, fun h => by have := HBO.out.2 h; cases this⟩]
          | true =>
            have hsy := HBO.out.1 rfl
            have HS := hid hsy
            have T4 : Hid (Lib.TabIs Tryz.prog W4 "internal/strconv.uint64pow10" .u64 Lib.pow10Tab) := hid (tab_below HT.out (hb ▸ HQ4.out))
            clear HBO hsy b4
            go_wp2_with fail
            refine (kbox_any W4 k).mono ?_
            rintro e W ⟨rfl, e1⟩
            obtain rfl : W4 = W := e1.symm
            have hxb : decide ((k : Int) = 4 ∨ (k : Int) = 5) = false := by simp; omega
            rw [hxb]
            have d0 := HA4.out.cell (i := 0) rfl
            have d1 := HA4.out.cell (i := 1) rfl
            have d2 := HA4.out.cell (i := 2) rfl
            go_wp2_with fail
            refine (market_any W4 k r r g (seenF xs off rs cs) l (by omega) (by omega) (by omega) HM4.out HL4.out (seenF_lt HX.out off rs cs) T4.out).mono ?_
            rintro e W5 ⟨t, rfl, ht, b5⟩
            have HH := hid ht
            have HB5 := hid b5
            clear ht b5
            go_wp2
            go_ret2
            refine ⟨fileR_ok ?_, by rw [hb]; exact HQ4.out.trans (HB5.out.mono (by have := HQ4.out.size; omega))⟩
            rw [← HL.out]
            unfold fileL
            rw [if_neg (fun h => h (by rw [hn]; exact HFV.out)), if_neg (fun h => h hk), if_neg (fun h => h.2 rfl), if_neg (fun h => h.2 HS.out), if_neg (by omega), HH.out]
            rfl
        · have hrb : ((r : Int) != (c : Int)) = true := by simp; omega
          go_wp2
          go_ret2
          refine ⟨fileR_err ?_, by rw [hb]; exact HQ.out⟩
          rw [← HL.out]
          unfold fileL
          rw [if_neg (fun h => h (by rw [hn]; exact HFV.out)), if_neg (fun h => h hk), if_pos ⟨hs, by omega⟩]
      · have hsb : decide ((k : Int) = 1 ∨ (k : Int) = 3) = false := by simpa using hs
        rw [hsb]
        go_wp2_with fail
        refine (copy_any canon_any W1 r c off rs cs bb n cap xs (by omega) (by omega) hn HFit.out hn5 HBUF.out (by have := HZ.out; omega)).mono ?_
        rintro e W2 ⟨g, rfl, hm, hg, b2, l, hl⟩
        unfold matV
        have HG := hid hg
        clear hg
        go_wp2_with fail
        obtain ⟨p, hp⟩ : ∃ p, W2.heap.size = p := ⟨_, rfl⟩
        obtain ⟨W3, hW3⟩ : ∃ W3, W2.alloc (.cells #[.int .i64 (r : Int), .int .i64 (c : Int), .slice (some ⟨g, 0, none⟩) (r * c) (r * c)] 88) = W3 := ⟨_, rfl⟩
        have a3 : Arr W3 p 88 [.int .i64 (r : Int), .int .i64 (c : Int), .slice (some ⟨g, 0, none⟩) (r * c) (r * c)] := by rw [← hW3, ← hp]; exact Arr.newL _ _ _
        have b3 : Below p W2 W3 := by rw [← hW3, ← hp]; exact Below.refl' _ _
        have hm3 : MemM c g r (seenF xs off rs cs) W3 := MemM.below hm b3 (by rw [← hp]; exact hm.1)
        have hl3 : Arr W3 g 65 l := by rw [← hW3]; exact hl.alloc _
        have hgp : g < p := by rw [← hp]; exact hm.1
        have q3 : Below b w W3 := (HQ.out.trans (b2.mono (by have := HZ.out; omega))).trans (b3.mono (by have := HZ.out; have := b2.size; omega))
        have z3 : p < W3.heap.size := a3.lt
        have T3 : Hid (Lib.TabIs Tryz.prog W3 "internal/strconv.uint64pow10" .u64 Lib.pow10Tab) := hid (tab_below HT.out (hb ▸ q3))
        rw [hW3, hp]
        clear hW3 b2 b3 hm hl
        have HA := hid a3
        have HM3 := hid hm3
        have HL3 := hid hl3
        have HQ3 := hid q3
        clear a3 hm3 hl3 q3
        refine (ksym_any W3 k).mono ?_
        rintro e W ⟨rfl, e1⟩
        obtain rfl : W3 = W := e1.symm
        rw [hsb]
        go_wp2_with fail
        refine (kbox_any W3 k).mono ?_
        rintro e W ⟨rfl, e1⟩
        obtain rfl : W3 = W := e1.symm
        have d0 := HA.out.cell (i := 0) rfl
        have d1 := HA.out.cell (i := 1) rfl
        have d2 := HA.out.cell (i := 2) rfl
        by_cases hx : (k : Int) = 4 ∨ (k : Int) = 5
        · have hxb : decide ((k : Int) = 4 ∨ (k : Int) = 5) = true := by simpa using hx
          rw [hxb]
          go_wp2_with fail
          refine (boxWrite_any W3 k r c g (seenF xs off rs cs) l (by omega) (by omega) (by omega) HM3.out HL3.out).mono ?_
          rintro e W5 ⟨t, rfl, ht, b5⟩
          have HH := hid ht
          have HB5 := hid b5
          clear ht b5
          go_wp2
          go_ret2
          refine ⟨fileR_ok ?_, by rw [hb]; exact HQ3.out.trans (HB5.out.mono (by have := HQ3.out.size; omega))⟩
          rw [← HL.out]
          unfold fileL
          rw [if_neg (fun h => h (by rw [hn]; exact HFV.out)), if_neg (fun h => h hk), if_neg (fun h => hs h.1), if_neg (fun h => hs h.1), if_pos hx, HH.out]
          rfl
        · have hxb : decide ((k : Int) = 4 ∨ (k : Int) = 5) = false := by simpa using hx
          rw [hxb]
          go_wp2_with fail
          refine (market_any W3 k r c g (seenF xs off rs cs) l (by omega) (by omega) (by omega) HM3.out HL3.out (seenF_lt HX.out off rs cs) T3.out).mono ?_
          rintro e W5 ⟨t, rfl, ht, b5⟩
          have HH := hid ht
          have HB5 := hid b5
          clear ht b5
          go_wp2
          go_ret2
          refine ⟨fileR_ok ?_, by rw [hb]; exact HQ3.out.trans (HB5.out.mono (by have := HQ3.out.size; omega))⟩
          rw [← HL.out]
          unfold fileL
          rw [if_neg (fun h => h (by rw [hn]; exact HFV.out)), if_neg (fun h => h hk), if_neg (fun h => hs h.1), if_neg (fun h => hs h.1), if_neg hx, HH.out]
          rfl
    · have hkb : decide (0 ≤ kind ∧ kind ≤ 5) = false := by simpa using hk
      rw [hkb]
      go_wp2
      go_ret2
      refine ⟨fileR_err ?_, by rw [hb]; exact HQ.out⟩
      rw [← HL.out]
      unfold fileL
      rw [if_neg (fun h => h (by rw [hn]; exact HFV.out)), if_pos hk]

end Go.Proofs.YthdcceackfdbbaaGreatDoor
