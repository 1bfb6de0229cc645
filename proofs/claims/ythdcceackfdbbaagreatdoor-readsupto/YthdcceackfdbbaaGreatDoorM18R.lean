import Derived.Test.YthdcceackfdbbaaGreatDoorM06R
import Derived.Test.YthdcceackfdbbaaGreatDoorRtQR
import Derived.Test.YthdcceackfdbbaaGreatDoorM17R
import Derived.Test.YthdcceackfdbbaaGreatDoorM15R
import Derived.Test.YthdcceackfdbbaaGreatDoorM01R
import Derived.Test.YthdcceackfdbbaaGreatDoorM10R
import Derived.RegionTactic
import Derived.BigQuiet
namespace Go.Proofs.YthdcceackfdbbaaGreatDoor
open Go Go.RowKit
theorem wholesL_step {ws : List ByteArray} {k m : Nat} {l : List Nat} {x : ByteArray} (hx : ws[k]? = some x) (hl : wholesL ((ws.take k).map (·.data.toList)) = some l) (hm : wholeL x.data.toList = some m) : wholesL ((ws.take (k + 1)).map (·.data.toList)) = some (l ++ [m]) := by
  rw [take_snoc_get hx, List.map_append, List.map_singleton, wholesL_snoc, hl, hm]
set_option maxRecDepth 20000 in
set_option maxHeartbeats 2000000 in
theorem rcounted_any (w : World) (ao : Option Addr) (n cap : Nat) (ws : List ByteArray) (hn : ws.length = n) (hn1 : n ≤ 1000000) (hsz : ∀ x ∈ ws, x.size ≤ 1000000) (hws : StrsAt w ao ws) :
    Calls Tryz.prog 151 #[.slice ao n cap] w fun e w' => WholesR w.heap.size (wholesL (ws.map (·.data.toList))) e w' ∧ Below w.heap.size w w' := by
  obtain ⟨b, hb⟩ : ∃ b, w.heap.size = b := ⟨_, rfl⟩
  obtain ⟨i0, hi, hz0, hz1, hz2⟩ := info_parts Tryz.infoInt
  have HI := hid hi
  have HWS := hid hws
  have HSZ := hid hsz
  clear hi hws hsz
  rw [hb]
  go_enter Tryz.func151, Tryz.ntmps151
  go_wp2
  go_loopw [4, 5] (fun v i wr => ∃ (k : Nat) (l : List Nat), k ≤ n ∧ i = .int .i64 (k : Int) ∧ Hid (wholesL ((ws.take k).map (·.data.toList)) = some l) ∧ l.length = k ∧ Hid (wr.ownsRow b 3 1 v k (intL l)) ∧ Hid (Below b w wr)) (fun _ i _ => n - (intOf i).toNat)
  case atStart => exact ⟨0, [], Nat.zero_le _, rfl, by rw [List.take_zero]; rfl, rfl, World.ownsRow_nil _ _ _ _, by rw [← hb]; exact Below.refl _ _⟩
  case round =>
    obtain ⟨k, l, hk, rfl, HL, hlk, HO, HB⟩ := hrel
    by_cases hlt : k < n
    · have hlt' : (k : Int) < n := by omega
      obtain ⟨x, hx⟩ : ∃ x, ws[k]? = some x := ⟨ws[k]'(by omega), by simp⟩
      obtain ⟨g, off, rfl, hg, hc⟩ := HWS.out k x hx
      have hc1 : wr.cell? ⟨g, off + k, none⟩ = some (.string x) := (HB.out.cell (p := ⟨g, off + k, none⟩) (by show g < b; omega)).trans hc
      have hxs := HSZ.out x (List.mem_of_getElem? hx)
      have HX := hid hx
      have hlx : x.data.toList.length = x.size := (bytes_size rfl).symm
      have HLX := hid hlx
      clear hc hx hlx
      by_cases h9 : 9 < x.size
      · have h9' : (9 : Int) < (x.size : Int) := by omega
        have HBAD : Hid (wholesL (ws.map (·.data.toList)) = none) := wholesL_bad (k := k) (by rw [List.getElem?_map, HX.out]; rfl) (by unfold wholeL; rw [if_neg (by rw [HLX.out]; omega)])
        go_wp2
        go_ret2
        exact ⟨.inl ⟨HBAD.out, rfl⟩, HB.out⟩
      · have h9' : ¬ (9 : Int) < (x.size : Int) := by omega
        go_wp2_with fail
        go_loop [6, 7, 8] (fun v j _ => ∃ q m : Nat, q ≤ x.size ∧ j = .int .i64 (q : Int) ∧ v = .int .i64 (m : Int) ∧ m < 1000000000 ∧ Hid (m = dval (x.data.toList.take q)) ∧ Hid (Digs (x.data.toList.take q))) (fun _ j _ => x.size - (intOf j).toNat)
        case atStart => exact ⟨0, 0, Nat.zero_le _, rfl, rfl, by omega, by rw [List.take_zero]; rfl, by rw [List.take_zero]; exact fun c h => by cases h⟩
        case round =>
          obtain ⟨q, m, hq, rfl, rfl, hm, HM, HD⟩ := hrel
          by_cases hqt : q < x.size
          · have hqt' : (q : Int) < x.size := by omega
            have hg2 : x.data.toList[q]? = some x[q] := take_get hqt
            have hb8 := x[q].toNat_lt
            have HDC := hid (fun W : World => digitc_any x[q] W)
            by_cases hd : isDig x[q] = true
            · have hbd := isDig_bd hd
              have hd2 : Digs (x.data.toList.take (q + 1)) := by
                rw [take_snoc_get hg2]
                intro c hc
                rcases List.mem_append.1 hc with h | h
                · exact HD.out c h
                · simp at h; subst h; exact hd
              have hlt9 : dval (x.data.toList.take (q + 1)) < 1000000000 := dval_lt9 hd2 (by rw [List.length_take]; omega)
              have he : dval (x.data.toList.take (q + 1)) = m * 10 + (x[q].toNat - 48) := by rw [take_snoc_get hg2, dval_snoc, HM.out]
              rw [he] at hlt9
              have HE := hid he
              have HD2 := hid hd2
              rw [hd] at HDC
              clear he hd2 hg2 hd
              have h48 : ¬ ((x[q].toNat : Int) < 48) := by omega
              have h57 : ¬ ((57 : Int) < (x[q].toNat : Int)) := by omega
              go_wp2_with fail
              refine (HDC.out wr).mono ?_
              rintro e w1 ⟨rfl, hw1⟩
              obtain rfl := hw1
              clear HDC
              go_wp2
              go_round
              case rel => exact ⟨q + 1, m * 10 + (x[q].toNat - 48), by omega, by simp, by go_num, hlt9, HE.out.symm, HD2⟩
              case measure => simp [intOf]; omega
            · have hdf : isDig x[q] = false := by simpa using hd
              have HBAD : Hid (wholesL (ws.map (·.data.toList)) = none) := wholesL_bad (k := k) (by rw [List.getElem?_map, HX.out]; rfl) (wholeL_none hg2 hdf)
              rw [hdf] at HDC
              clear hdf hd hg2
              go_wp2_with fail
              refine (HDC.out wr).mono ?_
              rintro e w1 ⟨rfl, hw1⟩
              obtain rfl := hw1
              clear HDC
              go_wp2
              go_ret2
              exact ⟨.inl ⟨HBAD.out, rfl⟩, HB.out⟩
          · have hqt' : ¬ (q : Int) < x.size := by omega
            have hqx : q = x.size := by omega
            have hwl : wholeL x.data.toList = some m := by
              have h1 := HM.out
              have h2 := HD.out
              rw [List.take_of_length_le (by rw [HLX.out]; omega)] at h1 h2
              unfold wholeL
              rw [if_pos ⟨by rw [HLX.out]; omega, by rw [List.all_eq_true]; exact h2⟩, h1]
            have HST := hid (wholesL_step HX.out HL.out hwl)
            have hs := HB.out.size
            clear hqx hwl HM HD
            go_wp2_with (at_builtin; refine wpList_append_own _ rfl _ _ 25 rfl b 3 i0 (.int .i64 0) 1 8 Tryz.underlying25 HI.out hz0 hz1 hz2 rfl (by decide) _ _ _ rfl (HO.out.alloc _) ⟨wr.heap.size, 0, none⟩ 1 1 [.int .i64 (m : Int)] rfl rfl ?_ ?_ ?_ ?_ ?_ ?_)
            all_goals (try first | exact cell_one_new _ _ _ | rfl | (unfold maxLen; omega) | omega | (simp; omega))
            · intro v' w2 hown' hgrow _
              have b2 : Below b wr w2 := ((Below.refl _ wr).alloc (by omega) _).grown hgrow (by simp; omega) (fun q hq => (HO.out.lt q hq).1)
              have HB2 := hid (HB.out.trans b2)
              have HO2 : Hid (w2.ownsRow b 3 1 v' (k + 1) (intL (l ++ [m]))) := by
                show World.ownsRow _ _ _ _ _ _ _
                rw [show intL (l ++ [m]) = intL l ++ [.int .i64 (m : Int)] by simp [intL]]; exact hown'
              clear b2 hown' hgrow
              go_wp2
              go_round
              case rel => exact ⟨k + 1, l ++ [m], by omega, by simp, HST, by simp [hlk], HO2, HB2⟩
              case measure => simp [intOf]; omega
    · have hlt' : ¬ (k : Int) < n := by omega
      obtain rfl : k = n := by omega
      go_wp2
      go_ret2
      refine ⟨.inr ⟨l, _, ?_, rfl, by rw [hlk]; exact HO.out⟩, HB.out⟩
      have := HL.out
      rw [List.take_of_length_le (by omega)] at this
      exact this
end Go.Proofs.YthdcceackfdbbaaGreatDoor
namespace Go.Proofs.YthdcceackfdbbaaGreatDoor
open Go Go.RowKit
def NumsM (w : World) (g R C : Nat) (f : Nat → Nat → Nat) : Prop := ∃ L, Arr w g 65 L ∧ L.length = R * C ∧ ∀ i j, i < R → j < C → L[i * C + j]? = some (.int .u64 (f i j : Int))
def FreeR (k R C had left : Nat) (bl : List Bool) (free : List (Nat × Nat)) : Prop :=
  (¬ (k = 2 ∨ k = 3) → free = (plsL k R C).drop had ∧ had + left = (plsL k R C).length) ∧
  ((k = 2 ∨ k = 3) → free.Nodup ∧ ∀ i j, (i, j) ∈ free ↔ (i < R ∧ j < C ∧ (k = 3 → j ≤ i) ∧ bl[i * C + j]? = some false))
def TxtIs (B : Nat) (w : World) (p : Nat) : TSt → Prop
  | .first => Arr w p 133 (txtC 0 false 0 0 0 0 (.slice none 0 0) (.slice none 0 0))
  | .sizes k => k ≤ 3 ∧ Arr w p 133 (txtC k false 0 0 0 0 (.slice none 0 0) (.slice none 0 0))
  | .ent k R C left free f => k ≤ 3 ∧ R ≤ 40 ∧ C ≤ 40 ∧ (k = 1 ∨ k = 3 → C = R) ∧ ∃ had g h bl, Arr w p 133 (txtC k true (had + left) had R C (.slice (some ⟨g, 0, none⟩) (R * C) (R * C)) (.slice (some ⟨h, 0, none⟩) (R * C) (R * C))) ∧
      B ≤ g ∧ B ≤ h ∧ g ≠ h ∧ g ≠ p ∧ h ≠ p ∧ NumsM w g R C f ∧ Arr w h 4 (bl.map Value.bool) ∧ bl.length = R * C ∧ had + left ≤ (plsL k R C).length ∧ FreeR k R C had left bl free
def LineQ (B : Nat) (w : World) (p : Nat) (r : Nat × TSt) (e : Ending) (w' : World) : Prop :=
  e = .returned (.int .i64 (r.1 : Int)) ∧ Below B w w' ∧ (r.1 = 0 → TxtIs B w' p r.2)
theorem cell_lt {w : World} {a : Addr} {v : Value} (h : w.cell? a = some v) : a.block < w.heap.size := by
  obtain ⟨o, ho, _⟩ := cells_of_cell h
  exact (Array.getElem?_eq_some_iff.1 ho).1
theorem half_lens : (List.range 41).all (fun R => ((List.range (R * R)).filter (fun q => decide (q / R ≤ q % R))).length == R * (R + 1) / 2) = true := by decide +kernel
theorem pls_len_half {k R : Nat} (hk : k = 1 ∨ k = 3) (hR : R ≤ 40) : (plsL k R R).length = R * (R + 1) / 2 := by
  rw [plsL_eq (by omega), List.length_map]
  have h := List.all_eq_true.1 half_lens R (List.mem_range.2 (by omega))
  rw [beq_iff_eq] at h
  rw [← h]
  congr 1
  refine List.filter_congr (fun q _ => ?_)
  simp only [toldP, decide_eq_true hk, Bool.true_and]
  rw [Bool.eq_iff_iff]; simp
theorem pls_len_full {k R C : Nat} (hk : k = 0 ∨ k = 2) : (plsL k R C).length = R * C := by
  rw [plsL_eq (by omega), List.length_map, List.filter_eq_self.2 (fun q _ => by unfold toldP; rcases hk with rfl | rfl <;> rfl), List.length_range]
theorem pls_mem {k R C i j : Nat} (hk : k ≤ 3) : (i, j) ∈ plsL k R C ↔ (i < R ∧ j < C ∧ (k = 1 ∨ k = 3 → j ≤ i)) := by
  rw [plsL_eq hk]
  constructor
  · intro h
    obtain ⟨q, hq, he⟩ := List.mem_map.1 h
    obtain ⟨h1, h2⟩ := List.mem_filter.1 hq
    cases he
    have := mod_div_lt (R := R) (C := C) (List.mem_range.1 h1)
    refine ⟨this.1, this.2, fun h3 => ?_⟩
    unfold toldP at h2
    simp [h3] at h2
    omega
  · rintro ⟨h1, h2, h3⟩
    refine List.mem_map.2 ⟨j * R + i, List.mem_filter.2 ⟨List.mem_range.2 (by have := idx_lt h2 h1; rw [Nat.mul_comm C R] at this; exact this), ?_⟩, ?_⟩
    · have m1 : (j * R + i) % R = i := by rw [Nat.mul_comm, Nat.mul_add_mod, Nat.mod_eq_of_lt h1]
      have m2 : (j * R + i) / R = j := by rw [Nat.mul_comm, Nat.mul_add_div (by omega), Nat.div_eq_of_lt h1]; omega
      unfold toldP
      rw [m1, m2]
      by_cases hh : k = 1 ∨ k = 3
      · have := h3 hh
        simp; omega
      · simp [hh]
    · have m1 : (j * R + i) % R = i := by rw [Nat.mul_comm, Nat.mul_add_mod, Nat.mod_eq_of_lt h1]
      have m2 : (j * R + i) / R = j := by rw [Nat.mul_comm, Nat.mul_add_div (by omega), Nat.div_eq_of_lt h1]; omega
      rw [m1, m2]
theorem pls_nodup {k R C : Nat} (hk : k ≤ 3) : (plsL k R C).Nodup := by
  rw [plsL_eq hk]
  refine List.Pairwise.map _ (fun a b h => h) ?_
  refine (List.Pairwise.filter _ (List.nodup_range (n := R * C))).imp_of_mem ?_
  intro a b ha hb hne e
  have h1 := Nat.div_add_mod a R
  have h2 := Nat.div_add_mod b R
  have e1 : a % R = b % R := congrArg Prod.fst e
  have e2 : a / R = b / R := congrArg Prod.snd e
  exact hne (by rw [← h1, ← h2, e1, e2])
set_option maxRecDepth 20000 in
set_option maxHeartbeats 2000000 in
theorem rsizes_1 (w : World) (p B : Nat) (ao : Option Addr) (n cap : Nat) (ws : List ByteArray) (hn : ws.length = n) (hn1 : n ≤ 1000000) (hsz : ∀ x ∈ ws, x.size ≤ 1000000) (hws : StrsAt w ao ws) (h : Arr w p 133 (txtC 1 false 0 0 0 0 (.slice none 0 0) (.slice none 0 0))) (hB : B ≤ p) :
    Calls Tryz.prog 117 #[.pointer (some ⟨p, 0, none⟩), .slice ao n cap] w fun e w' => LineQ B w p (sizesT 1 false (ws.map (·.data.toList))) e w' := by
  obtain ⟨i0, hi, hz0, hz1, hz2⟩ := info_parts Tryz.infoU64
  obtain ⟨j0, hj, hy0, hy1, hy2⟩ := info_parts Tryz.infoBool
  have HMK : Hid (∀ (N : Nat), N ≤ 1600 → ∀ w : World, (Instr.makeSlice 22 (.int .i64 (N : Int)) (.int .i64 (N : Int))).run Tryz.prog w = .ok (.slice (some ⟨w.heap.size, 0, none⟩) N N) (w.alloc (.cells (Array.replicate N (.int .u64 0)) 65))) := fun N hN w => run_make1 (P := Tryz.prog) 22 65 i0 (.int .u64 0) Tryz.underlying22 hi hz0 hz1 rfl N (by rw [hz2]; omega) (by omega) w
  have HMB : Hid (∀ (N : Nat), N ≤ 1600 → ∀ w : World, (Instr.makeSlice 108 (.int .i64 (N : Int)) (.int .i64 (N : Int))).run Tryz.prog w = .ok (.slice (some ⟨w.heap.size, 0, none⟩) N N) (w.alloc (.cells (Array.replicate N (.bool false)) 4))) := fun N hN w => run_make1 (P := Tryz.prog) 108 4 j0 (.bool false) Tryz.underlying108 hj hy0 hy1 rfl N (by rw [hy2]; omega) (by omega) w
  clear hi hz0 hz1 hz2 hj hy0 hy1 hy2
  have hcn := rcounted_any w ao n cap ws hn hn1 hsz hws
  have HCN := hid hcn
  have HA := hid h
  have HL : Hid (∀ w : World, Calls Tryz.prog 77 #[.int .i64 1] w fun e w' => e = .returned (.bool false) ∧ w' = w) := fun w => by simpa using list_any w 1
  have HH : Hid (∀ w : World, Calls Tryz.prog 44 #[.int .i64 1] w fun e w' => e = .returned (.bool true) ∧ w' = w) := fun w => by simpa using half_any w 1
  have hpl := h.lt
  obtain ⟨res, hres⟩ : ∃ res, sizesT 1 false (ws.map (·.data.toList)) = res := ⟨_, rfl⟩
  rw [hres]
  have hres2 : arrT 1 (wholesL (ws.map (·.data.toList))) = res := hres
  have HRES := hid hres2
  clear hcn h hres hres2
  go_enter Tryz.func117, Tryz.ntmps117
  go_wp2_with fail
  refine HCN.out.mono ?_
  rintro e W1 ⟨hr, b1⟩
  have HA1 := hid (HA.out.belowAll b1)
  have HB1 : Hid (Below B w W1) := b1.mono (by omega)
  have hz1 : p < W1.heap.size := HA1.out.lt
  rcases hr with ⟨hno, rfl⟩ | ⟨l, v, hl, rfl, hown⟩
  · rw [hno] at HRES
    clear HA HCN b1
    go_wp2
    go_ret
    exact ⟨by rw [← HRES.out]; rfl, HB1.out, fun h => by rw [← HRES.out] at h; cases h⟩
  · rw [hl] at HRES
    obtain ⟨vo, vn, vc, rfl⟩ : ∃ vo vn vc, v = .slice vo vn vc := by
      rcases hown.2 with ⟨e, _⟩ | ⟨g, cap, cur, e, _⟩
      · exact ⟨_, _, _, e⟩
      · exact ⟨_, _, _, e⟩
    have hvn : vn = l.length := by
      rcases hown.2 with ⟨e, h0⟩ | ⟨g, cap, cur, e, _⟩
      · cases e; exact h0.symm
      · cases e; rfl
    subst hvn
    have p0 := HA1.out.cell (i := 0) rfl
    by_cases hlen : l.length = 2
    · obtain ⟨r, c, rfl⟩ : ∃ r c, l = [r, c] := by
        match l, hlen with
        | [r, c], _ => exact ⟨r, c, rfl⟩
      obtain ⟨gn, rfl⟩ : ∃ gn, vo = some ⟨gn, 0, none⟩ := by
        rcases hown.2 with ⟨_, h3⟩ | ⟨g, cap, cur, e, _⟩
        · cases h3
        · cases e; exact ⟨g, rfl⟩
      have n0 := hown.cellAt 0 (by simp)
      have n1 := hown.cellAt 1 (by simp)
      simp [intL] at n0 n1
      have hgn : w.heap.size ≤ gn := by
        rcases hown.2 with ⟨e, _⟩ | ⟨g, cap, cur, e, hb, _⟩
        · cases e
        · cases e; exact hb
      have hgnW : gn < W1.heap.size := cell_lt n0
      have hgp : gn ≠ p := by omega
      have HRS : Hid ((if openE 1 r c ≠ 0 then (openE 1 r c, .first) else (0, TSt.ent 1 r c (plsL 1 r c).length (plsL 1 r c) (fun _ _ => 0))) = res) := HRES.out
      simp only [List.length_cons, List.length_nil, Nat.zero_add, Nat.reduceAdd] at hlen ⊢
      clear HRES hlen hl hown HA HCN b1
      by_cases hr40 : 40 < r
      · have hr40' : (40 : Int) < r := by omega
        obtain rfl : res = (8, .first) := by rw [← HRS.out, show openE 1 r c = 8 by unfold openE; rw [if_pos (.inl hr40)]]; rfl
        clear HRS
        go_wp2_with fail
        refine (HL.out W1).mono ?_
        rintro e w2 ⟨rfl, rfl⟩
        go_wp2
        go_ret
        exact ⟨rfl, HB1.out, fun h => by cases h⟩
      have hr40' : ¬ (40 : Int) < r := by omega
      by_cases hc40 : 40 < c
      · have hc40' : (40 : Int) < c := by omega
        obtain rfl : res = (8, .first) := by rw [← HRS.out, show openE 1 r c = 8 by unfold openE; rw [if_pos (.inr hc40)]]; rfl
        clear HRS
        go_wp2_with fail
        refine (HL.out W1).mono ?_
        rintro e w2 ⟨rfl, rfl⟩
        go_wp2
        go_ret
        exact ⟨rfl, HB1.out, fun h => by cases h⟩
      have hc40' : ¬ (40 : Int) < c := by omega
      go_wp2_with fail
      refine (HL.out W1).mono ?_
      rintro e w2 ⟨rfl, rfl⟩
      go_wp2_with fail
      by_cases hrc : r = c
      · subst hrc
        go_quiet (first | (go_at_call 44; exact Calls.quiet_of_same (HH.out _)))
        go_wp2_with fail
        have aZ : Arr (w2.drewN nq) p 133 (txtC 1 false 0 0 0 0 (.slice none 0 0) (.slice none 0 0)) := HA1.out
        have n0Z : (w2.drewN nq).cell? ⟨gn, 0, none⟩ = some (.int .i64 (r : Int)) := n0
        have n1Z : (w2.drewN nq).cell? ⟨gn, 1, none⟩ = some (.int .i64 (r : Int)) := n1
        have BZ : Below B w (w2.drewN nq) := below_dn HB1.out nq
        have sZ : p < (w2.drewN nq).heap.size := hz1
        have gZ : gn < (w2.drewN nq).heap.size := hgnW
        clear HA1 HB1 n0 n1 p0 hz1 hgnW
        generalize w2.drewN nq = Z at *
        obtain ⟨N, hN⟩ : ∃ N, r * r = N := ⟨_, rfl⟩
        have hNi : (r : Int) * (r : Int) = (N : Int) := by rw [← hN]; push_cast; rfl
        have hN1 : N ≤ 1600 := by rw [← hN]; exact Nat.mul_le_mul (show r ≤ 40 by omega) (show r ≤ 40 by omega)
        have c2 := aZ.cell (i := 2) rfl
        have f2 := aZ.frozen 2
        have a1 : Arr (Z.setCell ⟨p, 2, none⟩ (.int .i64 (N : Int))).drew p 133 (txtC 1 false N 0 0 0 (.slice none 0 0) (.slice none 0 0)) := aZ.set 2 (.int .i64 (N : Int))
        have m0 : (Z.setCell ⟨p, 2, none⟩ (.int .i64 (N : Int))).drew.cell? ⟨gn, 0, none⟩ = some (.int .i64 (r : Int)) := (World.cell?_of_block (a := ⟨gn, 0, none⟩) (Below.heap_setCell _ _ _ _ hgp)).trans n0Z
        have m1 : (Z.setCell ⟨p, 2, none⟩ (.int .i64 (N : Int))).drew.cell? ⟨gn, 1, none⟩ = some (.int .i64 (r : Int)) := (World.cell?_of_block (a := ⟨gn, 1, none⟩) (Below.heap_setCell _ _ _ _ hgp)).trans n1Z
        have B1 : Below B w (Z.setCell ⟨p, 2, none⟩ (.int .i64 (N : Int))).drew := (BZ.setCell (p := ⟨p, 2, none⟩) hB _).drew
        have HA1 := hid a1
        have HM0 := hid m0
        have HM1 := hid m1
        have HB1 := hid B1
        clear a1 m0 m1 B1 aZ BZ
        go_region
        clear n0Z n1Z c2 f2
        generalize (Z.setCell ⟨p, 2, none⟩ (.int .i64 (N : Int))).drew = Z1 at *
        have p0 := HA1.out.cell (i := 0) rfl
        go_wp2_with fail
        refine (HH.out Z1).mono ?_
        rintro e w3 ⟨rfl, rfl⟩
        obtain ⟨M2, hM2⟩ : ∃ M2, r * (r + 1) = M2 := ⟨_, rfl⟩
        have hM2i : (r : Int) * ((r : Int) + 1) = (M2 : Int) := by rw [← hM2]; push_cast; rfl
        have hM21 : M2 ≤ 1640 := by rw [← hM2]; exact Nat.mul_le_mul (show r ≤ 40 by omega) (show r + 1 ≤ 41 by omega)
        obtain ⟨WN, hWN⟩ : ∃ WN, M2 / 2 = WN := ⟨_, rfl⟩
        have hWNi : (M2 : Int) / 2 = (WN : Int) := by omega
        have hWNt : (M2 : Int).tdiv 2 = (WN : Int) := by rw [Int.tdiv_eq_ediv_of_nonneg (by omega)]; exact hWNi
        have HWN : Hid (WN = (plsL 1 r r).length) := by show _ = _; rw [pls_len_half (by omega) (by omega), hM2, hWN]
        have c2 := HA1.out.cell (i := 2) rfl
        have f2 := HA1.out.frozen 2
        have k0 := HM0.out
        have a2 : Arr (w3.setCell ⟨p, 2, none⟩ (.int .i64 (WN : Int))).drew p 133 (txtC 1 false WN 0 0 0 (.slice none 0 0) (.slice none 0 0)) := HA1.out.set 2 (.int .i64 (WN : Int))
        have m0 : (w3.setCell ⟨p, 2, none⟩ (.int .i64 (WN : Int))).drew.cell? ⟨gn, 0, none⟩ = some (.int .i64 (r : Int)) := (World.cell?_of_block (a := ⟨gn, 0, none⟩) (Below.heap_setCell _ _ _ _ hgp)).trans HM0.out
        have m1 : (w3.setCell ⟨p, 2, none⟩ (.int .i64 (WN : Int))).drew.cell? ⟨gn, 1, none⟩ = some (.int .i64 (r : Int)) := (World.cell?_of_block (a := ⟨gn, 1, none⟩) (Below.heap_setCell _ _ _ _ hgp)).trans HM1.out
        have B2 : Below B w (w3.setCell ⟨p, 2, none⟩ (.int .i64 (WN : Int))).drew := (HB1.out.setCell (p := ⟨p, 2, none⟩) hB _).drew
        have HA2 := hid a2
        have HN0 := hid m0
        have HN1 := hid m1
        have HB2 := hid B2
        clear a2 m0 m1 B2 HA1 HM0 HM1 HB1
        go_wp2_with fail
        go_region
        clear c2 f2 k0 p0
        generalize (w3.setCell ⟨p, 2, none⟩ (.int .i64 (WN : Int))).drew = Z2 at *
        have p0 := HA2.out.cell (i := 0) rfl
        have c1 := HA2.out.cell (i := 1) rfl
        have f1 := HA2.out.frozen 1
        have a3 := HA2.out.set 1 (.bool true)
        have m0 : (Z2.setCell ⟨p, 1, none⟩ (.bool true)).cell? ⟨gn, 0, none⟩ = some (.int .i64 (r : Int)) := (World.cell?_of_block (a := ⟨gn, 0, none⟩) (Below.heap_setCell _ _ _ _ hgp)).trans HN0.out
        have m1 : (Z2.setCell ⟨p, 1, none⟩ (.bool true)).cell? ⟨gn, 1, none⟩ = some (.int .i64 (r : Int)) := (World.cell?_of_block (a := ⟨gn, 1, none⟩) (Below.heap_setCell _ _ _ _ hgp)).trans HN1.out
        have B3 : Below B w (Z2.setCell ⟨p, 1, none⟩ (.bool true)) := HB2.out.setCell (p := ⟨p, 1, none⟩) hB _
        have HA3 : Hid (Arr (Z2.setCell ⟨p, 1, none⟩ (.bool true)) p 133 (txtC 1 true WN 0 0 0 (.slice none 0 0) (.slice none 0 0))) := a3
        have HP0 := hid m0
        have HP1 := hid m1
        have HB3 := hid B3
        clear a3 m0 m1 B3 HA2 HN0 HN1 HB2
        go_wp2_with fail
        refine (HL.out Z2).mono ?_
        rintro e w4 ⟨rfl, rfl⟩
        go_wp2_with fail
        clear p0 c1 f1
        generalize w4.setCell ⟨p, 1, none⟩ (.bool true) = Z3 at *
        have hmk := HMK.out N hN1
        have n0 := HP0.out
        have n1 := HP1.out
        have c4 := HA3.out.cell (i := 4) rfl
        have c5 := HA3.out.cell (i := 5) rfl
        have c6 := HA3.out.cell (i := 6) rfl
        have f4 := HA3.out.frozen 4
        have f5 := HA3.out.frozen 5
        have f6 := HA3.out.frozen 6
        have hwN : IntKind.i64.wrap (N : Int) = N := by rw [IntKind.wrap_i64]; omega
        have aA := HA3.out.alloc (.cells (Array.replicate N (.int .u64 0)) 65)
        have n0A := (Sim.alloc 0 Z3 (.cells (Array.replicate N (.int .u64 0)) 65)).cell n0
        have n1A := (Sim.alloc 0 Z3 (.cells (Array.replicate N (.int .u64 0)) 65)).cell n1
        have d4 := aA.cell (i := 4) rfl
        have d5 := aA.cell (i := 5) rfl
        have d6 := aA.cell (i := 6) rfl
        have e4 := aA.frozen 4
        have e5 := aA.frozen 5
        have e6 := aA.frozen 6
        have HAA := hid aA
        obtain ⟨g, hg⟩ : ∃ g, Z3.heap.size = g := ⟨_, rfl⟩
        have hgg : p < g ∧ gn < g ∧ B ≤ g := ⟨by have := HA3.out.lt; omega, by have := cell_lt n0; simp only at this; omega, by have := HA3.out.lt; omega⟩
        have HG0 : Hid (Arr (Z3.alloc (.cells (Array.replicate N (.int .u64 0)) 65)) g 65 (List.replicate N (.int .u64 0))) := by
          have h := Arr.newL Z3 65 (List.replicate N (.int .u64 0))
          rw [List.toArray_replicate, hg] at h
          exact h
        have HBA : Hid (Below B w (Z3.alloc (.cells (Array.replicate N (.int .u64 0)) 65))) := HB3.out.alloc (by omega) _
        have HQ0 := hid n0A
        have HQ1 := hid n1A
        have HGE := hid hg
        clear aA hg HB3 HP0 HP1 HA3
        go_region
        rw [HGE.out]
        clear hmk n0 n1 c4 c5 c6 f4 f5 f6 d4 d5 d6 e4 e5 e6 n0A n1A HGE
        generalize Z3.alloc (.cells (Array.replicate N (.int .u64 0)) 65) = Z4 at *
        have HA4 : Hid (Arr (((Z4.setCell ⟨p, 4, none⟩ (.int .i64 (r : Int))).setCell ⟨p, 5, none⟩ (.int .i64 (r : Int))).setCell ⟨p, 6, none⟩ (.slice (some ⟨g, 0, none⟩) N N)).drew p 133 (txtC 1 true WN 0 r r (.slice (some ⟨g, 0, none⟩) N N) (.slice none 0 0))) := ((HAA.out.set 4 (.int .i64 (r : Int))).set 5 (.int .i64 (r : Int))).set 6 (.slice (some ⟨g, 0, none⟩) N N)
        have HK4 : Hid (Kept (fun z => z = p) Z4 (((Z4.setCell ⟨p, 4, none⟩ (.int .i64 (r : Int))).setCell ⟨p, 5, none⟩ (.int .i64 (r : Int))).setCell ⟨p, 6, none⟩ (.slice (some ⟨g, 0, none⟩) N N)).drew) := by
          have st : ∀ (W : World) (i : Nat) (v : Value), Kept (fun z => z = p) Z4 W → Kept (fun z => z = p) Z4 (W.setCell ⟨p, i, none⟩ v) := fun W i v h => h.trans (Kept.set (S := fun z => z = p) rfl v) (fun z h => .inl h)
          exact (st _ 6 _ (st _ 5 _ (st _ 4 _ (Kept.refl _ _)))).trans (Kept.drewN (S := fun z => z = p) 1) (fun z h => .inl h)
        go_wp2_with fail
        generalize (((Z4.setCell ⟨p, 4, none⟩ (.int .i64 (r : Int))).setCell ⟨p, 5, none⟩ (.int .i64 (r : Int))).setCell ⟨p, 6, none⟩ (.slice (some ⟨g, 0, none⟩) N N)).drew = Z5 at *
        have HG5 := hid (HK4.out.arr HG0.out (by omega))
        have n0 : Z5.cell? ⟨gn, 0, none⟩ = some (.int .i64 (r : Int)) := (World.cell?_of_block (a := ⟨gn, 0, none⟩) (HK4.out.block gn (cell_lt HQ0.out) hgp)).trans HQ0.out
        have n1 : Z5.cell? ⟨gn, 1, none⟩ = some (.int .i64 (r : Int)) := (World.cell?_of_block (a := ⟨gn, 1, none⟩) (HK4.out.block gn (cell_lt HQ0.out) hgp)).trans HQ1.out
        have HB5 : Hid (Below B w Z5) := HBA.out.trans (HK4.out.below (fun z hz => by rw [hz]; exact hB) (by have := HAA.out.lt; omega))
        clear HAA HG0 HBA HQ0 HQ1 HK4
        have hmb := HMB.out N hN1
        have c7 := HA4.out.cell (i := 7) rfl
        have f7 := HA4.out.frozen 7
        have n0A := (Sim.alloc 0 Z5 (.cells (Array.replicate N (.bool false)) 4)).cell n0
        have n1A := (Sim.alloc 0 Z5 (.cells (Array.replicate N (.bool false)) 4)).cell n1
        have aA := HA4.out.alloc (.cells (Array.replicate N (.bool false)) 4)
        have d7 := aA.cell (i := 7) rfl
        have e7 := aA.frozen 7
        obtain ⟨hb, hhb⟩ : ∃ hb, Z5.heap.size = hb := ⟨_, rfl⟩
        have hhg : g < hb ∧ p < hb ∧ B ≤ hb := ⟨by have := HG5.out.lt; omega, by have := HA4.out.lt; omega, by have := HA4.out.lt; omega⟩
        have HH0 : Hid (Arr (Z5.alloc (.cells (Array.replicate N (.bool false)) 4)) hb 4 (List.replicate N (.bool false))) := by
          have h := Arr.newL Z5 4 (List.replicate N (.bool false))
          rw [List.toArray_replicate, hhb] at h
          exact h
        have HG6 := hid (HG5.out.alloc (.cells (Array.replicate N (.bool false)) 4))
        have HB6 : Hid (Below B w (Z5.alloc (.cells (Array.replicate N (.bool false)) 4))) := HB5.out.alloc (by omega) _
        have HA6 := hid aA
        have HHB := hid hhb
        clear aA hhb HG5 HB5 HA4
        go_region
        rw [HHB.out]
        clear hmb n0 n1 c7 f7 n0A n1A d7 e7 HHB
        generalize Z5.alloc (.cells (Array.replicate N (.bool false)) 4) = Z6 at *
        have a7 : Arr (Z6.setCell ⟨p, 7, none⟩ (.slice (some ⟨hb, 0, none⟩) N N)).drew p 133 (txtC 1 true WN 0 r r (.slice (some ⟨g, 0, none⟩) N N) (.slice (some ⟨hb, 0, none⟩) N N)) := HA6.out.set 7 (.slice (some ⟨hb, 0, none⟩) N N)
        have g7 : Arr (Z6.setCell ⟨p, 7, none⟩ (.slice (some ⟨hb, 0, none⟩) N N)).drew g 65 _ := HG6.out.other _ (by omega)
        have h7 : Arr (Z6.setCell ⟨p, 7, none⟩ (.slice (some ⟨hb, 0, none⟩) N N)).drew hb 4 _ := HH0.out.other _ (by omega)
        have B7 : Below B w (Z6.setCell ⟨p, 7, none⟩ (.slice (some ⟨hb, 0, none⟩) N N)).drew := (HB6.out.setCell (p := ⟨p, 7, none⟩) hB _).drew
        obtain rfl : res = (0, TSt.ent 1 r r (plsL 1 r r).length (plsL 1 r r) (fun _ _ => 0)) := by
          rw [← HRS.out, if_neg]
          unfold openE
          rw [if_neg (by omega), if_neg (by omega)]
          simp
        have hfin : Hid (LineQ B w p (0, TSt.ent 1 r r (plsL 1 r r).length (plsL 1 r r) (fun _ _ => 0)) (.returned (.int .i64 0)) (Z6.setCell ⟨p, 7, none⟩ (.slice (some ⟨hb, 0, none⟩) N N)).drew) := by
          refine ⟨rfl, B7, fun _ => ⟨by omega, by omega, by omega, by omega, 0, g, hb, List.replicate N false, ?_, by omega, by omega, by omega, by omega, by omega, ⟨_, g7, by rw [List.length_replicate]; exact hN.symm, fun i j hi hj => ?_⟩, by rw [List.map_replicate]; exact h7, by rw [List.length_replicate]; exact hN.symm, by omega, ⟨fun _ => ⟨by simp, by omega⟩, fun h => by omega⟩⟩⟩
          · rw [Nat.zero_add, ← HWN.out, hN]; exact a7
          · rw [List.getElem?_replicate, if_pos (by have := idx_lt hi hj; omega)]; rfl
        clear a7 g7 h7 B7 HA6 HG6 HH0 HB6 HRS
        go_wp2
        go_ret
        exact hfin.out
      · have hrc' : ((r : Int) == (c : Int)) = false := by rw [beq_eq_false_iff_ne]; omega
        obtain rfl : res = (4, .first) := by rw [← HRS.out, show openE 1 r c = 4 by unfold openE; rw [if_neg (by omega), if_pos ⟨by omega, hrc⟩]]; rfl
        clear HRS
        go_quiet (first | (go_at_call 44; exact Calls.quiet_of_same (HH.out _)))
        go_wp2
        go_ret
        exact ⟨rfl, below_dn HB1.out _, fun h => by cases h⟩
    · have hres6 : res = (6, .first) := by
        rw [← HRES.out]
        unfold arrT
        split
        · rename_i e; cases e; simp at hlen
        · rfl
      subst hres6
      clear HA HCN b1 HRES hl hown
      have hl1 : ((l.length : Int) == 2) = false := by rw [beq_eq_false_iff_ne]; omega
      go_wp2_with fail
      refine (HL.out W1).mono ?_
      rintro e w2 ⟨rfl, rfl⟩
      go_wp2
      go_ret
      exact ⟨rfl, HB1.out, fun h => by cases h⟩
end Go.Proofs.YthdcceackfdbbaaGreatDoor
namespace Go.Proofs.YthdcceackfdbbaaGreatDoor
open Go.RowKit
def i64s (l : List Nat) : List Value := l.map fun x : Nat => Value.int .i64 (x : Int)
def OwnB (w : World) (B : Nat) (v : Value) (l : List Nat) : Prop := w.ownsRow B 3 1 v l.length (i64s l) ∧ WdsB l
def RepB (w : World) (B : Nat) (v : Value) (n : Nat) : Prop := ∃ l, OwnB w B v l ∧ Canon l ∧ valB l = n
theorem OwnB.below {w w' : World} {B : Nat} {v : Value} {l : List Nat} (h : OwnB w B v l) (hb : Below w.heap.size w w') : OwnB w' B v l := ⟨ownsRow_below h.1 hb, h.2⟩
theorem OwnB.base {w : World} {B B' : Nat} {v : Value} {l : List Nat} (h : OwnB w B v l) (hb : B' ≤ B) : OwnB w B' v l := ⟨ownsRow_base h.1 hb, h.2⟩
theorem RepB.below {w w' : World} {B : Nat} {v : Value} {n : Nat} (h : RepB w B v n) (hb : Below w.heap.size w w') : RepB w' B v n := by
  obtain ⟨l, h1, h2⟩ := h; exact ⟨l, h1.below hb, h2⟩
theorem RepB.base {w : World} {B B' : Nat} {v : Value} {n : Nat} (h : RepB w B v n) (hb : B' ≤ B) : RepB w B' v n := by
  obtain ⟨l, h1, h2⟩ := h; exact ⟨l, h1.base hb, h2⟩
theorem OwnB.shape {w : World} {B : Nat} {v : Value} {l : List Nat} (h : OwnB w B v l) :
    (v = .slice none 0 0 ∧ l = []) ∨ ∃ g cap, v = .slice (some ⟨g, 0, none⟩) l.length cap ∧ B ≤ g ∧ g < w.heap.size ∧ l.length ≤ cap ∧ cap ≤ maxLen ∧
      (∀ (i x : Nat), l[i]? = some x → w.cell? ⟨g, i, none⟩ = some (.int .i64 (x : Int))) ∧ (∀ i, w.frozen? ⟨g, i, none⟩ = false) := by
  rcases h.1.2 with ⟨rfl, h0⟩ | ⟨g, cap, cur, rfl, hb, hg, hnc, hcm, hcs, htake⟩
  · exact .inl ⟨rfl, List.length_eq_zero_iff.1 h0⟩
  · refine .inr ⟨g, cap, rfl, hb, (Array.getElem?_eq_some_iff.1 hg).1, hnc, hcm, ?_, ?_⟩
    · intro i x hi
      have hlt : i < l.length := (List.getElem?_eq_some_iff.1 hi).1
      rw [h.1.cellAt i (by omega)]
      simp [i64s, hi]
    · intro i; exact h.1.frozenAt i
theorem OwnB.shape1 {w : World} {B : Nat} {v : Value} {l : List Nat} (h : OwnB w B v l) :
    ∃ ao cap, v = .slice ao l.length cap ∧ l.length ≤ cap ∧ cap ≤ maxLen ∧ (∀ (i x : Nat), l[i]? = some x → x < 1000000000 ∧ ∃ g, ao = some ⟨g, 0, none⟩ ∧ B ≤ g ∧ g < w.heap.size ∧ w.cell? ⟨g, i, none⟩ = some (.int .i64 (x : Int))) := by
  rcases h.shape with ⟨rfl, rfl⟩ | ⟨g, cap, rfl, h1, h2, h3, h4, h5, _⟩
  · exact ⟨none, 0, rfl, by simp, by simp, by simp⟩
  · exact ⟨_, cap, rfl, h3, h4, fun i x hi => ⟨h.2 x (List.mem_of_getElem? hi), g, rfl, h1, h2, h5 i x hi⟩⟩
theorem OwnB.len {w : World} {B : Nat} {v : Value} {l : List Nat} (h : OwnB w B v l) : l.length ≤ maxLen := by
  rcases h.shape with ⟨_, rfl⟩ | ⟨g, cap, _, _, _, h1, h2, _⟩
  · simp
  · omega
theorem OwnB.take {w : World} {B g n cap : Nat} {l : List Nat} (h : OwnB w B (.slice (some ⟨g, 0, none⟩) n cap) l) (hn : n = l.length) {k : Nat} (hk : k ≤ l.length) : OwnB w B (.slice (some ⟨g, 0, none⟩) k cap) (l.take k) := by
  subst hn
  have hkl : (l.take k).length = k := by rw [List.length_take]; omega
  refine ⟨⟨by simp [i64s], ?_⟩, wds_takeB h.2 k⟩
  rcases h.1.2 with ⟨h', _⟩ | ⟨g', cap', cur, h', hb, hg, hnc, hcm, hcs, htake⟩
  · simp at h'
  · simp only [Value.slice.injEq, Option.some.injEq, Addr.mk.injEq, and_true, true_and] at h'
    obtain ⟨rfl, rfl⟩ := h'
    refine .inr ⟨g, cap, cur, by rw [hkl], hb, hg, by omega, hcm, hcs, ?_⟩
    rw [hkl]
    simp only [i64s, List.map_take, Nat.mul_one] at htake ⊢
    rw [← htake, List.take_take, Nat.min_eq_left hk]
theorem OwnB.stored {w : World} {B g n cap : Nat} {l : List Nat} (h : OwnB w B (.slice (some ⟨g, 0, none⟩) n cap) l) (hn : n = l.length) (j : Nat) {y : Nat} (hy : y < 1000000000) :
    OwnB (w.setCell ⟨g, j, none⟩ (.int .i64 (y : Int))) B (.slice (some ⟨g, 0, none⟩) n cap) (l.set j y) := by
  subst hn
  refine ⟨?_, ?_⟩
  · have := (h.1.stored j (.int .i64 (y : Int))).1
    simpa [i64s, List.map_set] using this
  · intro x hx
    rcases List.mem_or_eq_of_mem_set hx with h1 | h1
    · exact h.2 x h1
    · omega
theorem OwnB.lenW {w : World} {B n cap : Nat} {ao : Option Addr} {l : List Nat} (h : OwnB w B (.slice ao n cap) l) : n = l.length := by
  rcases h.shape with ⟨e, rfl⟩ | ⟨g', cap', e, _⟩
  · simp at e; simp [e]
  · simp at e; omega
theorem OwnB.cellW {w : World} {B g n cap : Nat} {l : List Nat} (h : OwnB w B (.slice (some ⟨g, 0, none⟩) n cap) l) {j y : Nat} (hj : l[j]? = some y) : w.cell? ⟨g, j, none⟩ = some (.int .i64 (y : Int)) := by
  have := h.lenW; subst this
  rw [h.1.cellAt j (by have := (List.getElem?_eq_some_iff.1 hj).1; omega)]
  simp [i64s, hj]
theorem OwnB.ofRow {w : World} {B n : Nat} {v : Value} {l : List Nat} {xs : List Value} (h : w.ownsRow B 3 1 v n xs) (hx : xs = i64s l) (hl : WdsB l) : OwnB w B v l := by
  subst hx
  have : n = l.length := by have := h.1; simp [i64s] at this; omega
  subst this
  exact ⟨h, hl⟩
theorem ownB_nil (w : World) (B : Nat) : OwnB w B (.slice none 0 0) [] := ⟨World.ownsRow_nil _ _ _ _, by intro y hy; simp at hy⟩
theorem wds_snocB {l : List Nat} {y : Nat} (h : WdsB l) (hy : y < 1000000000) : WdsB (l ++ [y]) := by
  intro x hx
  rcases List.mem_append.1 hx with h1 | h1
  · exact h x h1
  · simp at h1; omega
end Go.Proofs.YthdcceackfdbbaaGreatDoor
