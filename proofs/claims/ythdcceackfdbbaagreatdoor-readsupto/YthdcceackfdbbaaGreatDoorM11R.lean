import Derived.Test.YthdcceackfdbbaaGreatDoorM10R
import Derived.Test.YthdcceackfdbbaaGreatDoorM02R
import Derived.Test.YthdcceackfdbbaaGreatDoorM08R
import Derived.Deep.RegionLaw
import Derived.Lib.SliceRun
import Derived.ArgAppend
import Derived.Deep.RegionHeld3
namespace Go.Proofs.YthdcceackfdbbaaGreatDoor
open Go Go.RowKit Go.Shelf Go.Lib
theorem collect_any (w : World) (kind R C g : Nat) (hR : R ≤ 40) (hC : C ≤ 40) (hlen : (plsL kind R C).length ≤ 1600) :
    Calls Tryz.prog 233 #[.func (.func (placeF kind)) #[matV R C g] #[]] w fun e w' => ∃ v, e = .returned v ∧ FreeAt w' w.heap.size v (plsL kind R C) ∧ Below w.heap.size w w' := by
  have HA := hid (fun w => appendSeq_any w kind R C g hR hC hlen)
  generalize plsL kind R C = ps at *
  generalize placeF kind = pf at *
  generalize matV R C g = mv at *
  go_enter Tryz.func233, Tryz.ntmps233
  go_wp2_with fail
  refine (HA.out _).mono ?_
  rintro e w' ⟨v, rfl, hf, hb⟩
  obtain ⟨ao, cap, rfl, _⟩ := hf.shape
  go_wp2
  go_ret
  exact ⟨_, rfl, hf, hb⟩
def layL (l : List Value) (o : Nat) : List Value → List Value
  | [] => l
  | v :: r => layL (l.set o v) (o + 1) r
theorem layL_len (vs : List Value) : ∀ (l : List Value) (o : Nat), (layL l o vs).length = l.length := by
  induction vs with
  | nil => intro l o; rfl
  | cons v r ih => intro l o; rw [layL, ih, List.length_set]
theorem layL_get (vs : List Value) : ∀ (l : List Value) (o j : Nat), (layL l o vs)[j]? = if o ≤ j ∧ j < o + vs.length ∧ j < l.length then vs[j - o]? else l[j]? := by
  induction vs with
  | nil => intro l o j; rw [layL, if_neg (by simp; omega)]
  | cons v r ih =>
    intro l o j
    rw [layL, ih, List.length_set, List.getElem?_set]
    by_cases h1 : j = o
    · subst h1
      by_cases h2 : j < l.length
      · rw [if_neg (by omega), if_pos rfl, if_pos h2, if_pos ⟨Nat.le_refl _, by simp, h2⟩]; simp
      · rw [if_neg (by omega), if_pos rfl, if_neg h2, if_neg (by omega), List.getElem?_eq_none (by omega)]
    · by_cases h2 : o + 1 ≤ j ∧ j < o + 1 + r.length ∧ j < l.length
      · rw [if_pos h2, if_pos ⟨by omega, by simp; omega, h2.2.2⟩, show j - o = (j - (o + 1)) + 1 by omega, List.getElem?_cons_succ]
      · rw [if_neg h2, if_neg (fun e => h1 e.symm), if_neg (by simp; simp at h2; omega)]
theorem Arr.setCells {g : Nat} {t : TypeId} (vs : List Value) : ∀ {w : World} {l : List Value} (o : Nat), Arr w g t l → Arr (w.setCells g o vs) g t (layL l o vs) := by
  induction vs with
  | nil => intro w l o h; exact h
  | cons v r ih => intro w l o h; exact ih (o + 1) (h.set o v)
theorem Kept.setCells {S : Nat → Prop} {g : Nat} (hg : S g) (vs : List Value) : ∀ (w : World) (o : Nat), Kept S w (w.setCells g o vs) := by
  induction vs with
  | nil => intro w o; exact Kept.refl _ _
  | cons v r ih => intro w o; exact (Kept.set hg v).trans (ih _ (o + 1)) (fun q h => .inl h)
theorem run_clear_two {P : Program} (w : World) (t e ty : TypeId) (z : Value) (x y : Value) (ht : P.underlying t = some (.slice e)) (hv : ∀ w, (zeroValue e).run P w = .ok z w) (hz : z.cells = #[x, y]) (h1 : x.oneCell' = true) (h2 : y.oneCell' = true) (b o c : Nat)
    (hc : ∀ j, j < 2 → (w.cell? ⟨b, o + j, none⟩).isSome = true) (hf : ∀ j, j < 2 → w.frozen? ⟨b, o + j, none⟩ = false) :
    (Builtin.clear_ #[t] ty #[.slice (some ⟨b, o, none⟩) 1 c]).run P w = .ok (.tuple #[]) (w.setCells b o [x, y]) := by
  have hzc : (Builtin.zeroCells z.cells 1).toList = [x, y] := by rw [hz]; simp [Builtin.zeroCells]; rfl
  have hst := run_storeCells_cells (P := P) b o [x, y] 0 w (by simpa using hc) (by simpa using hf) (by intro v hv'; simp at hv'; rcases hv' with rfl | rfl <;> assumption)
  simp only [Nat.add_zero] at hst
  simp [Builtin.clear_, run_underlying ht, hv, hzc, hst]
theorem erase_lay (ps : List (Nat × Nat)) (i n cap : Nat) (cur : List Value) (hi : i < n) (hn : ps.length = n) (hc : n ≤ cap) (hl : cur.length = cap * 2) (htk : cur.take (n * 2) = plcC ps) (u v : Value) :
    (layL (layL cur (i * 2) (plcC (ps.drop (i + 1)))) ((n - 1) * 2) [u, v]).take ((n - 1) * 2) = plcC (ps.eraseIdx i) := by
  have hnl : (plcC (ps.drop (i + 1))).length = (n - (i + 1)) * 2 := by rw [plcC_len, List.length_drop, hn]
  have htl : (plcC (ps.take i)).length = i * 2 := by rw [plcC_len, List.length_take, hn]; congr 1; omega
  rw [List.eraseIdx_eq_take_drop_succ, plcC_app]
  apply List.ext_getElem?
  intro t
  rw [List.getElem?_take]
  by_cases ht : t < (n - 1) * 2
  · rw [if_pos ht, layL_get, if_neg (by omega), layL_get, hnl]
    by_cases h2 : t < i * 2
    · rw [if_neg (by omega), List.getElem?_append_left (by omega)]
      have e1 : cur[t]? = (plcC ps)[t]? := by rw [← htk, List.getElem?_take, if_pos (by omega)]
      have e2 : plcC ps = plcC (ps.take i) ++ plcC (ps.drop i) := by rw [← plcC_app, List.take_append_drop]
      rw [e1, e2, List.getElem?_append_left (by omega)]
    · rw [if_pos ⟨by omega, by omega, by omega⟩, List.getElem?_append_right (by omega), htl]
  · rw [if_neg ht, List.getElem?_eq_none]
    rw [List.length_append, htl, hnl]; omega
set_option maxRecDepth 20000 in
set_option maxHeartbeats 4000000 in
theorem delete_any (w : World) (S : Nat → Prop) (g cap i n : Nat) (ps : List (Nat × Nat)) (hi : i < n) (hn : ps.length = n) (hn2 : n ≤ 1600) (h : RowIn w S 117 2 (.slice (some ⟨g, 0, none⟩) n cap) n (plcC ps)) :
    Calls Tryz.prog 248 #[.slice (some ⟨g, 0, none⟩) n cap, .int .i64 (i : Int), .int .i64 ((i : Int) + 1)] w fun e w' => e = .returned (.slice (some ⟨g, 0, none⟩) (n - 1) cap) ∧ RowIn w' S 117 2 (.slice (some ⟨g, 0, none⟩) (n - 1) cap) (n - 1) (plcC (ps.eraseIdx i)) ∧ Kept (fun q => q = g) w w' := by
  obtain ⟨⟨hl0, ⟨he, _⟩ | ⟨g', cap', cur, he, _, hg, hc1, hc2, hc3, htk⟩⟩, hown⟩ := h
  · cases he
  cases he
  have hmix : Tryz.prog.follows .mixedOrders = true := by kernel_rfl
  obtain ⟨i0, hi0, hz0, hz1, hz2⟩ := info_parts Tryz.infoPlc
  have ha : Arr w g 117 cur.toList := by unfold Arr; rw [Array.toArray_toList]; exact hg
  have hcl : cur.toList.length = cap * 2 := by rw [Array.length_toList, hc3]
  obtain ⟨c, hce⟩ : ∃ c, cur.toList = c := ⟨_, rfl⟩
  rw [hce] at ha hcl htk
  clear hg hc3 hce
  obtain ⟨news, hnews⟩ : ∃ news, plcC (ps.drop (i + 1)) = news := ⟨_, rfl⟩
  have hnl : news.length = (n - (i + 1)) * 2 := by rw [← hnews, plcC_len, List.length_drop, hn]
  have hsrc0 : ∀ t u, news[t]? = some u → w.drew.cell? ⟨g, (i + 1) * 2 + t, none⟩ = some u := by
    intro t u hu
    have ht : t < news.length := (List.getElem?_eq_some_iff.1 hu).1
    refine ha.drew.cell ?_
    have e1 : c[(i + 1) * 2 + t]? = (plcC ps)[(i + 1) * 2 + t]? := by rw [← htk, List.getElem?_take, if_pos (by omega)]
    have e2 : plcC ps = plcC (ps.take (i + 1)) ++ plcC (ps.drop (i + 1)) := by rw [← plcC_app, List.take_append_drop]
    have e3 : (plcC (ps.take (i + 1))).length = (i + 1) * 2 := by rw [plcC_len, List.length_take, hn]; congr 1; omega
    rw [e1, e2, List.getElem?_append_right (by omega), e3, hnews, show (i + 1) * 2 + t - (i + 1) * 2 = t by omega]
    exact hu
  obtain ⟨A, hA, hsrc⟩ : ∃ A : Addr, (if cap = i + 1 then some (⟨g, 0, none⟩ : Addr) else some ⟨g, (i + 1) * 2, none⟩) = some A ∧ Hid (∀ t u, news[t]? = some u → w.drew.cell? (A.add t) = some u) := by
    by_cases h : cap = i + 1
    · refine ⟨⟨g, 0, none⟩, by simp [h], fun t u hu => ?_⟩
      have h0 : news.length = 0 := by rw [hnl]; omega
      rw [List.length_eq_zero_iff.1 h0] at hu
      simp at hu
    · exact ⟨⟨g, (i + 1) * 2, none⟩, by simp [h], fun t u hu => by rw [Addr.add_lit]; exact hsrc0 t u hu⟩
  have s2 : Hid (∀ u ∈ news, u.oneCell' = true) := by
    intro u hu
    rw [← hnews] at hu
    obtain ⟨x, rfl⟩ := plcC_one _ _ hu
    rfl
  have s3 : Hid (∀ t, t < news.length → (w.drew.cell? ⟨g, 0 + i * 2 + t, none⟩).isSome = true ∧ w.drew.frozen? ⟨g, 0 + i * 2 + t, none⟩ = false) := by
    intro t ht
    have : 0 + i * 2 + t < c.length := by omega
    exact ⟨by rw [ha.drew.cell (List.getElem?_eq_getElem this)]; rfl, ha.drew.frozen _⟩
  have s1 : Hid (news.length = (n - (i + 1)) * 2) := hnl
  obtain ⟨W1, hW1⟩ : ∃ W1, W1 = w.drew.setCells g (0 + i * 2) news := ⟨_, rfl⟩
  have a1 : Arr W1 g 117 (layL c (i * 2) news) := by rw [hW1, Nat.zero_add]; exact ha.drew.setCells news (i * 2)
  have hz : ∀ w, (zeroValue 117).run Tryz.prog w = .ok (.agg #[.int .i64 0, .int .i64 0]) w := by intro w; kernel_rfl
  have hclr : ∀ ty c', (Builtin.clear_ #[165] ty #[.slice (some ⟨g, (n - 1) * 2, none⟩) 1 c']).run Tryz.prog W1 = .ok (.tuple #[]) (W1.setCells g ((n - 1) * 2) [.int .i64 0, .int .i64 0]) :=
    fun ty c' => run_clear_two W1 _ _ ty _ _ _ Tryz.underlying165 hz rfl rfl rfl g ((n - 1) * 2) c'
      (fun j hj => by
        have : (n - 1) * 2 + j < (layL c (i * 2) news).length := by rw [layL_len]; omega
        rw [a1.cell (List.getElem?_eq_getElem this)]; rfl) (fun j hj => a1.frozen _)
  have HW : Hid (W1 = w.drew.setCells g (0 + i * 2) news) := hW1
  have k1 : Kept (fun q => q = g) w W1 := by rw [hW1]; exact (Kept.drewN 1).trans (Kept.setCells (S := fun q => q = g) rfl news _ _) (fun q h => .inl h)
  have HEND : Hid (RowIn (W1.setCells g ((n - 1) * 2) [.int .i64 0, .int .i64 0]) S 117 2 (.slice (some ⟨g, 0, none⟩) (n - 1) cap) (n - 1) (plcC (ps.eraseIdx i)) ∧ Kept (fun q => q = g) w (W1.setCells g ((n - 1) * 2) [.int .i64 0, .int .i64 0])) := by
    have a2 := a1.setCells [.int .i64 0, .int .i64 0] ((n - 1) * 2)
    refine ⟨⟨⟨?_, .inr ⟨g, cap, _, rfl, Nat.zero_le _, a2, by omega, hc2, ?_, ?_⟩⟩, hown⟩, k1.trans (Kept.setCells (S := fun q => q = g) rfl _ _ _) (fun q h => .inl h)⟩
    · rw [plcC_len, List.length_eraseIdx, if_pos (by omega), hn]
    · rw [List.size_toArray, layL_len, layL_len, hcl]
    · show (layL _ _ _).take _ = _
      rw [← hnews]
      exact erase_lay ps i n cap c hi hn hc1 hcl htk _ _
  have hclr2 : ∀ ty, (Builtin.clear_ #[165] ty #[.slice (some ⟨g, (i + (n - (i + 1))) * 2, none⟩) (n - (i + (n - (i + 1)))) (cap - (i + (n - (i + 1))))]).run Tryz.prog W1 = .ok (.tuple #[]) (W1.setCells g ((n - 1) * 2) [.int .i64 0, .int .i64 0]) := by
    intro ty
    have e : i + (n - (i + 1)) = n - 1 := by omega
    have e2 : n - (n - 1) = 1 := by omega
    rw [e, e2]; exact hclr ty _
  clear hclr
  have hic : i ≤ cap := by omega
  have hjc : i + 1 ≤ cap := by omega
  have hjn : 0 ≤ (i : Int) + 1 ∧ (i : Int) + 1 ≤ (n : Int) := by omega
  clear hW1 a1 k1 hsrc0 ha htk hcl hl0 hown hnews hz
  go_enter Tryz.func248, Tryz.ntmps248
  go_wp2_with fail
  go_region_law_o (refine step_append_room rfl (.tmp 22) (.tmp 25) 165 rfl 117 i0 2 Tryz.underlying165 hi0 hz1 g 0 i cap (by simp [Act.eval, Act.put]) A (n - (i + 1)) (cap - (i + 1)) news (by simp [Act.eval, Act.put]) s1.out hsrc.out s2.out (by omega) s3.out ?_; rw [← HW.out])
  go_wp2
  go_ret
  refine ⟨?_, HEND.out⟩
  rw [show i + (n - (i + 1)) = n - 1 by omega]; rfl
end Go.Proofs.YthdcceackfdbbaaGreatDoor
namespace Go.Proofs.YthdcceackfdbbaaGreatDoor
open Go Go.RowKit
theorem markOk_more {l : List UInt8} {b : UInt8} (h : markOk l) (hl : 6 ≤ l.length) : markOk (l ++ [b]) := (markOk_snoc h).2 ⟨fun h => by omega, fun h => by omega⟩
theorem boxE_sum {l : List UInt8} (h : markOk l) (hl : 14 ≤ l.length) (hs : valL ((l.drop 10).take 4) ≠ sumL (l.take 10)) : boxE l = 12 := by
  unfold boxE; rw [if_neg (fun k => k h), if_neg (by omega), if_pos hs]
theorem boxE_large {l : List UInt8} (h : markOk l) (hl : 14 ≤ l.length) (hs : valL ((l.drop 10).take 4) = sumL (l.take 10)) (hL : 40 < rowsB l ∨ 40 < colsB l) : boxE l = 8 := by
  unfold boxE; rw [if_neg (fun k => k h), if_neg (by omega), if_neg (fun k => k hs), if_pos hL]
theorem boxE_pay {l : List UInt8} (h : HeadOk l) (hl : l.length < 18 + 8 * (rowsB l * colsB l)) : boxE l = 0 := by
  have h1 := h.len
  have h2 := h.hR
  have h3 := h.hC
  unfold boxE; rw [if_neg (fun k => k h.mark), if_neg (by omega), if_neg (fun k => k h.sum), if_neg (by omega), if_pos hl]
theorem kindOf_any (w : World) (x : Nat) (hx : x ≤ 255) : Calls Tryz.prog 185 #[.int .u8 (x : Int)] w fun e w' => e = .returned (.int .i64 ((if x = 1 then 5 else 4 : Nat) : Int)) ∧ w' = w := by
  by_cases h : x = 1
  · subst h
    go_enter Tryz.func185, Tryz.ntmps185
    go_wp2
    go_ret
    exact ⟨rfl, rfl⟩
  · have h' : ((x : Int) == 1) = false := by simp; omega
    rw [if_neg h]
    go_enter Tryz.func185, Tryz.ntmps185
    go_wp2
    go_ret
    exact ⟨rfl, rfl⟩
theorem Arr.ne {w : World} {g p : Nat} {t t' : TypeId} {l l' : List Value} (h : Arr w g t l) (h' : Arr w p t' l') (ht : t ≠ t') : g ≠ p := by
  intro e
  subst e
  have h2 := (show w.heap[g]? = _ from h).symm.trans (show w.heap[g]? = _ from h')
  injection h2 with h3
  injection h3 with _ h4 _
  exact ht h4
theorem valL_one (x : UInt8) : valL [x] = x.toNat := by simp [valL]
theorem take_drop_take (l : List UInt8) (a b c : Nat) (h : b + c ≤ a) : ((l.take a).drop b).take c = (l.drop b).take c := by
  rw [List.drop_take, List.take_take, Nat.min_eq_left (by omega)]
theorem valL_two_lt (l : List UInt8) : valL (l.take 2) < 65536 := by
  have h := valL_lt (l.take 2)
  have h2 : (l.take 2).length ≤ 2 := by rw [List.length_take]; omega
  have : 256 ^ (l.take 2).length ≤ 256 ^ 2 := Nat.pow_le_pow_right (by omega) h2
  omega
set_option maxRecDepth 20000 in
set_option maxHeartbeats 2000000 in
theorem head_step (w : World) (p : Nat) (S : Nat → Prop) (l : List UInt8) (b : UInt8) (held : Value) (n : Nat) (hn : l.length = n) (hS : S p) (h6 : 6 ≤ n) (hl : n < 14) (hm : markOk l) (ha : Arr w p 171 (boxC (stV 150 p) held 0 0 0 (.slice none 0 0) false)) (hr : RowIn w S 5 1 held n (u8s l)) :
    Calls Tryz.prog 150 #[.pointer (some ⟨p, 0, none⟩), .int .u8 (b.toNat : Int)] w fun e w' => StepB w p S (l ++ [b]) e w' := by
  have hmf : ∀ (fn : Fn) (first cap : Array Value) (w : World), (Instr.makeFunc fn first cap).run Tryz.prog w = .ok (.func fn first cap) w := fun _ _ _ _ => rfl
  obtain ⟨i0, hi, hz0, hz1, hz2⟩ := info_parts Tryz.infoU8
  have HI := hid hi
  have HA := hid ha
  have HR := hid hr
  have hb8 := b.toNat_lt
  obtain ⟨l', hl'⟩ : ∃ l', l ++ [b] = l' := ⟨_, rfl⟩
  have hn' : l'.length = n + 1 := by rw [← hl', List.length_append, List.length_singleton, hn]
  have HM : Hid (markOk l') := by rw [← hl']; exact markOk_more hm (by omega)
  have HU : Hid (u8s l' = u8s l ++ [.int .u8 (b.toNat : Int)]) := by rw [← hl']; exact u8s_snoc l b
  have HN := hid hn'
  rw [hl']
  obtain ⟨ao, cap, rfl, _, _⟩ := hr.shape
  have c1 := ha.cell (i := 1) rfl
  clear ha hr hm hi hn hn' hl'
  have k1 : ∀ o, (w.alloc o).cell? ⟨p, 1, none⟩ = some (.slice ao n cap) := fun o => (HA.out.alloc o).cell (i := 1) rfl
  go_enter Tryz.func150, Tryz.ntmps150
  go_wp2_with (at_builtin; refine wpList_append_mine _ rfl _ _ 72 rfl S 5 i0 (.int .u8 0) 1 1 Tryz.underlying72 HI.out hz0 hz1 hz2 rfl (by decide) _ _ _ rfl (HR.out.below (Below.refl' _ _)) ⟨w.heap.size, 0, none⟩ 1 1 [.int .u8 (b.toNat : Int)] rfl rfl ?c1 ?c2 ?c3 ?c4 ?_)
  case c1 => exact cell_one_new _ _ _
  case c2 => intro u hu; simp at hu; subst hu; rfl
  case c3 => unfold maxLen; omega
  case c4 => omega
  · intro v' w2 hrow hgrow
    have a1 : Arr (w.alloc (.cells #[.int .u8 (b.toNat : Int)] 5)) p 171 (boxC (stV 150 p) (.slice ao n cap) 0 0 0 (.slice none 0 0) false) := HA.out.alloc _
    have a2 : Arr w2 p 171 (boxC (stV 150 p) (.slice ao n cap) 0 0 0 (.slice none 0 0) false) := grown_arr hgrow (HR.out.below (Below.refl' _ _)) a1 (by decide)
    have kw : Kept S w w2 := (Kept.ofBelow (Below.refl' w _)).trans (Kept.grown hgrow (fun k hk => HR.out.own k hk)) (fun q h => .inl h)
    have d1 := a2.cell (i := 1) rfl
    have f1 := a2.frozen 1
    have hrow2 : RowIn w2 (fun q => S q ∨ w.heap.size + 1 ≤ q) 5 1 v' (n + 1) (u8s l') := by
      rw [HU.out]; simpa using hrow
    obtain ⟨ao', cap', rfl, hca1, hca2⟩ := hrow.shape
    obtain ⟨W3, hW3⟩ : ∃ W3, w2.setCell ⟨p, 1, none⟩ (.slice ao' (n + 1) cap') = W3 := ⟨_, rfl⟩
    have a3 : Arr W3 p 171 (boxC (stV 150 p) (.slice ao' (n + 1) cap') 0 0 0 (.slice none 0 0) false) := by rw [← hW3]; exact a2.set 1 _
    have kw3 : Kept S w W3 := by rw [← hW3]; exact kw.trans (Kept.set hS _) (fun q h => .inl h)
    have row3 : RowIn W3 (fun q => S q ∨ w.heap.size + 1 ≤ q) 5 1 (.slice ao' (n + 1) cap') (n + 1) (u8s l') := by rw [← hW3]; exact hrow2.set a2 (by decide) _
    have HW3 := hid hW3
    have HA3 := hid a3
    have HK3 := hid kw3
    have HR3 := hid row3
    clear hrow hrow2 a1 a2 kw hgrow a3 kw3 row3 hW3
    by_cases h13 : n = 13
    · subst h13
      have hN14 : l'.length = 14 := HN.out
      obtain ⟨ao2, cap2, e2, hc1, hc2, hby⟩ := RowIn.bytes (l := l') (S := fun q => S q ∨ w.heap.size + 1 ≤ q) (w := W3) (by rw [hN14]; exact HR3.out)
      rw [hN14] at e2
      simp only [Value.slice.injEq] at e2
      obtain ⟨rfl, _, rfl⟩ := e2
      rcases hby with ⟨_, h0⟩ | ⟨g, rfl, hbytes⟩
      · rw [h0] at hN14; cases hN14
      have hcs := cutSum_any W3 g cap' l' (by omega) (by omega) (by omega) hbytes
      rw [hN14] at hcs
      simp only [Nat.reduceSub] at hcs
      have HSR : Hid (sumRight l' = decide (valL ((l'.drop 10).take 4) = sumL (l'.take 10))) := by
        show _ = _
        unfold sumRight
        rw [hN14, show 14 - 4 = 10 from rfl, List.take_of_length_le (l := l'.drop 10) (by rw [List.length_drop]; omega)]
      have HCS := hid hcs
      have HBY := hid hbytes
      have HN4 := hid hN14
      clear hcs hbytes hN14
      have y1 := HA3.out.cell (i := 1) rfl
      go_wp2_with fail
      rw [HW3.out]
      refine HCS.out.mono ?_
      rintro e W4 ⟨rfl, m4, hW4⟩
      have a4 : Arr W4 p 171 (boxC (stV 150 p) (.slice (some ⟨g, 0, none⟩) (13 + 1) cap') 0 0 0 (.slice none 0 0) false) := by rw [hW4]; exact HA3.out
      have k4 : Kept S w W4 := by rw [hW4]; exact HK3.out.trans (Kept.drewN (S := S) m4) (fun q h => .inl h)
      have b4 : BytesAt W4 g 0 l' := by rw [hW4]; exact HBY.out
      have HA4 := hid a4
      have HK4 := hid k4
      have HB4 := hid b4
      clear a4 k4 b4 hW4 HCS HW3 HA3 HK3 HBY y1 HR3
      by_cases hsum : valL ((l'.drop 10).take 4) = sumL (l'.take 10)
      · have hsr : sumRight l' = true := by rw [HSR.out]; simpa using hsum
        rw [hsr]
        have HSU := hid hsum
        clear hsr HSR hsum
        have hl5 : ((l'.take 10).drop 5).length = 5 := by have := HN4.out; rw [List.length_drop, List.length_take]; omega
        have hl6 : ((l'.take 10).drop 6).length = 4 := by have := HN4.out; rw [List.length_drop, List.length_take]; omega
        have hl8 : ((l'.take 10).drop 8).length = 2 := by have := HN4.out; rw [List.length_drop, List.length_take]; omega
        obtain ⟨x, hx⟩ : ∃ x, l'[5]? = some x := ⟨l'[5]'(by have := HN4.out; omega), by simp⟩
        have hx1 : ((l'.take 10).drop 5).take 1 = [x] := by
          rw [take_drop_take _ _ _ _ (by omega)]
          have h5 : l'.drop 5 = x :: l'.drop 6 := by
            rw [List.drop_eq_getElem_cons (by have := HN4.out; omega)]
            have : l'[5]'(by have := HN4.out; omega) = x := by
              have := (List.getElem?_eq_some_iff.1 hx).2; exact this
            rw [this]
          rw [h5]; rfl
        have hx8 := x.toNat_lt
        have HX5 := hid hx
        have hcut8 := cut8_any W4 g 5 (cap' - 5) ((l'.take 10).drop 5) (by have := (HB4.out.take 10).drop 5; rw [Nat.zero_add] at this; exact this) (by omega) (by omega) (by omega)
        rw [hl5, hx1, valL_one, if_neg (by omega)] at hcut8
        simp only [Nat.reduceAdd, Nat.reduceSub] at hcut8
        have HC8 := hid hcut8
        clear hcut8 hx1 hx
        have hcap5 : ¬ cap' = 5 := by omega
        go_wp2_with fail
        refine HC8.out.mono ?_
        rintro e W5 ⟨rfl, m5, hW5⟩
        have HA5 : Hid (Arr W5 p 171 (boxC (stV 150 p) (.slice (some ⟨g, 0, none⟩) (13 + 1) cap') 0 0 0 (.slice none 0 0) false)) := by rw [hW5]; exact HA4.out
        have HK5 : Hid (Kept S w W5) := by rw [hW5]; exact HK4.out.trans (Kept.drewN (S := S) m5) (fun q h => .inl h)
        have HB5 : Hid (BytesAt W5 g 0 l') := by rw [hW5]; exact HB4.out
        clear hW5 HC8 HA4 HK4 HB4
        have hcut16 := cut16_any W5 g 6 (cap' - 5 - 1) ((l'.take 10).drop 6) (by have := (HB5.out.take 10).drop 6; rw [Nat.zero_add] at this; exact this) (by omega) (by omega) (by omega)
        rw [hl6, take_drop_take _ _ _ _ (by omega), show valL ((l'.drop 6).take 2) = rowsB l' from rfl, if_neg (by omega)] at hcut16
        simp only [Nat.reduceAdd, Nat.reduceSub] at hcut16
        have HC16 := hid hcut16
        have hRlt : rowsB l' < 65536 := valL_two_lt _
        have hClt : colsB l' < 65536 := valL_two_lt _
        obtain ⟨R, hRd⟩ : ∃ R, rowsB l' = R := ⟨_, rfl⟩
        obtain ⟨C, hCd⟩ : ∃ C, colsB l' = C := ⟨_, rfl⟩
        rw [hRd] at HC16 hRlt
        rw [hCd] at hClt
        have HRD := hid hRd
        have HCD := hid hCd
        clear hcut16 hRd hCd
        go_wp2_with fail
        refine HC16.out.mono ?_
        rintro e W6 ⟨rfl, m6, hW6⟩
        have HA6 : Hid (Arr W6 p 171 (boxC (stV 150 p) (.slice (some ⟨g, 0, none⟩) (13 + 1) cap') 0 0 0 (.slice none 0 0) false)) := by rw [hW6]; exact HA5.out
        have HK6 : Hid (Kept S w W6) := by rw [hW6]; exact HK5.out.trans (Kept.drewN (S := S) m6) (fun q h => .inl h)
        have HB6 : Hid (BytesAt W6 g 0 l') := by rw [hW6]; exact HB5.out
        clear hW6 HC16 HA5 HK5 HB5
        have hcut16 := cut16_any W6 g 8 (cap' - 5 - 1 - 2) ((l'.take 10).drop 8) (by have := (HB6.out.take 10).drop 8; rw [Nat.zero_add] at this; exact this) (by omega) (by omega) (by omega)
        rw [hl8, take_drop_take _ _ _ _ (by omega), show valL ((l'.drop 8).take 2) = colsB l' from rfl, HCD.out] at hcut16
        obtain ⟨sl, hsl⟩ : ∃ sl : Value, sl = .slice (if cap' - 5 - 1 - 2 = 2 then some ⟨g, 8, none⟩ else some ⟨g, 8 + 2, none⟩) (2 - 2) (cap' - 5 - 1 - 2 - 2) := ⟨_, rfl⟩
        rw [← hsl] at hcut16
        have HC17 := hid hcut16
        clear hcut16 hsl
        go_wp2_with fail
        refine HC17.out.mono ?_
        rintro e W7 ⟨rfl, m7, hW7⟩
        have HA7 : Hid (Arr W7 p 171 (boxC (stV 150 p) (.slice (some ⟨g, 0, none⟩) (13 + 1) cap') 0 0 0 (.slice none 0 0) false)) := by rw [hW7]; exact HA6.out
        have HK7 : Hid (Kept S w W7) := by rw [hW7]; exact HK6.out.trans (Kept.drewN (S := S) m7) (fun q h => .inl h)
        clear hW7 HC17 HA6 HK6 HB6
        by_cases hbig : 40 < R ∨ 40 < C
        · have hE : boxE l' = 8 := boxE_large HM.out (by rw [HN4.out]; omega) HSU.out (by rw [HRD.out, HCD.out]; exact hbig)
          have fin : Hid (StepB w p S l' (.returned (.tuple #[.nilFunc, .int .i64 8])) W7) := ⟨.nilFunc, by rw [hE], ⟨default, default, default, .inr rfl⟩, HK7.out, ⟨_, HA7.out, rfl⟩, fun h => by rw [hE] at h; cases h⟩
          clear hE
          by_cases hR : 40 < R
          · have hR' : (40 : Int) < R := by omega
            go_wp2
            go_ret2
            exact fin.out
          · have hR' : ¬ (40 : Int) < R := by omega
            have hC' : (40 : Int) < C := by omega
            go_wp2
            go_ret2
            exact fin.out
        · have hR' : ¬ (40 : Int) < R := by omega
          have hC' : ¬ (40 : Int) < C := by omega
          have hok : HeadOk l' := ⟨HM.out, by rw [HN4.out]; omega, HSU.out, by rw [HRD.out]; omega, by rw [HCD.out]; omega⟩
          have HOK := hid hok
          obtain ⟨kd, hkd⟩ : ∃ kd : Nat, (if x.toNat = 1 then 5 else 4) = kd := ⟨_, rfl⟩
          have HKD : Hid (kindB l' = kd) := by
            show _ = _
            unfold kindB
            rw [HX5.out, ← hkd]
            by_cases h1 : x = 1
            · subst h1; rfl
            · rw [if_neg (by simpa using h1), if_neg (fun h => h1 (UInt8.toNat_inj.1 (by simpa using h)))]
          have hko := kindOf_any W7 x.toNat (by omega)
          rw [hkd] at hko
          have HKO := hid hko
          clear hko hkd hok
          go_wp2_with fail
          refine HKO.out.mono ?_
          rintro e W8 ⟨rfl, hW8⟩
          rw [hW8]
          clear hW8 HKO
          have z2 := HA7.out.cell (i := 2) rfl
          have y2 := HA7.out.frozen 2
          obtain ⟨W8, hW8⟩ : ∃ W8, W7.setCell ⟨p, 2, none⟩ (.int .i64 (kd : Int)) = W8 := ⟨_, rfl⟩
          have HA8 : Hid (Arr W8 p 171 (boxC (stV 150 p) (.slice (some ⟨g, 0, none⟩) (13 + 1) cap') kd 0 0 (.slice none 0 0) false)) := by rw [← hW8]; exact HA7.out.set 2 _
          have HK8 : Hid (Kept S w W8) := by rw [← hW8]; exact HK7.out.trans (Kept.set hS _) (fun q h => .inl h)
          have HW8 := hid hW8
          clear hW8
          have HNW := hid (mat_new W8 R C (by omega) (by omega))
          go_wp2_with fail
          rw [HW8.out]
          refine HNW.out.mono ?_
          rintro e W9 ⟨rfl, hW9⟩
          have HA9 : Hid (Arr W9 p 171 (boxC (stV 150 p) (.slice (some ⟨g, 0, none⟩) (13 + 1) cap') kd 0 0 (.slice none 0 0) false)) := by rw [hW9]; exact (HA8.out.alloc _).alloc _
          have HG9 : Hid (Arr W9 (W8.heap.size + 1) 65 (List.replicate (R * C) (.int .u64 0))) := by
            show Arr _ _ _ _
            rw [hW9]
            have := Arr.new (W8.alloc (matO R C (W8.heap.size + 1))) 65 (Array.replicate (R * C) (.int .u64 0))
            rw [World.size_alloc, Array.toList_replicate] at this
            exact this
          have HK9 : Hid (Kept S w W9) := by
            rw [hW9]; exact (HK8.out.trans (Kept.ofBelow (S := S) (Below.refl' W8 _)) (fun q h => .inl h)).trans (Kept.ofBelow (S := S) (Below.refl' _ _)) (fun q h => .inl h)
          obtain ⟨g9, hg9⟩ : ∃ g9, W8.heap.size + 1 = g9 := ⟨_, rfl⟩
          have hgw : w.heap.size ≤ g9 := by have := HK8.out.size; omega
          rw [hg9] at HG9 ⊢
          unfold matV
          clear hW9 HW8 HNW HA8 HK8 HA7 HK7 z2 y2 hg9
          have q3 := HA9.out.cell (i := 3) rfl
          have q4 := HA9.out.cell (i := 4) rfl
          have q5 := HA9.out.cell (i := 5) rfl
          have r3 := HA9.out.frozen 3
          have r4 := HA9.out.frozen 4
          have r5 := HA9.out.frozen 5
          have A10 := ((HA9.out.set 3 (.int .i64 (R : Int))).set 4 (.int .i64 (C : Int))).set 5 (.slice (some ⟨g9, 0, none⟩) (R * C) (R * C))
          have q1 := A10.cell (i := 1) rfl
          have r1 := A10.frozen 1
          have HA10 := hid A10
          clear A10
          obtain ⟨N, hNN⟩ : ∃ N, R * C = N := ⟨_, rfl⟩
          rw [hNN] at HA10 HG9 q1 r1 ⊢
          have HNN := hid hNN
          clear hNN
          go_wp2
          go_ret2
          have hE : boxE l' = 0 := boxE_pay HOK.out (by rw [HN4.out]; omega)
          have hne : g9 ≠ p := HG9.out.ne HA9.out (by decide)
          have A11 := HA10.out.set 1 (.slice none 0 0)
          have hK : Kept S w ((((W9.setCell ⟨p, 3, none⟩ (.int .i64 (R : Int))).setCell ⟨p, 4, none⟩ (.int .i64 (C : Int))).setCell ⟨p, 5, none⟩ (.slice (some ⟨g9, 0, none⟩) N N)).setCell ⟨p, 1, none⟩ (.slice none 0 0)) :=
            (((HK9.out.trans (Kept.set (S := S) hS _) (fun q h => .inl h)).trans (Kept.set (S := S) hS _) (fun q h => .inl h)).trans (Kept.set (S := S) hS _) (fun q h => .inl h)).trans (Kept.set (S := S) hS _) (fun q h => .inl h)
          refine ⟨stV 186 p, by rw [hE]; rfl, ⟨_, _, _, .inl rfl⟩, hK, ⟨_, A11, rfl⟩, fun _ => ⟨.inl hS, .inr (.inr (.inl ⟨HOK.out, by rw [HN4.out]; omega, .slice none 0 0, g9, ?_, ?_, ?_, ?_⟩))⟩⟩
          · rw [HKD.out, HRD.out, HCD.out, HNN.out]
            exact A11.set 0 _
          · rw [HN4.out, List.drop_of_length_le (by rw [HN4.out]; omega)]
            exact RowIn.nil _ _ _ _
          · rw [HRD.out, HCD.out, HNN.out]
            exact ((((HG9.out.other _ hne).other _ hne).other _ hne).other _ hne).other _ hne
          · exact .inr ⟨hgw, by have := HG9.out.lt; simpa [World.setCell] using this⟩
      · have hsr : sumRight l' = false := by rw [HSR.out]; simpa using hsum
        rw [hsr]
        have hE : boxE l' = 12 := boxE_sum HM.out (by rw [HN4.out]; omega) hsum
        clear hsr HSR hsum
        go_wp2
        go_ret2
        exact ⟨.nilFunc, by rw [hE]; rfl, ⟨default, default, default, .inr rfl⟩, HK4.out, ⟨_, HA4.out, rfl⟩, fun h => by rw [hE] at h; cases h⟩
    · have hlt : (n : Int) + 1 < 14 := by omega
      have y1 := HA3.out.cell (i := 1) rfl
      go_wp2_with fail
      rw [HW3.out]
      go_wp2
      go_ret2
      have hE : boxE l' = 0 := boxE_short HM.out (by rw [HN.out]; omega)
      refine ⟨stV 150 p, by rw [hE]; rfl, ⟨_, _, _, .inl rfl⟩, HK3.out, ⟨_, HA3.out, rfl⟩, fun _ => ⟨.inl hS, .inr (.inl ⟨by rw [HN.out]; omega, by rw [HN.out]; omega, HM.out, _, HA3.out.set 0 _, ?_⟩)⟩⟩
      rw [HN.out]
      exact (HR3.out.toPlus (by omega) (Nat.le_refl _)).set HA3.out (by decide) _
end Go.Proofs.YthdcceackfdbbaaGreatDoor
namespace Go.Proofs.YthdcceackfdbbaaGreatDoor
open Go Go.RowKit Go.Shelf
attribute [local go_sem] Oper.semAt_some
theorem any_wide {P : Program} {md : Region.Mode} {ops : Array Oper} {Q : Exit → Act → World → Prop} {n : Nat} (hq : ¬ LetsOut Q) :
    ∀ (fuel : Nat) (listed : Array Bool) (a : Act) (w : World), wpAny P md ops Q fuel listed a w → wpAnyIn Fence.wide n P md ops Q fuel listed a w
  | 0, _, _, _, h => h
  | fuel + 1, listed, a, w, h => by
    refine ⟨h.1, fun i hi => ?_⟩
    have h1 := h.2 i hi
    unfold wpOp at h1
    unfold wpOpIn
    cases ho : ops[i]? with
    | none => rw [ho] at h1; exact any_wide hq fuel _ _ _ h1
    | some o =>
      rw [ho] at h1
      simp only at h1 ⊢
      split
      · rename_i hw
        rw [if_pos hw] at h1
        rcases h1 with h1 | ⟨_, h1⟩
        · refine ⟨fun _ _ => trivial, ?_⟩
          rw [show Fence.wide.round = none from rfl, Oper.semAt_none]
          unfold Oper.wp at h1
          generalize (execOp a.eval o).run P w = r at h1 ⊢
          cases r with
          | ok x w' =>
            cases x with
            | value v => exact any_wide hq fuel _ _ _ h1
            | skip => exact any_wide hq fuel _ _ _ h1
            | defer d => exact any_wide hq fuel _ _ _ h1
            | enter f args =>
              refine ⟨fun h => (by cases h), callsIn_wide.2 (h1.mono fun e w'' he => ?_)⟩
              cases e with
              | returned v => exact any_wide hq fuel _ _ _ he
              | panicked c => exact he
              | outgrown => exact he
            | row row args => exact ⟨fun h => (by cases h), rowsWide (h1.mono fun v w'' he => any_wide hq fuel _ _ _ he)⟩
            | _ => exact h1.elim
          | halt x w' => cases x <;> exact h1
        · exact absurd h1 hq
      · rename_i hw
        rw [if_neg hw] at h1
        exact ⟨fun _ _ => trivial, any_wide hq fuel _ _ _ h1⟩
theorem region_wide {P : Program} {id : Nat} {ops : Array Oper} {Q : Exit → Act → World → Prop} {n : Nat} {a : Act} {w : World} (S : World → Prop) (hm : P.follows .mixedOrders = true) (hq : ¬ LetsOut (NoPanic Q))
    (h : wpAnyH P .any ops (NoPanic Q) S ops.size (Array.replicate ops.size false) a w.drew) : (Code.region id ops true).wpIn Fence.wide n P Q a w :=
  wpIn_mono (wpIn_region_any hm (any_wide hq _ _ _ _ (wpAny_of_held _ _ _ _ h))) NoPanic.imp
end Go.Proofs.YthdcceackfdbbaaGreatDoor
namespace Go.Proofs.YthdcceackfdbbaaGreatDoor
open Go Go.RowKit Go.Shelf
theorem and_hi52 (x M : Nat) : x &&& (M * 2 ^ 52) = ((x / 2 ^ 52) &&& M) * 2 ^ 52 := by
  apply Nat.eq_of_testBit_eq
  intro i
  rw [Nat.testBit_and, Nat.testBit_mul_two_pow, Nat.testBit_mul_two_pow, Nat.testBit_and, Nat.testBit_div_two_pow]
  by_cases hi : 52 ≤ i
  · rw [show i - 52 + 52 = i by omega]
    simp [hi]
  · simp [hi]
theorem and_infin {x : Nat} (h : x < 18446744073709551616) : bits BinOp.and IntKind.u64 (x : Int) 9218868437227405312 = ((x / 4503599627370496 % 2048 * 4503599627370496 : Nat) : Int) := by
  rw [show (9218868437227405312 : Int) = ((2047 * 2 ^ 52 : Nat) : Int) from rfl, u64_and_nat _ _ h (by omega), and_hi52]
  congr 2
  exact Nat.and_two_pow_sub_one_eq_mod (x / 2 ^ 52) 11
theorem canon_any : CanonOk := by
  intro w x hx
  have h1 := andNot_sign hx
  obtain ⟨s, hs⟩ : ∃ s, x % 9223372036854775808 = s := ⟨_, rfl⟩
  rw [hs] at h1
  by_cases c : 9218868437227405312 < s
  · have cb : decide ((9218868437227405312 : Int) < (s : Int)) = true := by simp; omega
    have hc : canon x = 9221120237041090560 := by unfold canon; rw [hs, if_pos c]
    rw [hc]
    go_enter Tryz.func102, Tryz.ntmps102
    go_wp2
    go_ret
    exact ⟨rfl, rfl⟩
  · have cb : decide ((9218868437227405312 : Int) < (s : Int)) = false := by simp; omega
    have hc : canon x = x := by unfold canon; rw [hs, if_neg c]
    rw [hc]
    go_enter Tryz.func102, Tryz.ntmps102
    go_wp2
    go_ret
    exact ⟨rfl, rfl⟩
theorem refcanon_any (w : World) (x : Nat) (hx : x < 18446744073709551616) : Calls Tryz.prog 74 #[.int .u64 (x : Int)] w fun e w' => e = .returned (.int .u64 (canon x : Int)) ∧ w' = w := by
  have h1 := and_infin hx
  have h2 := and_frac hx
  obtain ⟨s, hs⟩ : ∃ s, x / 4503599627370496 % 2048 * 4503599627370496 = s := ⟨_, rfl⟩
  obtain ⟨f, hf⟩ : ∃ f, x % 4503599627370496 = f := ⟨_, rfl⟩
  rw [hs] at h1
  rw [hf] at h2
  by_cases c : s = 9218868437227405312
  · have cb : ((s : Int) == 9218868437227405312) = true := by simp; omega
    by_cases d : f = 0
    · have db : ((f : Int) != 0) = false := by simp; omega
      have hc : canon x = x := by unfold canon; rw [if_neg (by omega)]
      rw [hc]
      clear hs hf hc c d
      go_enter Tryz.func74, Tryz.ntmps74
      go_wp2
      go_ret
      exact ⟨rfl, rfl⟩
    · have db : ((f : Int) != 0) = true := by simp; omega
      have hc : canon x = 9221120237041090560 := by unfold canon; rw [if_pos (by omega)]
      rw [hc]
      clear hs hf hc c d
      go_enter Tryz.func74, Tryz.ntmps74
      go_wp2
      go_ret
      exact ⟨rfl, rfl⟩
  · have cb : ((s : Int) == 9218868437227405312) = false := by simp; omega
    have hc : canon x = x := by unfold canon; rw [if_neg (by omega)]
    rw [hc]
    clear hs hf hc c
    go_enter Tryz.func74, Tryz.ntmps74
    go_wp2
    go_ret
    exact ⟨rfl, rfl⟩
end Go.Proofs.YthdcceackfdbbaaGreatDoor
