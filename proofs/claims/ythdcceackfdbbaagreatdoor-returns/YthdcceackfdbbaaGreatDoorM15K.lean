import Derived.Test.YthdcceackfdbbaaGreatDoorM11K
import Derived.Test.YthdcceackfdbbaaGreatDoorM14K
import Derived.ArgAppend
import Derived.Lib.SmallJoins
import Derived.Laws.IdiomStrings
namespace Go.Proofs.YthdcceackfdbbaaGreatDoor
open Go Go.RowKit Go.Shelf
attribute [local go_sem] Oper.semAt_some

theorem OwnU.keep {w w' : World} {B : Nat} {v : Value} {l : List UInt8} (h : OwnU w B v l) (hk : ∀ g cur, v.ownBlock = some g → w.heap[g]? = some (.cells cur 5 (0, 0)) → w'.heap[g]? = some (.cells cur 5 (0, 0))) : OwnU w' B v l := by
  obtain ⟨h0, h1 | ⟨g, cap, cur, rfl, hB, h2, h3⟩⟩ := h.row
  · exact ⟨h0, .inl h1⟩
  · exact ⟨h0, .inr ⟨g, cap, cur, rfl, hB, hk g cur rfl h2, h3⟩⟩
theorem OwnU.sim {B' : Nat} {w w' : World} {B : Nat} {v : Value} {l : List UInt8} (h : OwnU w B v l) (s : Sim B' w w') : OwnU w' B v l := h.keep (fun g _ _ hc => s.block g _ hc (.inr rfl))
theorem OwnU.alloc {w : World} {B : Nat} {v : Value} {l : List UInt8} (h : OwnU w B v l) (o : Obj) : OwnU (w.alloc o) B v l := h.sim (Sim.alloc 0 _ _)
theorem OwnU.other {w : World} {B : Nat} {v : Value} {l : List UInt8} (h : OwnU w B v l) {b j : Nat} {t : TypeId} {c : List Value} (ha : Arr w b t c) (ht : t ≠ 5) (u : Value) : OwnU (w.setCell ⟨b, j, none⟩ u) B v l :=
  h.keep (fun g _ _ hc => by
    rw [Below.heap_setCell _ _ _ _ (fun e => by have e' : g = b := e; rw [e', show w.heap[b]? = _ from ha] at hc; cases hc; exact ht rfl)]; exact hc)
theorem ownU_nil (w : World) (B : Nat) : OwnU w B (.slice none 0 0) [] := ⟨rfl, .inl ⟨rfl, rfl⟩⟩
theorem OwnU.one {w : World} {B : Nat} {v : Value} {l : List UInt8} (h : OwnU w B v l) : ∃ a n c, v = .slice a n c := by
  obtain ⟨_, ⟨h1, _⟩ | ⟨g, cap, cur, rfl, _⟩⟩ := h.row
  · exact ⟨_, _, _, h1⟩
  · exact ⟨_, _, _, rfl⟩

theorem others_sim {b : Option Nat} {W0 W W' : World} (h : Lib.OthersKept 5 b W0 W) (s : Sim W0.heap.size W W') : Lib.OthersKept 5 b W0 W' :=
  fun k o hk hb ho => s.block k o (h k o hk hb ho) (.inl (Array.getElem?_eq_some_iff.1 hk).1)
theorem others_none {b : Option Nat} {W W' : World} (h : Lib.OthersKept 5 Option.none W W') : Lib.OthersKept 5 b W W' :=
  fun k o hk _ ho => h k o hk (by simp) ho
theorem MemM.others {b : Option Nat} {W W' : World} {R C g : Nat} {f : Nat → Nat → Nat} {l : List Value} (h : MemM C g R f W) (k : Lib.OthersKept 5 b W W') (ha : Arr W g 65 l) (hg : some g ≠ b) (hs : W.heap.size ≤ W'.heap.size) : MemM C g R f W' := by
  have hb : W'.heap[g]? = W.heap[g]? := (k g _ ha hg (fun c fz e => by cases e)).trans ha.symm
  refine ⟨Nat.lt_of_lt_of_le h.1 hs, fun i j hi hj => ?_⟩
  have := h.2 i j hi hj
  unfold World.cell? at this ⊢
  rw [hb]; exact this

/-- the payload of a matrix -/
def payL (es : List (Nat × Nat × Nat)) : List UInt8 := es.flatMap fun y => lowL y.2.2 8

theorem payL_len (es : List (Nat × Nat × Nat)) : (payL es).length = 8 * es.length := by
  induction es with
  | nil => rfl
  | cons y r ih => simp only [payL, List.flatMap_cons, List.length_append, lowL_len, List.length_cons] at ih ⊢; omega

theorem payL_snoc (es : List (Nat × Nat × Nat)) (y : Nat × Nat × Nat) : payL (es ++ [y]) = payL es ++ lowL y.2.2 8 := by simp [payL]

set_option maxRecDepth 20000 in
set_option maxHeartbeats 4000000 in
theorem payload_any (w : World) (kind R C g : Nat) (f : Nat → Nat → Nat) (l : List Value) (hk : kind ≤ 5) (hR : R ≤ 40) (hC : C ≤ 40) (hm : MemM C g R f w) (hg : Arr w g 65 l) :
    Calls Tryz.prog 106 #[matV R C g, .int .i64 (kind : Int)] w fun e w' => ∃ v, e = .returned v ∧ OwnU w' w.heap.size v (payL (entL kind R C f)) ∧ Below w.heap.size w w' := by
  obtain ⟨b, hb⟩ : ∃ b, w.heap.size = b := ⟨_, rfl⟩
  have hgb : g < b := by have := hm.1; omega
  have hRC : R * C ≤ 40 * 40 := Nat.mul_le_mul hR hC
  have hel := entL_len kind R C f
  refine callsIn_wide (n := 0) |>.1 ?_
  refine callsIn_of_wp_marks Tryz.func106 rfl trivial ?_ rfl
  simp only [Tryz.ntmps106, List.size_toArray, List.length_cons, List.length_nil, Nat.reduceAdd, Nat.reduceSub, Array.replicate_succ, Array.replicate_zero, List.push_toArray, List.append_toArray, List.nil_append, List.cons_append, matV]
  have hdep : Fence.wide.depth = none := rfl
  have hf1 : Fence.wide.fn 110 := trivial
  have hf2 : Fence.wide.fn 141 := trivial
  gi_wp2_with fail
  have a0 : Arr ((w.alloc (matO R C g)).alloc (.cells #[.slice none 0 0] 72)) (b + 1) 72 [.slice none 0 0] := by
    have := Arr.newL (w.alloc (matO R C g)) 72 [.slice none 0 0]; rw [World.size_alloc, hb] at this; exact this
  have b0 : Below b w ((w.alloc (matO R C g)).alloc (.cells #[.slice none 0 0] 72)) := by rw [← hb]; exact ((Below.refl _ _).alloc (Nat.le_refl _) _).alloc (by simp) _
  have z0 : ((w.alloc (matO R C g)).alloc (.cells #[.slice none 0 0] 72)).heap.size = b + 2 := by simp [hb]
  unfold matO at a0 b0 z0
  obtain ⟨V, hV⟩ : ∃ V, (w.alloc (.cells #[.int .i64 (R : Int), .int .i64 (C : Int), .slice (some ⟨g, 0, none⟩) (R * C) (R * C)] 88)).alloc (.cells #[.slice none 0 0] 72) = V := ⟨_, rfl⟩
  rw [hV] at a0 b0 z0
  have HE := hid (callsIn_wide (n := 0).2 (entries_any V kind R C g f hk hR hC))
  unfold matV at HE
  rw [hV]
  refine HE.out.mono ?_
  rintro e W0 ⟨gf, fst, lb, rfl, Mem, eg, hgv, hmm, hty, hbe⟩
  have a1 : Arr W0 (b + 1) 72 [.slice none 0 0] := a0.belowAll hbe
  have b1 : Below b w W0 := b0.trans (hbe.mono (by omega))
  have g1 : Arr W0 g 65 l := hg.below b1 hgb
  have m1 : MemM C g R f W0 := hm.below b1 hgb
  have z1 : b + 2 ≤ W0.heap.size := by have := hbe.size; omega
  clear HE a0 hV
  gi_wp2_with fail
  refine range_gives 0 (gf := gf) (fst := fst) (lb := lb) rfl eg hgv (by intro x hx; obtain ⟨y, _, rfl⟩ := List.mem_map.1 hx; rfl)
    (fun k W => ∃ v, Arr W (b + 1) 72 [v] ∧ OwnU W b v (payL ((entL kind R C f).take k)) ∧ Lib.OthersKept 5 (some (b + 1)) W0 W ∧ Below b w W ∧ W0.heap.size ≤ W.heap.size)
    (fun _ _ => False)
    (fun x a' _ => ∃ y : Nat × Nat × Nat, x = entV y ∧ a' = { tmps := #[.agg #[.int .i64 (R : Int), .int .i64 (C : Int), .slice (some ⟨g, 0, none⟩) (R * C) (R * C)], .int .i64 (kind : Int), .pointer (some ⟨b, 0, none⟩), undef, .slice none 0 0, .pointer (some ⟨b + 1, 0, none⟩), undef, .int .u64 (y.2.2 : Int), .agg #[.int .i64 (R : Int), .int .i64 (C : Int), .slice (some ⟨g, 0, none⟩) (R * C) (R * C)], .int .i64 (kind : Int), .func (.func gf) fst lb, plcV y.1 y.2.1, .int .u64 (y.2.2 : Int), undef, undef, undef, undef], defers := [] })
    ?hMem ?hI ?hIx ?hAx ?h0 ?assign ?body ?done ?stop
  case hMem =>
    rintro k W ⟨v, h1, h2, h3, h4, h5⟩
    refine hmm W (m1.others h3 g1 (fun e => by cases e; omega) h5) (fun q hq1 hq2 => ?_)
    obtain ⟨o, ho, hno⟩ := hty q hq1 hq2
    exact (h3 q o ho (fun e => by cases e; omega) hno).trans ho.symm
  case hI => rintro k A B ⟨v, h1, h2, h3, h4, h5⟩ s; exact ⟨v, h1.sim s, h2.sim s, others_sim h3 s, h4.trans (Below.ofSim s (by omega) (by omega)), Nat.le_trans h5 s.size⟩
  case hIx => exact fun c A B h s => h
  case hAx => exact fun x a' A B h s => h
  case h0 => exact ⟨_, a1, by simpa [payL] using ownU_nil W0 b, Lib.OthersKept.refl _ _ _, b1, Nat.le_refl _⟩
  case assign =>
    intro l1 k x W1 K hx hi hK
    obtain ⟨y, hy, rfl⟩ := map_get hx
    have HK : Hid _ := hid (hK { tmps := #[.agg #[.int .i64 (R : Int), .int .i64 (C : Int), .slice (some ⟨g, 0, none⟩) (R * C) (R * C)], .int .i64 (kind : Int), .pointer (some ⟨b, 0, none⟩), undef, .slice none 0 0, .pointer (some ⟨b + 1, 0, none⟩), undef, .int .u64 (y.2.2 : Int), .agg #[.int .i64 (R : Int), .int .i64 (C : Int), .slice (some ⟨g, 0, none⟩) (R * C) (R * C)], .int .i64 (kind : Int), .func (.func gf) fst lb, plcV y.1 y.2.1, .int .u64 (y.2.2 : Int), undef, undef, undef, undef], defers := [] } W1
      (KeptFrom.refl _ _) hi ⟨y, rfl, rfl⟩)
    clear hK hi hx hy
    unfold entV plcV
    unfold plcV at HK
    gi_wp2
    exact HK.out
  case body =>
    rintro l1 k x a' W1 hx ⟨v, h1, h2, h3, h4, h5⟩ ⟨y, rfl, rfl⟩
    obtain ⟨y', hy, hye⟩ := map_get hx
    obtain rfl := entV_inj hye
    have hkl : k < (entL kind R C f).length := (List.getElem?_eq_some_iff.1 hy).1
    have hlen : (payL ((entL kind R C f).take k)).length ≤ 100000 := by rw [payL_len, List.length_take]; omega
    have hsnoc : Hid (payL ((entL kind R C f).take (k + 1)) = payL ((entL kind R C f).take k) ++ lowL y'.2.2 8) := by show _ = _; rw [List.take_add_one, hy]; exact payL_snoc _ _
    have HA := hid (CallsIn.inRound l1 (callsIn_wide (n := 0).2 (append64 W1 b v _ y'.2.2 h2 (by omega) hlen)))
    have c1 := h1.cell (i := 0) rfl
    unfold plcV
    clear hx hye
    obtain ⟨va, vn, vc, rfl⟩ := h2.one
    gi_wp2_with fail
    refine HA.out.mono ?_
    rintro e W2 ⟨v', rfl, h6, h7, h8⟩
    have h9 : Arr W2 (b + 1) 72 [.slice va vn vc] := h1.others h8 (by simp) (by decide)
    obtain ⟨va', vn', vc', rfl⟩ := h6.one
    have d1 := h9.cell (i := 0) rfl
    have d2 := h9.frozen 0
    have hs2 := h7.size
    gi_wp2
    refine ⟨KeptFrom.trans (Y := W2) ⟨h7.size, fun q o hq ho hn => h8 q o ho (by simp) hn.bytes⟩ (KeptFrom.set (by omega) _), .slice va' vn' vc', h9.set 0 _, ?_, ?_, ?_, ?_⟩
    · rw [hsnoc.out]; exact h6.other h9 (by decide) _
    · exact (h3.trans (others_none h8)).setCell _ rfl _
    · exact (h4.trans h7).setCell (p := ⟨b + 1, 0, none⟩) (by show b ≤ b + 1; omega) _
    · simp [World.setCell]; omega
  case done =>
    rintro D W1 hD ⟨v, h1, h2, h3, h4, h5⟩ hK
    obtain ⟨va, vn, vc, rfl⟩ := h2.one
    have c1 := h1.cell (i := 0) rfl
    gi_wp2
    refine ⟨by simp, .inl ⟨_, _, rfl, run_takeDeferred hK, ?_⟩⟩
    refine ⟨_, results_tmp rfl _ _ _, _, rfl, ?_, ?_⟩
    · have := h2.sim (Sim.putObj (B := b) (.deferred none) (by omega) hK rfl)
      rw [List.length_map, List.take_length] at this
      rw [hb]; exact this
    · rw [hb]; exact h4.trans ⟨rfl, rfl, rfl, by simp [World.putObj], fun q hq => World.putObj_heap_other (by omega)⟩
  case stop => exact fun _ _ _ _ h => h.elim

end Go.Proofs.YthdcceackfdbbaaGreatDoor
namespace Go.Proofs.YthdcceackfdbbaaGreatDoor
open Go Go.RowKit

theorem ownU_new (w : World) (B : Nat) (hB : B ≤ w.heap.size) (a : Array Value) (l : List UInt8) (ha : a = (u8s l).toArray) (hl : l.length ≤ 100) : OwnU (w.alloc (.cells a 5)) B (.slice (some ⟨w.heap.size, 0, none⟩) l.length l.length) l := by
  subst ha
  refine ⟨by simp [u8s], .inr ⟨w.heap.size, l.length, (u8s l).toArray, rfl, hB, World.alloc_heap_new w _, Nat.le_refl _, by unfold maxLen; omega, by simp [u8s], ?_⟩⟩
  simp [u8s, List.take_of_length_le]

set_option maxRecDepth 20000 in
set_option maxHeartbeats 1000000 in
theorem append8_first (w : World) (g : Nat) (l : List UInt8) (x : Nat) (hl : l.length ≤ 100) (hc : ∀ j u, (u8s l)[j]? = some u → w.cell? ⟨g, j, none⟩ = some u) (hx : x ≤ 255) :
    Calls Tryz.prog 139 #[.slice (some ⟨g, 0, none⟩) l.length l.length, .int .u8 (x : Int)] w fun e w' => ∃ v', e = .returned v' ∧ OwnU w' w.heap.size v' (l ++ lowL x 1) ∧ Below w.heap.size w w' := by
  obtain ⟨i0, hi, hz0, hz1, hz2⟩ := info_parts Tryz.infoU8
  go_enter Tryz.func139, Tryz.ntmps139
  go_wp2_with fail
  refine (size8 _).mono ?_
  rintro e w1 ⟨rfl, hw1⟩
  rw [hw1]
  clear hw1
  go_wp2
  go_loopw [0, 7] (fun vv vi wr => (vi = .int .i64 0 ∧ vv = .slice (some ⟨g, 0, none⟩) l.length l.length ∧ wr = w) ∨ (vi = .int .i64 1 ∧ OwnU wr w.heap.size vv (l ++ lowL x 1) ∧ Below w.heap.size w wr)) (fun _ vi _ => 1 - (intOf vi).toNat)
  case atStart => exact .inl ⟨rfl, rfl, rfl⟩
  case round =>
    rcases hrel with ⟨rfl, rfl, rfl⟩ | ⟨rfl, hown, hbel⟩
    · have hb8 := byteN x 0
      have e0 : (x : Int) % 256 = (((UInt8.ofNat (x / 256 ^ 0 % 256)).toNat : Nat) : Int) := by rw [← hb8]; simp
      have HE := hid e0
      clear hb8 e0
      go_wp2_with (at_builtin; refine wpList_append_grows _ rfl _ _ 72 rfl 5 i0 (.int .u8 0) 1 1 Tryz.underlying72 hi hz0 hz1 hz2 rfl (by decide) (some ⟨g, 0, none⟩) l.length l.length (u8s l) rfl (by simp) (by simp [u8s]) ?c0 ⟨wr.heap.size, 0, none⟩ 1 1 [.int .u8 (x : Int)] rfl rfl ?c1 ?c2 ?c3 ?c4 ?c5 ?_)
      case c0 =>
        intro b hb j u hu
        cases hb
        have h1 := hc j u hu
        have h2 : (⟨g, 0, none⟩ : Addr).add j = ⟨g, j, none⟩ := by simp [Addr.add]; exact fun h => h.symm
        rw [h2]; exact (Sim.alloc 0 _ _).cell h1
      case c1 => exact cell_one_new _ _ _
      case c2 => intro u hu; simp at hu; subst hu; rfl
      case c3 => omega
      case c4 => unfold maxLen; omega
      case c5 => omega
      · intro v' w1 hown' hgrow
        have hr : OwnU w1 wr.heap.size v' (l ++ lowL x 1) := by
          refine ⟨?_⟩
          have e1 : u8s (l ++ lowL x 1) = u8s l ++ [.int .u8 (x : Int)] := by
            have := HE.out
            rw [Int.emod_eq_of_lt (by omega) (by omega)] at this
            have e3 : lowL x 1 = [UInt8.ofNat (x / 256 ^ 0 % 256)] := rfl
            rw [e3]; simp only [u8s, List.map_append, List.map_cons, List.map_nil, ← this]
          have e2 : (l ++ lowL x 1).length = l.length + 1 := by simp [lowL_len]
          rw [e1, e2]; exact ownsRow_base hown' (by simp)
        have hb : Below wr.heap.size wr w1 := ((Below.refl _ _).alloc (Nat.le_refl _) _).grown hgrow (by simp) (fun q hq => by cases hq)
        clear hown' hgrow HE
        go_wp2
        go_roundw
        case rel => exact .inr ⟨by simp, hr, hb⟩
        case measure => simp [intOf]
    · go_wp2
      go_ret
      exact ⟨_, rfl, hown, hbel⟩

/-- the head of a container -/
def hdL (kind R C : Nat) : List UInt8 := [65, 66, 65, 67] ++ lowL 1 1 ++ lowL (if kind = 5 then 1 else 0) 1 ++ lowL R 2 ++ lowL C 2

theorem hdL_eq (kind R C : Nat) : hdL kind R C = [65, 66, 65, 67, 1] ++ lowL (if kind = 5 then 1 else 0) 1 ++ lowL R 2 ++ lowL C 2 := rfl

theorem hdL_len (kind R C : Nat) : (hdL kind R C).length = 10 := by simp [hdL, lowL_len]

set_option maxRecDepth 20000 in
set_option maxHeartbeats 1000000 in
theorem head_any (w : World) (kind R C g : Nat) (hR : R ≤ 40) (hC : C ≤ 40) :
    Calls Tryz.prog 105 #[matV R C g, .int .i64 (kind : Int)] w fun e w' => ∃ v, e = .returned v ∧ OwnU w' w.heap.size v (hdL kind R C) ∧ Below w.heap.size w w' := by
  obtain ⟨b, hb⟩ : ∃ b, w.heap.size = b := ⟨_, rfl⟩
  obtain ⟨o, ho⟩ : ∃ o : Nat, (if kind = 5 then 1 else 0) = o := ⟨_, rfl⟩
  have HO := hid ho
  have ho2 : o ≤ 1 := by rw [← ho]; split <;> omega
  rw [hdL_eq, ho]
  clear ho
  unfold matV
  have kc := Joins.run_convert_bytes_const_at (P := Tryz.prog) (w.alloc (matO R C g)) 72 5 #[.int .u8 65, .int .u8 66, .int .u8 65, .int .u8 67, .int .u8 1] 5 5 (b + 1) (by simp [hb]) Tryz.underlying72 Tryz.underlying5
  unfold matO at kc
  go_enter Tryz.func105, Tryz.ntmps105
  by_cases h5 : kind = 5
  · have h5' : ((kind : Int) == 5) = true := by simp; omega
    obtain rfl : o = 1 := by rw [← HO.out, if_pos h5]
    go_wp2_with fail
    obtain ⟨V, hV⟩ : ∃ V, (w.alloc (.cells #[.int .i64 (R : Int), .int .i64 (C : Int), .slice (some ⟨g, 0, none⟩) (R * C) (R * C)] 88)).alloc (.cells #[.int .u8 65, .int .u8 66, .int .u8 65, .int .u8 67, .int .u8 1] 5 (5, 6)) = V := ⟨_, rfl⟩
    have zV : V.heap.size = b + 2 := by rw [← hV]; simp [hb]
    have bV : Below b w V := by rw [← hV, ← hb]; exact ((Below.refl _ _).alloc (Nat.le_refl _) _).alloc (by simp) _
    have mV : Arr V b 88 [.int .i64 (R : Int), .int .i64 (C : Int), .slice (some ⟨g, 0, none⟩) (R * C) (R * C)] := by rw [← hV, ← hb]; exact (Arr.newL w _ _).alloc _
    have cV : ∀ j u, (u8s [65, 66, 65, 67, 1])[j]? = some u → V.cell? ⟨b + 1, j, none⟩ = some u := by
      intro j u hu
      rw [← hV, Joins.cell_alloc_mark_at _ _ _ _ (b + 1) j (by simp [hb])]
      rw [← hu, show u8s [65, 66, 65, 67, 1] = [.int .u8 65, .int .u8 66, .int .u8 65, .int .u8 67, .int .u8 1] from rfl]; simp
    have HA := hid (append8_first V (b + 1) [65, 66, 65, 67, 1] 1 (by decide) cV (by omega))
    rw [hV]
    clear cV hV kc
    refine HA.out.mono ?_
    rintro e W2 ⟨v2, rfl, o2, b2⟩
    have m2 := mV.belowAll b2
    obtain ⟨x2, y2, t2, rfl⟩ := o2.one
    have z2 := b2.size
    rw [zV] at o2 b2
    have k0 := m2.cell (i := 0) rfl
    go_wp2_with fail
    refine (append16 _ (b + 2) _ _ R o2 (by omega) (by simp [lowL_len]) (by omega)).mono ?_
    rintro e W3 ⟨v3, rfl, o3, b3, _⟩
    have m3 := m2.below b3 (by omega)
    obtain ⟨x3, y3, t3, rfl⟩ := o3.one
    have z3 := b3.size
    have k1 := m3.cell (i := 1) rfl
    go_wp2_with fail
    refine (append16 _ (b + 2) _ _ C o3 (by omega) (by simp [lowL_len]) (by omega)).mono ?_
    rintro e W4 ⟨v4, rfl, o4, b4, _⟩
    go_wp2
    go_ret
    refine ⟨_, rfl, ⟨ownsRow_base o4.row (by omega)⟩, ?_⟩
    rw [hb]
    exact (((bV.trans (b2.mono (by omega))).trans (b3.mono (by omega))).trans (b4.mono (by omega)))
  · have h5' : ((kind : Int) == 5) = false := by simp; omega
    obtain rfl : o = 0 := by rw [← HO.out, if_neg h5]
    go_wp2_with fail
    obtain ⟨V, hV⟩ : ∃ V, (w.alloc (.cells #[.int .i64 (R : Int), .int .i64 (C : Int), .slice (some ⟨g, 0, none⟩) (R * C) (R * C)] 88)).alloc (.cells #[.int .u8 65, .int .u8 66, .int .u8 65, .int .u8 67, .int .u8 1] 5 (5, 6)) = V := ⟨_, rfl⟩
    have zV : V.heap.size = b + 2 := by rw [← hV]; simp [hb]
    have bV : Below b w V := by rw [← hV, ← hb]; exact ((Below.refl _ _).alloc (Nat.le_refl _) _).alloc (by simp) _
    have mV : Arr V b 88 [.int .i64 (R : Int), .int .i64 (C : Int), .slice (some ⟨g, 0, none⟩) (R * C) (R * C)] := by rw [← hV, ← hb]; exact (Arr.newL w _ _).alloc _
    have cV : ∀ j u, (u8s [65, 66, 65, 67, 1])[j]? = some u → V.cell? ⟨b + 1, j, none⟩ = some u := by
      intro j u hu
      rw [← hV, Joins.cell_alloc_mark_at _ _ _ _ (b + 1) j (by simp [hb])]
      rw [← hu, show u8s [65, 66, 65, 67, 1] = [.int .u8 65, .int .u8 66, .int .u8 65, .int .u8 67, .int .u8 1] from rfl]; simp
    have HA := hid (append8_first V (b + 1) [65, 66, 65, 67, 1] 0 (by decide) cV (by omega))
    rw [hV]
    clear cV hV kc
    refine HA.out.mono ?_
    rintro e W2 ⟨v2, rfl, o2, b2⟩
    have m2 := mV.belowAll b2
    obtain ⟨x2, y2, t2, rfl⟩ := o2.one
    have z2 := b2.size
    rw [zV] at o2 b2
    have k0 := m2.cell (i := 0) rfl
    go_wp2_with fail
    refine (append16 _ (b + 2) _ _ R o2 (by omega) (by simp [lowL_len]) (by omega)).mono ?_
    rintro e W3 ⟨v3, rfl, o3, b3, _⟩
    have m3 := m2.below b3 (by omega)
    obtain ⟨x3, y3, t3, rfl⟩ := o3.one
    have z3 := b3.size
    have k1 := m3.cell (i := 1) rfl
    go_wp2_with fail
    refine (append16 _ (b + 2) _ _ C o3 (by omega) (by simp [lowL_len]) (by omega)).mono ?_
    rintro e W4 ⟨v4, rfl, o4, b4, _⟩
    go_wp2
    go_ret
    refine ⟨_, rfl, ⟨ownsRow_base o4.row (by omega)⟩, ?_⟩
    rw [hb]
    exact (((bV.trans (b2.mono (by omega))).trans (b3.mono (by omega))).trans (b4.mono (by omega)))

end Go.Proofs.YthdcceackfdbbaaGreatDoor
namespace Go.Proofs.YthdcceackfdbbaaGreatDoor
open Go Go.RowKit

theorem OwnU.belowAll {w w' : World} {B : Nat} {v : Value} {l : List UInt8} (h : OwnU w B v l) {B' : Nat} (hb : Below B' w w') (hlt : ∀ q, v.ownBlock = some q → q < B') : OwnU w' B v l :=
  h.keep (fun q _ hq hc => (hb.block q (hlt q hq)).trans hc)

theorem OwnU.form {w : World} {B : Nat} {v : Value} {l : List UInt8} (h : OwnU w B v l) (hne : 0 < l.length) : ∃ q cap, v = .slice (some ⟨q, 0, none⟩) l.length cap ∧ q < w.heap.size ∧ (∀ k x, l[k]? = some x → w.cell? ⟨q, k, none⟩ = some (.int .u8 (x.toNat : Int))) := by
  obtain ⟨a, cap, hv, _, _, hbc⟩ := h.shape
  obtain ⟨x, hx⟩ : ∃ x, l[0]? = some x := ⟨l[0], by simp⟩
  obtain ⟨q, ha, hc⟩ := hbc 0 x hx
  refine ⟨q, cap, by rw [hv, ha], World.block_lt_of_cell? w _ hc, fun k y hy => ?_⟩
  obtain ⟨q', ha', hc'⟩ := hbc k y hy
  rw [ha] at ha'
  cases ha'
  exact hc'

theorem addr_add (q j : Nat) : (⟨q, 0, none⟩ : Addr).add j = ⟨q, j, none⟩ := by simp [Addr.add]; exact fun h => h.symm

/-- the container of a matrix -/
def boxL (kind R C : Nat) (f : Nat → Nat → Nat) : List UInt8 := (hdL kind R C ++ lowL (sumL (hdL kind R C)) 4) ++ (payL (entL kind R C f) ++ lowL (sumL (payL (entL kind R C f))) 4)

set_option maxRecDepth 20000 in
set_option maxHeartbeats 4000000 in
theorem boxWrite_any (w : World) (kind R C g : Nat) (f : Nat → Nat → Nat) (l : List Value) (hk : kind ≤ 5) (hR : R ≤ 40) (hC : C ≤ 40) (hm : MemM C g R f w) (hg : Arr w g 65 l) :
    Calls Tryz.prog 72 #[matV R C g, .int .i64 (kind : Int)] w fun e w' => ∃ s : ByteArray, e = .returned (.string s) ∧ s.data.toList = boxL kind R C f ∧ Below w.heap.size w w' := by
  have hmix : Tryz.prog.follows .mixedOrders = true := by kernel_rfl
  obtain ⟨b, hb⟩ : ∃ b, w.heap.size = b := ⟨_, rfl⟩
  have hRC : R * C ≤ 40 * 40 := Nat.mul_le_mul hR hC
  have hel := entL_len kind R C f
  have hpl := payL_len (entL kind R C f)
  obtain ⟨i0, hi, hz0, hz1, hz2⟩ := info_parts Tryz.infoU8
  unfold matV
  go_enter Tryz.func72, Tryz.ntmps72
  go_wp2_with fail
  obtain ⟨V, hV⟩ : ∃ V, w.alloc (.cells #[.int .i64 (R : Int), .int .i64 (C : Int), .slice (some ⟨g, 0, none⟩) (R * C) (R * C)] 88) = V := ⟨_, rfl⟩
  have mV : Arr V b 88 [.int .i64 (R : Int), .int .i64 (C : Int), .slice (some ⟨g, 0, none⟩) (R * C) (R * C)] := by rw [← hV, ← hb]; exact Arr.newL w _ _
  have bV : Below b w V := by rw [← hV, ← hb]; exact Below.refl' _ _
  have zV : V.heap.size = b + 1 := by rw [← hV]; simp [hb]
  rw [hV]
  clear hV
  refine wp_region_held (S := fun W' => Arr W' b 88 [.int .i64 (R : Int), .int .i64 (C : Int), .slice (some ⟨g, 0, none⟩) (R * C) (R * C)]) hmix ?_
  change wpAnyH _ _ _ _ _ _ _ _ V.drew
  have hS0 : Arr V.drew b 88 [.int .i64 (R : Int), .int .i64 (C : Int), .slice (some ⟨g, 0, none⟩) (R * C) (R * C)] := mV.drew
  refine wpAnyH_take (i := 0) (v := .agg #[.int .i64 (R : Int), .int .i64 (C : Int), .slice (some ⟨g, 0, none⟩) (R * C) (R * C)]) rfl (by kernel_rfl) (by kernel_rfl) (by kernel_rfl) (fun _ _ _ h => h) (Or.inl ⟨by rfl, fun W' hS => ?_⟩) hS0 ?_
  · have c0 := hS.cell (i := 0) rfl
    have c1 := hS.cell (i := 1) rfl
    have c2 := hS.cell (i := 2) rfl
    clear hS
    go_simp
  simp only [Act.put]
  refine wpAnyH_take (i := 1) (v := .int .i64 (kind : Int)) rfl (by kernel_rfl) (by kernel_rfl) (by kernel_rfl) (fun _ _ _ h => h) (Or.inl ⟨by rfl, fun W' hS => ?_⟩) hS0 ?_
  · clear hS
    go_simp
  simp only [Act.put]
  refine wpAnyH_take (i := 4) (v := .agg #[.int .i64 (R : Int), .int .i64 (C : Int), .slice (some ⟨g, 0, none⟩) (R * C) (R * C)]) rfl (by kernel_rfl) (by kernel_rfl) (by kernel_rfl) (fun _ _ _ h => h) (Or.inl ⟨by rfl, fun W' hS => ?_⟩) hS0 ?_
  · have c0 := hS.cell (i := 0) rfl
    have c1 := hS.cell (i := 1) rfl
    have c2 := hS.cell (i := 2) rfl
    clear hS
    go_simp
  simp only [Act.put]
  refine wpAnyH_take (i := 5) (v := .int .i64 (kind : Int)) rfl (by kernel_rfl) (by kernel_rfl) (by kernel_rfl) (fun _ _ _ h => h) (Or.inl ⟨by rfl, fun W' hS => ?_⟩) hS0 ?_
  · clear hS
    go_simp
  simp only [Act.put]
  refine wpAnyH_ready (rs := [2]) (by kernel_rfl) (by simp) ?_
  refine AllReadyH.cons rfl (fun K hKK => ?_) AllReadyH.nil
  go_simp
  refine (head_any _ kind R C g hR hC).mono ?_
  rintro e W1 ⟨v1, rfl, o1, b1⟩
  change Below V.heap.size V.drew W1 at b1
  change OwnU W1 V.heap.size v1 _ at o1
  have hS1 := hS0.below b1 (by omega)
  refine hKK.out _ _ hS1 (fun hHeld => ?_)
  clear hKK
  refine wpAnyH_ready (rs := [3]) (by kernel_rfl) (by simp) ?_
  refine AllReadyH.cons rfl (fun K hKK => ?_) AllReadyH.nil
  go_simp
  refine (summed_any _ _ _ _ o1 (by have := b1.size; exact this) (by rw [hdL_len]; omega)).mono ?_
  rintro e W2 ⟨v2, rfl, o2, b2, _⟩
  have hS2 := hS1.below b2 (by omega)
  refine hKK.out _ _ hS2 (fun hHeld => ?_)
  clear hKK
  have bW2 : Below b w W2 := (bV.drew.trans (b1.mono (by omega))).trans (b2.mono (by omega))
  have gW2 : Arr W2 g 65 l := hg.below bW2 (by have := hg.lt; omega)
  have mW2 : MemM C g R f W2 := hm.below bW2 (by have := hm.1; omega)
  have zW2 : b + 1 ≤ W2.heap.size := by have := b1.size; have := b2.size; have e : V.drew.heap.size = V.heap.size := rfl; omega
  refine wpAnyH_ready (rs := [6]) (by kernel_rfl) (by simp) ?_
  refine AllReadyH.cons rfl (fun K hKK => ?_) AllReadyH.nil
  go_simp
  refine (payload_any _ kind R C g f l hk hR hC mW2 gW2).mono ?_
  rintro e W3 ⟨v3, rfl, o3, b3⟩
  have hS3 := hS2.below b3 (by omega)
  refine hKK.out _ _ hS3 (fun hHeld => ?_)
  clear hKK
  refine wpAnyH_ready (rs := [7]) (by kernel_rfl) (by simp) ?_
  refine AllReadyH.cons rfl (fun K hKK => ?_) AllReadyH.nil
  go_simp
  refine (summed_any _ _ _ _ o3 b3.size (by omega)).mono ?_
  rintro e W4 ⟨v4, rfl, o4, b4, _⟩
  have hS4 := hS3.below b4 (by omega)
  refine hKK.out _ _ hS4 (fun hHeld => ?_)
  clear hKK
  have o2' : OwnU W4 V.heap.size v2 _ := (o2.belowAll b3 (fun q hq => (o2.row.lt q hq).2)).belowAll b4 (fun q hq => (o2.row.lt q hq).2)
  obtain ⟨q4, c4, rfl, hq4, hcell4⟩ := o4.form (by simp [lowL_len])
  obtain ⟨x2, y2, t2, rfl⟩ := o2.one
  obtain ⟨n4, hn4⟩ : ∃ n4, (payL (entL kind R C f) ++ lowL (sumL (payL (entL kind R C f))) 4).length = n4 := ⟨_, rfl⟩
  obtain ⟨n2, hn2⟩ : ∃ n2, (hdL kind R C ++ lowL (sumL (hdL kind R C)) 4).length = n2 := ⟨_, rfl⟩
  have hn4' : n4 ≤ 20000 := by rw [← hn4]; simp [lowL_len]; omega
  have hn2' : n2 ≤ 100 := by rw [← hn2]; simp [lowL_len, hdL_len]
  have hpos : 0 < (boxL kind R C f).length := by simp [boxL, hdL_len]; omega
  have row2 := o2'.row
  rw [hn2] at row2
  rw [hn4]
  clear hpl
  refine wpAnyH_ready (rs := [8]) (by kernel_rfl) (by simp) ?_
  refine AllReadyH.cons rfl (fun K hKK => ?_) AllReadyH.nil
  refine wp_append_own W4 _ _ 72 rfl V.heap.size 5 i0 (.int .u8 0) 1 1 Tryz.underlying72 hi hz0 hz1 hz2 rfl (by decide) _ _ _ rfl row2 ⟨q4, 0, none⟩ n4 c4
    (u8s (payL (entL kind R C f) ++ lowL (sumL (payL (entL kind R C f))) 4)) rfl (by simp only [u8s, List.length_map, Nat.mul_one]; exact hn4) (fun j u hu => by
      rw [addr_add]
      unfold u8s at hu
      obtain ⟨y, hy, rfl⟩ := map_get hu
      exact hcell4 j y hy) (fun u hu => by
      unfold u8s at hu
      obtain ⟨y, _, rfl⟩ := List.mem_map.1 hu
      rfl) (by unfold maxLen; omega) (by omega) (by have := b3.size; have := b4.size; omega) ?_
  intro v5 W5 r5 g5 _
  have o5 : OwnU W5 V.heap.size v5 (boxL kind R C f) := by
    refine ⟨?_⟩
    have e1 : u8s (boxL kind R C f) = u8s (hdL kind R C ++ lowL (sumL (hdL kind R C)) 4) ++ u8s (payL (entL kind R C f) ++ lowL (sumL (payL (entL kind R C f))) 4) := by simp [boxL, u8s]
    have e2 : (boxL kind R C f).length = n2 + n4 := by rw [← hn2, ← hn4]; unfold boxL; rw [List.length_append]
    rw [e1, e2]
    exact r5
  have b5 : Below (b + 1) W4 W5 := (Below.refl _ _).grown g5 (by have := b3.size; have := b4.size; omega) (fun q hq => by have := (o2'.row.lt q hq).1; omega)
  have hS5 := hS4.below b5 (by omega)
  obtain ⟨q5, c5, rfl, hq5, hcell5⟩ := o5.form hpos
  have hconv := run_convert_bytes_back (P := Tryz.prog) W5 72 9 5 ⟨q5, 0, none⟩ c5 (boxL kind R C f) Tryz.underlying72 Tryz.underlying5 Tryz.underlying9 (fun j hj => by rw [addr_add]; exact hcell5 j _ (by simp [hj]))
  have HBX : Hid (Below b w W5) := (((bW2.trans (b3.mono (by omega))).trans (b4.mono (by omega))).trans (b5.mono (by omega)))
  generalize hBL : boxL kind R C f = BL at *
  clear hcell4 hcell5 o5 r5 g5 o2' o4 o3 o1 row2
  refine hKK.out _ _ hS5 (fun hHeld => ?_)
  clear hKK
  simp only [Act.put]
  refine wpAnyH_ready (rs := [9]) (by kernel_rfl) (by simp) ?_
  refine AllReadyH.cons rfl (fun K hKK => ?_) AllReadyH.nil
  go_simp
  refine hKK.out _ _ hS5 (fun hHeld => ?_)
  clear hKK
  refine wpAnyH_ready (rs := [10]) (by kernel_rfl) (by simp) ?_
  refine AllReadyH.cons rfl (fun K hKK => ?_) AllReadyH.nil
  go_simp
  refine hKK.out _ _ hS5 (fun hHeld => ?_)
  clear hKK
  refine wpAnyH_done (by kernel_rfl) ?_ _
  clear hconv hS5 hHeld
  go_wp2
  go_ret
  exact ⟨⟨BL.toArray⟩, rfl, by simp; exact hBL.symm, by rw [hb]; exact HBX.out⟩

end Go.Proofs.YthdcceackfdbbaaGreatDoor
