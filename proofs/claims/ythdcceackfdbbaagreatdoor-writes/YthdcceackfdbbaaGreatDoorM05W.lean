import Derived.Test.YthdcceackfdbbaaGreatDoorM01W
import Derived.Test.YthdcceackfdbbaaGreatDoorM04W
import Derived.Test.YthdcceackfdbbaaGreatDoorShelf
import Derived.ArgAppend
import Derived.Lib.SmallJoins
import Derived.Laws.IdiomStrings
import Derived.BigQuiet
namespace Go.Proofs.YthdcceackfdbbaaGreatDoor
open Go Go.RowKit Go.Shelf
attribute [local go_sem] Oper.semAt_some

theorem OwnU.keep {w w' : World} {B : Nat} {v : Value} {l : List UInt8} (h : OwnU w B v l) (hk : ∀ g cur, v.ownBlock = some g → w.heap[g]? = some (.cells cur 5 (0, 0)) → w'.heap[g]? = some (.cells cur 5 (0, 0))) : OwnU w' B v l := by
  obtain ⟨h0, h1 | ⟨g, cap, cur, rfl, hB, h2, h3⟩⟩ := h.row
  · exact ⟨h0, .inl h1⟩
  · exact ⟨h0, .inr ⟨g, cap, cur, rfl, hB, hk g cur rfl h2, h3⟩⟩
theorem OwnU.sim {B' : Nat} {w w' : World} {B : Nat} {v : Value} {l : List UInt8} (h : OwnU w B v l) (s : Sim B' w w') : OwnU w' B v l := h.keep (fun g _ _ hc => s.block g _ hc (.inr rfl))
theorem OwnU.alloc {w : World} {B : Nat} {v : Value} {l : List UInt8} (h : OwnU w B v l) (o : Obj) : OwnU (w.alloc o) B v l := h.sim (Sim.alloc 0 _ _)
theorem OwnU.other {w : World} {B : Nat} {v : Value} {l : List UInt8} (h : OwnU w B v l) {b j : Nat} {t : TypeId} {c : List Value} (ha : Arr w b t c) (ht : t ≠ 5) (u : Value) : OwnU (w.setCell ⟨b, j, none⟩ u) B v l :=
  h.keep (fun g _ _ hc => by
    rw [Below.heap_setCell _ _ _ _ (fun e => by have e' : g = b := e; rw [e', show w.heap[b]? = _ from ha] at hc; cases hc; exact ht rfl)]; exact hc)
theorem ownU_nil (w : World) (B : Nat) : OwnU w B (.slice none 0 0) [] := ⟨rfl, .inl ⟨rfl, rfl⟩⟩
theorem OwnU.one {w : World} {B : Nat} {v : Value} {l : List UInt8} (h : OwnU w B v l) : ∃ a n c, v = .slice a n c := by
  obtain ⟨_, ⟨h1, _⟩ | ⟨g, cap, cur, rfl, _⟩⟩ := h.row
  · exact ⟨_, _, _, h1⟩
  · exact ⟨_, _, _, rfl⟩

theorem others_sim {b : Option Nat} {W0 W W' : World} (h : Lib.OthersKept 5 b W0 W) (s : Sim W0.heap.size W W') : Lib.OthersKept 5 b W0 W' :=
  fun k o hk hb ho => s.block k o (h k o hk hb ho) (.inl (Array.getElem?_eq_some_iff.1 hk).1)
theorem others_none {b : Option Nat} {W W' : World} (h : Lib.OthersKept 5 Option.none W W') : Lib.OthersKept 5 b W W' :=
  fun k o hk _ ho => h k o hk (by simp) ho
theorem MemM.others {b : Option Nat} {W W' : World} {R C g : Nat} {f : Nat → Nat → Nat} {l : List Value} (h : MemM C g R f W) (k : Lib.OthersKept 5 b W W') (ha : Arr W g 65 l) (hg : some g ≠ b) (hs : W.heap.size ≤ W'.heap.size) : MemM C g R f W' := by
  have hb : W'.heap[g]? = W.heap[g]? := (k g _ ha hg (fun c fz e => by cases e)).trans ha.symm
  refine ⟨Nat.lt_of_lt_of_le h.1 hs, fun i j hi hj => ?_⟩
  have := h.2 i j hi hj
  unfold World.cell? at this ⊢
  rw [hb]; exact this

/-- the payload of a matrix -/
def payL (es : List (Nat × Nat × Nat)) : List UInt8 := es.flatMap fun y => lowL y.2.2 8

theorem payL_len (es : List (Nat × Nat × Nat)) : (payL es).length = 8 * es.length := by
  induction es with
  | nil => rfl
  | cons y r ih => simp only [payL, List.flatMap_cons, List.length_append, lowL_len, List.length_cons] at ih ⊢; omega

theorem payL_snoc (es : List (Nat × Nat × Nat)) (y : Nat × Nat × Nat) : payL (es ++ [y]) = payL es ++ lowL y.2.2 8 := by simp [payL]

set_option maxRecDepth 20000 in
set_option maxHeartbeats 4000000 in
theorem payload_any (w : World) (kind R C g : Nat) (f : Nat → Nat → Nat) (l : List Value) (hk : kind ≤ 5) (hR : R ≤ 40) (hC : C ≤ 40) (hm : MemM C g R f w) (hg : Arr w g 65 l) :
    Calls Tryz.prog 106 #[matV R C g, .int .i64 (kind : Int)] w fun e w' => ∃ v, e = .returned v ∧ OwnU w' w.heap.size v (payL (entL kind R C f)) ∧ Below w.heap.size w w' := by
  obtain ⟨b, hb⟩ : ∃ b, w.heap.size = b := ⟨_, rfl⟩
  have hgb : g < b := by have := hm.1; omega
  have hRC : R * C ≤ 40 * 40 := Nat.mul_le_mul hR hC
  have hel := entL_len kind R C f
  refine callsIn_wide (n := 0) |>.1 ?_
  refine callsIn_of_wp_marks Tryz.func106 rfl trivial ?_ rfl
  simp only [Tryz.ntmps106, List.size_toArray, List.length_cons, List.length_nil, Nat.reduceAdd, Nat.reduceSub, Array.replicate_succ, Array.replicate_zero, List.push_toArray, List.append_toArray, List.nil_append, List.cons_append, matV]
  have hdep : Fence.wide.depth = none := rfl
  have hf1 : Fence.wide.fn 110 := trivial
  have hf2 : Fence.wide.fn 141 := trivial
  gi_wp2_with fail
  have a0 : Arr ((w.alloc (matO R C g)).alloc (.cells #[.slice none 0 0] 72)) (b + 1) 72 [.slice none 0 0] := by
    have := Arr.newL (w.alloc (matO R C g)) 72 [.slice none 0 0]; rw [World.size_alloc, hb] at this; exact this
  have b0 : Below b w ((w.alloc (matO R C g)).alloc (.cells #[.slice none 0 0] 72)) := by rw [← hb]; exact ((Below.refl _ _).alloc (Nat.le_refl _) _).alloc (by simp) _
  have z0 : ((w.alloc (matO R C g)).alloc (.cells #[.slice none 0 0] 72)).heap.size = b + 2 := by simp [hb]
  unfold matO at a0 b0 z0
  obtain ⟨V, hV⟩ : ∃ V, (w.alloc (.cells #[.int .i64 (R : Int), .int .i64 (C : Int), .slice (some ⟨g, 0, none⟩) (R * C) (R * C)] 88)).alloc (.cells #[.slice none 0 0] 72) = V := ⟨_, rfl⟩
  rw [hV] at a0 b0 z0
  have HE := hid (callsIn_wide (n := 0).2 (entries_any V kind R C g f hk hR hC))
  unfold matV at HE
  rw [hV]
  refine HE.out.mono ?_
  rintro e W0 ⟨gf, fst, lb, rfl, Mem, eg, hgv, hmm, hty, hbe⟩
  have a1 : Arr W0 (b + 1) 72 [.slice none 0 0] := a0.belowAll hbe
  have b1 : Below b w W0 := b0.trans (hbe.mono (by omega))
  have g1 : Arr W0 g 65 l := hg.below b1 hgb
  have m1 : MemM C g R f W0 := hm.below b1 hgb
  have z1 : b + 2 ≤ W0.heap.size := by have := hbe.size; omega
  clear HE a0 hV
  gi_wp2_with fail
  refine range_gives 0 (gf := gf) (fst := fst) (lb := lb) rfl eg hgv (by intro x hx; obtain ⟨y, _, rfl⟩ := List.mem_map.1 hx; rfl)
    (fun k W => ∃ v, Arr W (b + 1) 72 [v] ∧ OwnU W b v (payL ((entL kind R C f).take k)) ∧ Lib.OthersKept 5 (some (b + 1)) W0 W ∧ Below b w W ∧ W0.heap.size ≤ W.heap.size)
    (fun _ _ => False)
    (fun x a' _ => ∃ y : Nat × Nat × Nat, x = entV y ∧ a' = { tmps := #[.agg #[.int .i64 (R : Int), .int .i64 (C : Int), .slice (some ⟨g, 0, none⟩) (R * C) (R * C)], .int .i64 (kind : Int), .pointer (some ⟨b, 0, none⟩), undef, .slice none 0 0, .pointer (some ⟨b + 1, 0, none⟩), undef, .int .u64 (y.2.2 : Int), .agg #[.int .i64 (R : Int), .int .i64 (C : Int), .slice (some ⟨g, 0, none⟩) (R * C) (R * C)], .int .i64 (kind : Int), .func (.func gf) fst lb, plcV y.1 y.2.1, .int .u64 (y.2.2 : Int), undef, undef, undef, undef], defers := [] })
    ?hMem ?hI ?hIx ?hAx ?h0 ?assign ?body ?done ?stop
  case hMem =>
    rintro k W ⟨v, h1, h2, h3, h4, h5⟩
    refine hmm W (m1.others h3 g1 (fun e => by cases e; omega) h5) (fun q hq1 hq2 => ?_)
    obtain ⟨o, ho, hno⟩ := hty q hq1 hq2
    exact (h3 q o ho (fun e => by cases e; omega) hno).trans ho.symm
  case hI => rintro k A B ⟨v, h1, h2, h3, h4, h5⟩ s; exact ⟨v, h1.sim s, h2.sim s, others_sim h3 s, h4.trans (Below.ofSim s (by omega) (by omega)), Nat.le_trans h5 s.size⟩
  case hIx => exact fun c A B h s => h
  case hAx => exact fun x a' A B h s => h
  case h0 => exact ⟨_, a1, by simpa [payL] using ownU_nil W0 b, Lib.OthersKept.refl _ _ _, b1, Nat.le_refl _⟩
  case assign =>
    intro l1 k x W1 K hx hi hK
    obtain ⟨y, hy, rfl⟩ := map_get hx
    have HK : Hid _ := hid (hK { tmps := #[.agg #[.int .i64 (R : Int), .int .i64 (C : Int), .slice (some ⟨g, 0, none⟩) (R * C) (R * C)], .int .i64 (kind : Int), .pointer (some ⟨b, 0, none⟩), undef, .slice none 0 0, .pointer (some ⟨b + 1, 0, none⟩), undef, .int .u64 (y.2.2 : Int), .agg #[.int .i64 (R : Int), .int .i64 (C : Int), .slice (some ⟨g, 0, none⟩) (R * C) (R * C)], .int .i64 (kind : Int), .func (.func gf) fst lb, plcV y.1 y.2.1, .int .u64 (y.2.2 : Int), undef, undef, undef, undef], defers := [] } W1
      (KeptFrom.refl _ _) hi ⟨y, rfl, rfl⟩)
    clear hK hi hx hy
    unfold entV plcV
    unfold plcV at HK
    gi_wp2
    exact HK.out
  case body =>
    rintro l1 k x a' W1 hx ⟨v, h1, h2, h3, h4, h5⟩ ⟨y, rfl, rfl⟩
    obtain ⟨y', hy, hye⟩ := map_get hx
    obtain rfl := entV_inj hye
    have hkl : k < (entL kind R C f).length := (List.getElem?_eq_some_iff.1 hy).1
    have hlen : (payL ((entL kind R C f).take k)).length ≤ 100000 := by rw [payL_len, List.length_take]; omega
    have hsnoc : Hid (payL ((entL kind R C f).take (k + 1)) = payL ((entL kind R C f).take k) ++ lowL y'.2.2 8) := by show _ = _; rw [List.take_add_one, hy]; exact payL_snoc _ _
    have HA := hid (CallsIn.inRound l1 (callsIn_wide (n := 0).2 (append64 W1 b v _ y'.2.2 h2 (by omega) hlen)))
    have c1 := h1.cell (i := 0) rfl
    unfold plcV
    clear hx hye
    obtain ⟨va, vn, vc, rfl⟩ := h2.one
    gi_wp2_with fail
    refine HA.out.mono ?_
    rintro e W2 ⟨v', rfl, h6, h7, h8⟩
    have h9 : Arr W2 (b + 1) 72 [.slice va vn vc] := h1.others h8 (by simp) (by decide)
    obtain ⟨va', vn', vc', rfl⟩ := h6.one
    have d1 := h9.cell (i := 0) rfl
    have d2 := h9.frozen 0
    have hs2 := h7.size
    gi_wp2
    refine ⟨KeptFrom.trans (Y := W2) ⟨h7.size, fun q o hq ho hn => h8 q o ho (by simp) hn.bytes⟩ (KeptFrom.set (by omega) _), .slice va' vn' vc', h9.set 0 _, ?_, ?_, ?_, ?_⟩
    · rw [hsnoc.out]; exact h6.other h9 (by decide) _
    · exact (h3.trans (others_none h8)).setCell _ rfl _
    · exact (h4.trans h7).setCell (p := ⟨b + 1, 0, none⟩) (by show b ≤ b + 1; omega) _
    · simp [World.setCell]; omega
  case done =>
    rintro D W1 hD ⟨v, h1, h2, h3, h4, h5⟩ hK
    obtain ⟨va, vn, vc, rfl⟩ := h2.one
    have c1 := h1.cell (i := 0) rfl
    gi_wp2
    refine ⟨by simp, .inl ⟨_, _, rfl, run_takeDeferred hK, ?_⟩⟩
    refine ⟨_, results_tmp rfl _ _ _, _, rfl, ?_, ?_⟩
    · have := h2.sim (Sim.putObj (B := b) (.deferred none) (by omega) hK rfl)
      rw [List.length_map, List.take_length] at this
      rw [hb]; exact this
    · rw [hb]; exact h4.trans ⟨rfl, rfl, rfl, by simp [World.putObj], fun q hq => World.putObj_heap_other (by omega)⟩
  case stop => exact fun _ _ _ _ h => h.elim

end Go.Proofs.YthdcceackfdbbaaGreatDoor
namespace Go.Proofs.YthdcceackfdbbaaGreatDoor
open Go Go.RowKit

theorem ownU_new (w : World) (B : Nat) (hB : B ≤ w.heap.size) (a : Array Value) (l : List UInt8) (ha : a = (u8s l).toArray) (hl : l.length ≤ 100) : OwnU (w.alloc (.cells a 5)) B (.slice (some ⟨w.heap.size, 0, none⟩) l.length l.length) l := by
  subst ha
  refine ⟨by simp [u8s], .inr ⟨w.heap.size, l.length, (u8s l).toArray, rfl, hB, World.alloc_heap_new w _, Nat.le_refl _, by unfold maxLen; omega, by simp [u8s], ?_⟩⟩
  simp [u8s, List.take_of_length_le]

set_option maxRecDepth 20000 in
set_option maxHeartbeats 1000000 in
theorem append8_first (w : World) (g : Nat) (l : List UInt8) (x : Nat) (hl : l.length ≤ 100) (hc : ∀ j u, (u8s l)[j]? = some u → w.cell? ⟨g, j, none⟩ = some u) (hx : x ≤ 255) :
    Calls Tryz.prog 139 #[.slice (some ⟨g, 0, none⟩) l.length l.length, .int .u8 (x : Int)] w fun e w' => ∃ v', e = .returned v' ∧ OwnU w' w.heap.size v' (l ++ lowL x 1) ∧ Below w.heap.size w w' := by
  obtain ⟨i0, hi, hz0, hz1, hz2⟩ := info_parts Tryz.infoU8
  go_enter Tryz.func139, Tryz.ntmps139
  go_wp2_with fail
  refine (size8 _).mono ?_
  rintro e w1 ⟨rfl, hw1⟩
  rw [hw1]
  clear hw1
  go_wp2
  go_loopw [0, 7] (fun vv vi wr => (vi = .int .i64 0 ∧ vv = .slice (some ⟨g, 0, none⟩) l.length l.length ∧ wr = w) ∨ (vi = .int .i64 1 ∧ OwnU wr w.heap.size vv (l ++ lowL x 1) ∧ Below w.heap.size w wr)) (fun _ vi _ => 1 - (intOf vi).toNat)
  case atStart => exact .inl ⟨rfl, rfl, rfl⟩
  case round =>
    rcases hrel with ⟨rfl, rfl, rfl⟩ | ⟨rfl, hown, hbel⟩
    · have hb8 := byteN x 0
      have e0 : (x : Int) % 256 = (((UInt8.ofNat (x / 256 ^ 0 % 256)).toNat : Nat) : Int) := by rw [← hb8]; simp
      have HE := hid e0
      clear hb8 e0
      go_wp2_with (at_builtin; refine wpList_append_grows _ rfl _ _ 72 rfl 5 i0 (.int .u8 0) 1 1 Tryz.underlying72 hi hz0 hz1 hz2 rfl (by decide) (some ⟨g, 0, none⟩) l.length l.length (u8s l) rfl (by simp) (by simp [u8s]) ?c0 ⟨wr.heap.size, 0, none⟩ 1 1 [.int .u8 (x : Int)] rfl rfl ?c1 ?c2 ?c3 ?c4 ?c5 ?_)
      case c0 =>
        intro b hb j u hu
        cases hb
        have h1 := hc j u hu
        have h2 : (⟨g, 0, none⟩ : Addr).add j = ⟨g, j, none⟩ := by simp [Addr.add]; exact fun h => h.symm
        rw [h2]; exact (Sim.alloc 0 _ _).cell h1
      case c1 => exact cell_one_new _ _ _
      case c2 => intro u hu; simp at hu; subst hu; rfl
      case c3 => omega
      case c4 => unfold maxLen; omega
      case c5 => omega
      · intro v' w1 hown' hgrow
        have hr : OwnU w1 wr.heap.size v' (l ++ lowL x 1) := by
          refine ⟨?_⟩
          have e1 : u8s (l ++ lowL x 1) = u8s l ++ [.int .u8 (x : Int)] := by
            have := HE.out
            rw [Int.emod_eq_of_lt (by omega) (by omega)] at this
            have e3 : lowL x 1 = [UInt8.ofNat (x / 256 ^ 0 % 256)] := rfl
            rw [e3]; simp only [u8s, List.map_append, List.map_cons, List.map_nil, ← this]
          have e2 : (l ++ lowL x 1).length = l.length + 1 := by simp [lowL_len]
          rw [e1, e2]; exact ownsRow_base hown' (by simp)
        have hb : Below wr.heap.size wr w1 := ((Below.refl _ _).alloc (Nat.le_refl _) _).grown hgrow (by simp) (fun q hq => by cases hq)
        clear hown' hgrow HE
        go_wp2
        go_roundw
        case rel => exact .inr ⟨by simp, hr, hb⟩
        case measure => simp [intOf]
    · go_wp2
      go_ret
      exact ⟨_, rfl, hown, hbel⟩

/-- the head of a container -/
def hdL (kind R C : Nat) : List UInt8 := [65, 66, 65, 67] ++ lowL 1 1 ++ lowL (if kind = 5 then 1 else 0) 1 ++ lowL R 2 ++ lowL C 2

theorem hdL_eq (kind R C : Nat) : hdL kind R C = [65, 66, 65, 67, 1] ++ lowL (if kind = 5 then 1 else 0) 1 ++ lowL R 2 ++ lowL C 2 := rfl

theorem hdL_len (kind R C : Nat) : (hdL kind R C).length = 10 := by simp [hdL, lowL_len]

set_option maxRecDepth 20000 in
set_option maxHeartbeats 1000000 in
theorem head_any (w : World) (kind R C g : Nat) (hR : R ≤ 40) (hC : C ≤ 40) :
    Calls Tryz.prog 105 #[matV R C g, .int .i64 (kind : Int)] w fun e w' => ∃ v, e = .returned v ∧ OwnU w' w.heap.size v (hdL kind R C) ∧ Below w.heap.size w w' := by
  obtain ⟨b, hb⟩ : ∃ b, w.heap.size = b := ⟨_, rfl⟩
  obtain ⟨o, ho⟩ : ∃ o : Nat, (if kind = 5 then 1 else 0) = o := ⟨_, rfl⟩
  have HO := hid ho
  have ho2 : o ≤ 1 := by rw [← ho]; split <;> omega
  rw [hdL_eq, ho]
  clear ho
  unfold matV
  have kc := Joins.run_convert_bytes_const_at (P := Tryz.prog) (w.alloc (matO R C g)) 72 5 #[.int .u8 65, .int .u8 66, .int .u8 65, .int .u8 67, .int .u8 1] 5 5 (b + 1) (by simp [hb]) Tryz.underlying72 Tryz.underlying5
  unfold matO at kc
  go_enter Tryz.func105, Tryz.ntmps105
  by_cases h5 : kind = 5
  · have h5' : ((kind : Int) == 5) = true := by simp; omega
    obtain rfl : o = 1 := by rw [← HO.out, if_pos h5]
    go_wp2_with fail
    obtain ⟨V, hV⟩ : ∃ V, (w.alloc (.cells #[.int .i64 (R : Int), .int .i64 (C : Int), .slice (some ⟨g, 0, none⟩) (R * C) (R * C)] 88)).alloc (.cells #[.int .u8 65, .int .u8 66, .int .u8 65, .int .u8 67, .int .u8 1] 5 (5, 6)) = V := ⟨_, rfl⟩
    have zV : V.heap.size = b + 2 := by rw [← hV]; simp [hb]
    have bV : Below b w V := by rw [← hV, ← hb]; exact ((Below.refl _ _).alloc (Nat.le_refl _) _).alloc (by simp) _
    have mV : Arr V b 88 [.int .i64 (R : Int), .int .i64 (C : Int), .slice (some ⟨g, 0, none⟩) (R * C) (R * C)] := by rw [← hV, ← hb]; exact (Arr.newL w _ _).alloc _
    have cV : ∀ j u, (u8s [65, 66, 65, 67, 1])[j]? = some u → V.cell? ⟨b + 1, j, none⟩ = some u := by
      intro j u hu
      rw [← hV, Joins.cell_alloc_mark_at _ _ _ _ (b + 1) j (by simp [hb])]
      rw [← hu, show u8s [65, 66, 65, 67, 1] = [.int .u8 65, .int .u8 66, .int .u8 65, .int .u8 67, .int .u8 1] from rfl]; simp
    have HA := hid (append8_first V (b + 1) [65, 66, 65, 67, 1] 1 (by decide) cV (by omega))
    rw [hV]
    clear cV hV kc
    refine HA.out.mono ?_
    rintro e W2 ⟨v2, rfl, o2, b2⟩
    have m2 := mV.belowAll b2
    obtain ⟨x2, y2, t2, rfl⟩ := o2.one
    have z2 := b2.size
    rw [zV] at o2 b2
    have k0 := m2.cell (i := 0) rfl
    go_wp2_with fail
    refine (append16 _ (b + 2) _ _ R o2 (by omega) (by simp [lowL_len]) (by omega)).mono ?_
    rintro e W3 ⟨v3, rfl, o3, b3, _⟩
    have m3 := m2.below b3 (by omega)
    obtain ⟨x3, y3, t3, rfl⟩ := o3.one
    have z3 := b3.size
    have k1 := m3.cell (i := 1) rfl
    go_wp2_with fail
    refine (append16 _ (b + 2) _ _ C o3 (by omega) (by simp [lowL_len]) (by omega)).mono ?_
    rintro e W4 ⟨v4, rfl, o4, b4, _⟩
    go_wp2
    go_ret
    refine ⟨_, rfl, ⟨ownsRow_base o4.row (by omega)⟩, ?_⟩
    rw [hb]
    exact (((bV.trans (b2.mono (by omega))).trans (b3.mono (by omega))).trans (b4.mono (by omega)))
  · have h5' : ((kind : Int) == 5) = false := by simp; omega
    obtain rfl : o = 0 := by rw [← HO.out, if_neg h5]
    go_wp2_with fail
    obtain ⟨V, hV⟩ : ∃ V, (w.alloc (.cells #[.int .i64 (R : Int), .int .i64 (C : Int), .slice (some ⟨g, 0, none⟩) (R * C) (R * C)] 88)).alloc (.cells #[.int .u8 65, .int .u8 66, .int .u8 65, .int .u8 67, .int .u8 1] 5 (5, 6)) = V := ⟨_, rfl⟩
    have zV : V.heap.size = b + 2 := by rw [← hV]; simp [hb]
    have bV : Below b w V := by rw [← hV, ← hb]; exact ((Below.refl _ _).alloc (Nat.le_refl _) _).alloc (by simp) _
    have mV : Arr V b 88 [.int .i64 (R : Int), .int .i64 (C : Int), .slice (some ⟨g, 0, none⟩) (R * C) (R * C)] := by rw [← hV, ← hb]; exact (Arr.newL w _ _).alloc _
    have cV : ∀ j u, (u8s [65, 66, 65, 67, 1])[j]? = some u → V.cell? ⟨b + 1, j, none⟩ = some u := by
      intro j u hu
      rw [← hV, Joins.cell_alloc_mark_at _ _ _ _ (b + 1) j (by simp [hb])]
      rw [← hu, show u8s [65, 66, 65, 67, 1] = [.int .u8 65, .int .u8 66, .int .u8 65, .int .u8 67, .int .u8 1] from rfl]; simp
    have HA := hid (append8_first V (b + 1) [65, 66, 65, 67, 1] 0 (by decide) cV (by omega))
    rw [hV]
    clear cV hV kc
    refine HA.out.mono ?_
    rintro e W2 ⟨v2, rfl, o2, b2⟩
    have m2 := mV.belowAll b2
    obtain ⟨x2, y2, t2, rfl⟩ := o2.one
    have z2 := b2.size
    rw [zV] at o2 b2
    have k0 := m2.cell (i := 0) rfl
    go_wp2_with fail
    refine (append16 _ (b + 2) _ _ R o2 (by omega) (by simp [lowL_len]) (by omega)).mono ?_
    rintro e W3 ⟨v3, rfl, o3, b3, _⟩
    have m3 := m2.below b3 (by omega)
    obtain ⟨x3, y3, t3, rfl⟩ := o3.one
    have z3 := b3.size
    have k1 := m3.cell (i := 1) rfl
    go_wp2_with fail
    refine (append16 _ (b + 2) _ _ C o3 (by omega) (by simp [lowL_len]) (by omega)).mono ?_
    rintro e W4 ⟨v4, rfl, o4, b4, _⟩
    go_wp2
    go_ret
    refine ⟨_, rfl, ⟨ownsRow_base o4.row (by omega)⟩, ?_⟩
    rw [hb]
    exact (((bV.trans (b2.mono (by omega))).trans (b3.mono (by omega))).trans (b4.mono (by omega)))

end Go.Proofs.YthdcceackfdbbaaGreatDoor
namespace Go.Proofs.YthdcceackfdbbaaGreatDoor
open Go Go.RowKit

theorem OwnU.belowAll {w w' : World} {B : Nat} {v : Value} {l : List UInt8} (h : OwnU w B v l) {B' : Nat} (hb : Below B' w w') (hlt : ∀ q, v.ownBlock = some q → q < B') : OwnU w' B v l :=
  h.keep (fun q _ hq hc => (hb.block q (hlt q hq)).trans hc)

theorem OwnU.form {w : World} {B : Nat} {v : Value} {l : List UInt8} (h : OwnU w B v l) (hne : 0 < l.length) : ∃ q cap, v = .slice (some ⟨q, 0, none⟩) l.length cap ∧ q < w.heap.size ∧ (∀ k x, l[k]? = some x → w.cell? ⟨q, k, none⟩ = some (.int .u8 (x.toNat : Int))) := by
  obtain ⟨a, cap, hv, _, _, hbc⟩ := h.shape
  obtain ⟨x, hx⟩ : ∃ x, l[0]? = some x := ⟨l[0], by simp⟩
  obtain ⟨q, ha, hc⟩ := hbc 0 x hx
  refine ⟨q, cap, by rw [hv, ha], World.block_lt_of_cell? w _ hc, fun k y hy => ?_⟩
  obtain ⟨q', ha', hc'⟩ := hbc k y hy
  rw [ha] at ha'
  cases ha'
  exact hc'

theorem addr_add (q j : Nat) : (⟨q, 0, none⟩ : Addr).add j = ⟨q, j, none⟩ := by simp [Addr.add]; exact fun h => h.symm

/-- the container of a matrix -/
def boxL (kind R C : Nat) (f : Nat → Nat → Nat) : List UInt8 := (hdL kind R C ++ lowL (sumL (hdL kind R C)) 4) ++ (payL (entL kind R C f) ++ lowL (sumL (payL (entL kind R C f))) 4)

set_option maxRecDepth 20000 in
set_option maxHeartbeats 4000000 in
theorem boxWrite_any (w : World) (kind R C g : Nat) (f : Nat → Nat → Nat) (l : List Value) (hk : kind ≤ 5) (hR : R ≤ 40) (hC : C ≤ 40) (hm : MemM C g R f w) (hg : Arr w g 65 l) :
    Calls Tryz.prog 72 #[matV R C g, .int .i64 (kind : Int)] w fun e w' => ∃ s : ByteArray, e = .returned (.string s) ∧ s.data.toList = boxL kind R C f ∧ Below w.heap.size w w' := by
  have hmix : Tryz.prog.follows .mixedOrders = true := by kernel_rfl
  obtain ⟨b, hb⟩ : ∃ b, w.heap.size = b := ⟨_, rfl⟩
  have hRC : R * C ≤ 40 * 40 := Nat.mul_le_mul hR hC
  have hel := entL_len kind R C f
  have hpl := payL_len (entL kind R C f)
  obtain ⟨i0, hi, hz0, hz1, hz2⟩ := info_parts Tryz.infoU8
  unfold matV
  go_enter Tryz.func72, Tryz.ntmps72
  go_wp2_with fail
  obtain ⟨V, hV⟩ : ∃ V, w.alloc (.cells #[.int .i64 (R : Int), .int .i64 (C : Int), .slice (some ⟨g, 0, none⟩) (R * C) (R * C)] 88) = V := ⟨_, rfl⟩
  have mV : Arr V b 88 [.int .i64 (R : Int), .int .i64 (C : Int), .slice (some ⟨g, 0, none⟩) (R * C) (R * C)] := by rw [← hV, ← hb]; exact Arr.newL w _ _
  have bV : Below b w V := by rw [← hV, ← hb]; exact Below.refl' _ _
  have zV : V.heap.size = b + 1 := by rw [← hV]; simp [hb]
  rw [hV]
  clear hV
  refine wp_region_held (S := fun W' => Arr W' b 88 [.int .i64 (R : Int), .int .i64 (C : Int), .slice (some ⟨g, 0, none⟩) (R * C) (R * C)]) hmix ?_
  change wpAnyH _ _ _ _ _ _ _ _ V.drew
  have hS0 : Arr V.drew b 88 [.int .i64 (R : Int), .int .i64 (C : Int), .slice (some ⟨g, 0, none⟩) (R * C) (R * C)] := mV.drew
  refine wpAnyH_take (i := 0) (v := .agg #[.int .i64 (R : Int), .int .i64 (C : Int), .slice (some ⟨g, 0, none⟩) (R * C) (R * C)]) rfl (by kernel_rfl) (by kernel_rfl) (by kernel_rfl) (fun _ _ _ h => h) (Or.inl ⟨by rfl, fun W' hS => ?_⟩) hS0 ?_
  · have c0 := hS.cell (i := 0) rfl
    have c1 := hS.cell (i := 1) rfl
    have c2 := hS.cell (i := 2) rfl
    clear hS
    go_simp
  simp only [Act.put]
  refine wpAnyH_take (i := 1) (v := .int .i64 (kind : Int)) rfl (by kernel_rfl) (by kernel_rfl) (by kernel_rfl) (fun _ _ _ h => h) (Or.inl ⟨by rfl, fun W' hS => ?_⟩) hS0 ?_
  · clear hS
    go_simp
  simp only [Act.put]
  refine wpAnyH_take (i := 4) (v := .agg #[.int .i64 (R : Int), .int .i64 (C : Int), .slice (some ⟨g, 0, none⟩) (R * C) (R * C)]) rfl (by kernel_rfl) (by kernel_rfl) (by kernel_rfl) (fun _ _ _ h => h) (Or.inl ⟨by rfl, fun W' hS => ?_⟩) hS0 ?_
  · have c0 := hS.cell (i := 0) rfl
    have c1 := hS.cell (i := 1) rfl
    have c2 := hS.cell (i := 2) rfl
    clear hS
    go_simp
  simp only [Act.put]
  refine wpAnyH_take (i := 5) (v := .int .i64 (kind : Int)) rfl (by kernel_rfl) (by kernel_rfl) (by kernel_rfl) (fun _ _ _ h => h) (Or.inl ⟨by rfl, fun W' hS => ?_⟩) hS0 ?_
  · clear hS
    go_simp
  simp only [Act.put]
  refine wpAnyH_ready (rs := [2]) (by kernel_rfl) (by simp) ?_
  refine AllReadyH.cons rfl (fun K hKK => ?_) AllReadyH.nil
  go_simp
  refine (head_any _ kind R C g hR hC).mono ?_
  rintro e W1 ⟨v1, rfl, o1, b1⟩
  change Below V.heap.size V.drew W1 at b1
  change OwnU W1 V.heap.size v1 _ at o1
  have hS1 := hS0.below b1 (by omega)
  refine hKK.out _ _ hS1 (fun hHeld => ?_)
  clear hKK
  refine wpAnyH_ready (rs := [3]) (by kernel_rfl) (by simp) ?_
  refine AllReadyH.cons rfl (fun K hKK => ?_) AllReadyH.nil
  go_simp
  refine (summed_any _ _ _ _ o1 (by have := b1.size; exact this) (by rw [hdL_len]; omega)).mono ?_
  rintro e W2 ⟨v2, rfl, o2, b2, _⟩
  have hS2 := hS1.below b2 (by omega)
  refine hKK.out _ _ hS2 (fun hHeld => ?_)
  clear hKK
  have bW2 : Below b w W2 := (bV.drew.trans (b1.mono (by omega))).trans (b2.mono (by omega))
  have gW2 : Arr W2 g 65 l := hg.below bW2 (by have := hg.lt; omega)
  have mW2 : MemM C g R f W2 := hm.below bW2 (by have := hm.1; omega)
  have zW2 : b + 1 ≤ W2.heap.size := by have := b1.size; have := b2.size; have e : V.drew.heap.size = V.heap.size := rfl; omega
  refine wpAnyH_ready (rs := [6]) (by kernel_rfl) (by simp) ?_
  refine AllReadyH.cons rfl (fun K hKK => ?_) AllReadyH.nil
  go_simp
  refine (payload_any _ kind R C g f l hk hR hC mW2 gW2).mono ?_
  rintro e W3 ⟨v3, rfl, o3, b3⟩
  have hS3 := hS2.below b3 (by omega)
  refine hKK.out _ _ hS3 (fun hHeld => ?_)
  clear hKK
  refine wpAnyH_ready (rs := [7]) (by kernel_rfl) (by simp) ?_
  refine AllReadyH.cons rfl (fun K hKK => ?_) AllReadyH.nil
  go_simp
  refine (summed_any _ _ _ _ o3 b3.size (by omega)).mono ?_
  rintro e W4 ⟨v4, rfl, o4, b4, _⟩
  have hS4 := hS3.below b4 (by omega)
  refine hKK.out _ _ hS4 (fun hHeld => ?_)
  clear hKK
  have o2' : OwnU W4 V.heap.size v2 _ := (o2.belowAll b3 (fun q hq => (o2.row.lt q hq).2)).belowAll b4 (fun q hq => (o2.row.lt q hq).2)
  obtain ⟨q4, c4, rfl, hq4, hcell4⟩ := o4.form (by simp [lowL_len])
  obtain ⟨x2, y2, t2, rfl⟩ := o2.one
  obtain ⟨n4, hn4⟩ : ∃ n4, (payL (entL kind R C f) ++ lowL (sumL (payL (entL kind R C f))) 4).length = n4 := ⟨_, rfl⟩
  obtain ⟨n2, hn2⟩ : ∃ n2, (hdL kind R C ++ lowL (sumL (hdL kind R C)) 4).length = n2 := ⟨_, rfl⟩
  have hn4' : n4 ≤ 20000 := by rw [← hn4]; simp [lowL_len]; omega
  have hn2' : n2 ≤ 100 := by rw [← hn2]; simp [lowL_len, hdL_len]
  have hpos : 0 < (boxL kind R C f).length := by simp [boxL, hdL_len]; omega
  have row2 := o2'.row
  rw [hn2] at row2
  rw [hn4]
  clear hpl
  refine wpAnyH_ready (rs := [8]) (by kernel_rfl) (by simp) ?_
  refine AllReadyH.cons rfl (fun K hKK => ?_) AllReadyH.nil
  refine wp_append_own W4 _ _ 72 rfl V.heap.size 5 i0 (.int .u8 0) 1 1 Tryz.underlying72 hi hz0 hz1 hz2 rfl (by decide) _ _ _ rfl row2 ⟨q4, 0, none⟩ n4 c4
    (u8s (payL (entL kind R C f) ++ lowL (sumL (payL (entL kind R C f))) 4)) rfl (by simp only [u8s, List.length_map, Nat.mul_one]; exact hn4) (fun j u hu => by
      rw [addr_add]
      unfold u8s at hu
      obtain ⟨y, hy, rfl⟩ := map_get hu
      exact hcell4 j y hy) (fun u hu => by
      unfold u8s at hu
      obtain ⟨y, _, rfl⟩ := List.mem_map.1 hu
      rfl) (by unfold maxLen; omega) (by omega) (by have := b3.size; have := b4.size; omega) ?_
  intro v5 W5 r5 g5 _
  have o5 : OwnU W5 V.heap.size v5 (boxL kind R C f) := by
    refine ⟨?_⟩
    have e1 : u8s (boxL kind R C f) = u8s (hdL kind R C ++ lowL (sumL (hdL kind R C)) 4) ++ u8s (payL (entL kind R C f) ++ lowL (sumL (payL (entL kind R C f))) 4) := by simp [boxL, u8s]
    have e2 : (boxL kind R C f).length = n2 + n4 := by rw [← hn2, ← hn4]; unfold boxL; rw [List.length_append]
    rw [e1, e2]
    exact r5
  have b5 : Below (b + 1) W4 W5 := (Below.refl _ _).grown g5 (by have := b3.size; have := b4.size; omega) (fun q hq => by have := (o2'.row.lt q hq).1; omega)
  have hS5 := hS4.below b5 (by omega)
  obtain ⟨q5, c5, rfl, hq5, hcell5⟩ := o5.form hpos
  have hconv := run_convert_bytes_back (P := Tryz.prog) W5 72 9 5 ⟨q5, 0, none⟩ c5 (boxL kind R C f) Tryz.underlying72 Tryz.underlying5 Tryz.underlying9 (fun j hj => by rw [addr_add]; exact hcell5 j _ (by simp [hj]))
  have HBX : Hid (Below b w W5) := (((bW2.trans (b3.mono (by omega))).trans (b4.mono (by omega))).trans (b5.mono (by omega)))
  generalize hBL : boxL kind R C f = BL at *
  clear hcell4 hcell5 o5 r5 g5 o2' o4 o3 o1 row2
  refine hKK.out _ _ hS5 (fun hHeld => ?_)
  clear hKK
  simp only [Act.put]
  refine wpAnyH_ready (rs := [9]) (by kernel_rfl) (by simp) ?_
  refine AllReadyH.cons rfl (fun K hKK => ?_) AllReadyH.nil
  go_simp
  refine hKK.out _ _ hS5 (fun hHeld => ?_)
  clear hKK
  refine wpAnyH_ready (rs := [10]) (by kernel_rfl) (by simp) ?_
  refine AllReadyH.cons rfl (fun K hKK => ?_) AllReadyH.nil
  go_simp
  refine hKK.out _ _ hS5 (fun hHeld => ?_)
  clear hKK
  refine wpAnyH_done (by kernel_rfl) ?_ _
  clear hconv hS5 hHeld
  go_wp2
  go_ret
  exact ⟨⟨BL.toArray⟩, rfl, by simp; exact hBL.symm, by rw [hb]; exact HBX.out⟩

end Go.Proofs.YthdcceackfdbbaaGreatDoor
/- Plain mathematics: whole numbers in places of a thousand million. Own text. -/
namespace Go.Proofs.YthdcceackfdbbaaGreatDoor

def valB : List Nat → Nat
  | [] => 0
  | x :: r => x + 1000000000 * valB r

/-- Every word is below 2^32. -/
def WdsB (l : List Nat) : Prop := ∀ x ∈ l, x < 1000000000

theorem val_appendB (a b : List Nat) : valB (a ++ b) = valB a + 1000000000 ^ a.length * valB b := by
  induction a with
  | nil => simp [valB]
  | cons x r ih => simp only [List.cons_append, valB, ih, List.length_cons, Nat.pow_succ, Nat.mul_add]; rw [Nat.mul_comm (1000000000 ^ r.length) 1000000000, Nat.mul_assoc]; omega

theorem val_ltB {l : List Nat} (h : WdsB l) : valB l < 1000000000 ^ l.length := by
  induction l with
  | nil => simp [valB]
  | cons x r ih =>
    have h1 := h x (by simp)
    have h2 := ih (fun y hy => h y (by simp [hy]))
    simp only [valB, List.length_cons, Nat.pow_succ]
    have h3 : valB r + 1 ≤ 1000000000 ^ r.length := h2
    have h4 := Nat.mul_le_mul_left 1000000000 h3
    rw [Nat.mul_comm (1000000000 ^ r.length)]
    omega

theorem canon_leB {l : List Nat} (h : Canon l) (hne : l ≠ []) : 1000000000 ^ (l.length - 1) ≤ valB l := by
  obtain ⟨r, x, rfl⟩ := snoc_of_ne hne
  have hx : x ≠ 0 := h x (by simp)
  rw [val_appendB]
  simp only [valB, List.length_append, List.length_cons, List.length_nil]
  have : 1000000000 ^ r.length * 1 ≤ 1000000000 ^ r.length * (x + 1000000000 * 0) := Nat.mul_le_mul_left _ (by omega)
  simp at this ⊢
  omega

theorem canon_lenB {l : List Nat} (h : Canon l) {k : Nat} (hk : valB l < 1000000000 ^ k) : l.length ≤ k := by
  by_cases hne : l = []
  · simp [hne]
  · have h1 := canon_leB h hne
    have h2 : 1000000000 ^ (l.length - 1) < 1000000000 ^ k := Nat.lt_of_le_of_lt h1 hk
    have h3 := (Nat.pow_lt_pow_iff_right (by omega : 1 < 1000000000)).1 h2
    omega

theorem canon_zeroB {l : List Nat} (h : Canon l) (hk : valB l = 0) : l = [] := by
  by_cases hne : l = []
  · exact hne
  · have h1 := canon_leB h hne
    have : 0 < 1000000000 ^ (l.length - 1) := Nat.pow_pos (by omega)
    omega

theorem trimL_valB (l : List Nat) : valB (trimL l) = valB l := by
  refine trimL_cases (fun l => valB (trimL l) = valB l) rfl ?_ ?_ l
  · intro r x hx; rw [trimL_snoc_ne r hx]
  · intro r h; rw [trimL_snoc_zero, h, val_appendB]; simp [valB]

theorem wds_takeB {l : List Nat} (h : WdsB l) (k : Nat) : WdsB (l.take k) := fun x hx => h x (List.mem_of_mem_take hx)

theorem trimL_wdsB {l : List Nat} (h : WdsB l) : WdsB (trimL l) := by
  obtain ⟨k, _, e⟩ := trimL_prefix l
  rw [e]; exact wds_takeB h k

theorem val_snocB (l : List Nat) (x : Nat) : valB (l ++ [x]) = valB l + 1000000000 ^ l.length * x := by rw [val_appendB]; simp [valB]

theorem mulAdd_stepB {p l : List Nat} {k x cy f m y c' : Nat} (hp : k < p.length) (hx : l[k]? = some x) (ht : y + 1000000000 * c' = cy + x * f)
    (h : valB (p.take k) + 1000000000 ^ k * cy = valB (l.take k) * f + m) : valB ((p.set k y).take (k + 1)) + 1000000000 ^ (k + 1) * c' = valB (l.take (k + 1)) * f + m := by
  have hk : k < l.length := (List.getElem?_eq_some_iff.1 hx).1
  rw [set_take_succ hp, take_snoc_get hx, val_snocB, val_snocB, take_len (by omega), take_len (by omega)]
  have e : 1000000000 ^ (k + 1) * c' = 1000000000 ^ k * (1000000000 * c') := by rw [Nat.pow_succ, Nat.mul_assoc]
  have e2 : 1000000000 ^ k * (y + 1000000000 * c') = 1000000000 ^ k * (cy + x * f) := by rw [ht]
  rw [Nat.mul_add, Nat.mul_add] at e2
  rw [e, Nat.add_mul, Nat.mul_assoc (1000000000 ^ k) x f]
  omega

theorem val_take_succB {l : List Nat} {k y : Nat} (h : l[k]? = some y ∨ (l.length ≤ k ∧ y = 0)) : valB (l.take (k + 1)) = valB (l.take k) + 1000000000 ^ k * y := by
  rcases h with h | ⟨h, rfl⟩
  · rw [take_snoc_get h, val_snocB, take_len (by have := (List.getElem?_eq_some_iff.1 h).1; omega)]
  · rw [List.take_of_length_le (by omega), List.take_of_length_le h]; simp

theorem val_zerosB (n : Nat) : valB (List.replicate n 0) = 0 := by
  induction n with
  | zero => rfl
  | succ n ih => simp [List.replicate_succ, valB, ih]

theorem val_splitB {l : List Nat} {k x : Nat} (h : l[k]? = some x) : valB l = valB (l.take k) + 1000000000 ^ k * (x + 1000000000 * valB (l.drop (k + 1))) := by
  have hk := (List.getElem?_eq_some_iff.1 h).1
  have e : l = l.take k ++ x :: l.drop (k + 1) := by
    have h1 := (List.take_append_drop k l).symm
    rw [List.drop_eq_getElem_cons hk] at h1
    rw [(List.getElem?_eq_some_iff.1 h).2] at h1
    exact h1
  have := congrArg valB e
  rw [val_appendB, take_len (by omega)] at this
  simpa [valB] using this

theorem val_lt_ofB {la lb : List Nat} {k x y : Nat} (hw : WdsB la) (hx : la[k]? = some x) (hy : lb[k]? = some y) (hd : la.drop (k + 1) = lb.drop (k + 1)) (h : x < y) : valB la < valB lb := by
  rw [val_splitB hx, val_splitB hy, hd]
  have h1 := val_ltB (wds_takeB hw k)
  rw [take_len (by have := (List.getElem?_eq_some_iff.1 hx).1; omega)] at h1
  have h2 : 1000000000 ^ k * (x + 1000000000 * valB (lb.drop (k + 1)) + 1) ≤ 1000000000 ^ k * (y + 1000000000 * valB (lb.drop (k + 1))) := Nat.mul_le_mul_left _ (by omega)
  rw [Nat.mul_add _ _ 1] at h2
  omega

theorem val_lt_lenB {la lb : List Nat} (hw : WdsB la) (hc : Canon lb) (h : la.length < lb.length) : valB la < valB lb := by
  have h1 := val_ltB hw
  have h2 := canon_leB hc (by intro e; simp [e] at h)
  have h3 : 1000000000 ^ la.length ≤ 1000000000 ^ (lb.length - 1) := Nat.pow_le_pow_right (by omega) (by omega)
  omega

end Go.Proofs.YthdcceackfdbbaaGreatDoor
/- The same for slices of ints, places of a thousand million. Own text. -/
namespace Go.Proofs.YthdcceackfdbbaaGreatDoor
open Go.RowKit

def i64s (l : List Nat) : List Value := l.map fun x : Nat => Value.int .i64 (x : Int)

/-- The slice v holds the words l, in a block from B on. -/
def OwnB (w : World) (B : Nat) (v : Value) (l : List Nat) : Prop := w.ownsRow B 3 1 v l.length (i64s l) ∧ WdsB l

/-- The slice v is the number n. -/
def RepB (w : World) (B : Nat) (v : Value) (n : Nat) : Prop := ∃ l, OwnB w B v l ∧ Canon l ∧ valB l = n

theorem OwnB.below {w w' : World} {B : Nat} {v : Value} {l : List Nat} (h : OwnB w B v l) (hb : Below w.heap.size w w') : OwnB w' B v l := ⟨ownsRow_below h.1 hb, h.2⟩
theorem OwnB.base {w : World} {B B' : Nat} {v : Value} {l : List Nat} (h : OwnB w B v l) (hb : B' ≤ B) : OwnB w B' v l := ⟨ownsRow_base h.1 hb, h.2⟩
theorem RepB.below {w w' : World} {B : Nat} {v : Value} {n : Nat} (h : RepB w B v n) (hb : Below w.heap.size w w') : RepB w' B v n := by
  obtain ⟨l, h1, h2⟩ := h; exact ⟨l, h1.below hb, h2⟩
theorem RepB.base {w : World} {B B' : Nat} {v : Value} {n : Nat} (h : RepB w B v n) (hb : B' ≤ B) : RepB w B' v n := by
  obtain ⟨l, h1, h2⟩ := h; exact ⟨l, h1.base hb, h2⟩

/-- What a walk wants of such a slice. -/
theorem OwnB.shape {w : World} {B : Nat} {v : Value} {l : List Nat} (h : OwnB w B v l) :
    (v = .slice none 0 0 ∧ l = []) ∨ ∃ g cap, v = .slice (some ⟨g, 0, none⟩) l.length cap ∧ B ≤ g ∧ g < w.heap.size ∧ l.length ≤ cap ∧ cap ≤ maxLen ∧
      (∀ (i x : Nat), l[i]? = some x → w.cell? ⟨g, i, none⟩ = some (.int .i64 (x : Int))) ∧ (∀ i, w.frozen? ⟨g, i, none⟩ = false) := by
  rcases h.1.2 with ⟨rfl, h0⟩ | ⟨g, cap, cur, rfl, hb, hg, hnc, hcm, hcs, htake⟩
  · exact .inl ⟨rfl, List.length_eq_zero_iff.1 h0⟩
  · refine .inr ⟨g, cap, rfl, hb, (Array.getElem?_eq_some_iff.1 hg).1, hnc, hcm, ?_, ?_⟩
    · intro i x hi
      have hlt : i < l.length := (List.getElem?_eq_some_iff.1 hi).1
      rw [h.1.cellAt i (by omega)]
      simp [i64s, hi]
    · intro i; exact h.1.frozenAt i

/-- The same in one case, its address whatever. -/
theorem OwnB.shape1 {w : World} {B : Nat} {v : Value} {l : List Nat} (h : OwnB w B v l) :
    ∃ ao cap, v = .slice ao l.length cap ∧ l.length ≤ cap ∧ cap ≤ maxLen ∧ (∀ (i x : Nat), l[i]? = some x → x < 1000000000 ∧ ∃ g, ao = some ⟨g, 0, none⟩ ∧ B ≤ g ∧ g < w.heap.size ∧ w.cell? ⟨g, i, none⟩ = some (.int .i64 (x : Int))) := by
  rcases h.shape with ⟨rfl, rfl⟩ | ⟨g, cap, rfl, h1, h2, h3, h4, h5, _⟩
  · exact ⟨none, 0, rfl, by simp, by simp, by simp⟩
  · exact ⟨_, cap, rfl, h3, h4, fun i x hi => ⟨h.2 x (List.mem_of_getElem? hi), g, rfl, h1, h2, h5 i x hi⟩⟩

theorem OwnB.len {w : World} {B : Nat} {v : Value} {l : List Nat} (h : OwnB w B v l) : l.length ≤ maxLen := by
  rcases h.shape with ⟨_, rfl⟩ | ⟨g, cap, _, _, _, h1, h2, _⟩
  · simp
  · omega

/-- Cut shorter at its end. -/
theorem OwnB.take {w : World} {B g n cap : Nat} {l : List Nat} (h : OwnB w B (.slice (some ⟨g, 0, none⟩) n cap) l) (hn : n = l.length) {k : Nat} (hk : k ≤ l.length) : OwnB w B (.slice (some ⟨g, 0, none⟩) k cap) (l.take k) := by
  subst hn
  have hkl : (l.take k).length = k := by rw [List.length_take]; omega
  refine ⟨⟨by simp [i64s], ?_⟩, wds_takeB h.2 k⟩
  rcases h.1.2 with ⟨h', _⟩ | ⟨g', cap', cur, h', hb, hg, hnc, hcm, hcs, htake⟩
  · simp at h'
  · simp only [Value.slice.injEq, Option.some.injEq, Addr.mk.injEq, and_true, true_and] at h'
    obtain ⟨rfl, rfl⟩ := h'
    refine .inr ⟨g, cap, cur, by rw [hkl], hb, hg, by omega, hcm, hcs, ?_⟩
    rw [hkl]
    simp only [i64s, List.map_take, Nat.mul_one] at htake ⊢
    rw [← htake, List.take_take, Nat.min_eq_left hk]

theorem OwnB.stored {w : World} {B g n cap : Nat} {l : List Nat} (h : OwnB w B (.slice (some ⟨g, 0, none⟩) n cap) l) (hn : n = l.length) (j : Nat) {y : Nat} (hy : y < 1000000000) :
    OwnB (w.setCell ⟨g, j, none⟩ (.int .i64 (y : Int))) B (.slice (some ⟨g, 0, none⟩) n cap) (l.set j y) := by
  subst hn
  refine ⟨?_, ?_⟩
  · have := (h.1.stored j (.int .i64 (y : Int))).1
    simpa [i64s, List.map_set] using this
  · intro x hx
    rcases List.mem_or_eq_of_mem_set hx with h1 | h1
    · exact h.2 x h1
    · omega

theorem own_madeB {w : World} {B : Nat} {v : Value} {n : Nat} (h : w.ownsRow B 3 1 v n (madeCells #[Value.int .i64 0] n).toList) : OwnB w B v (List.replicate n 0) := by
  refine ⟨?_, ?_⟩
  · have e : (madeCells #[Value.int .i64 0] n).toList = i64s (List.replicate n 0) := by
      rw [toList_madeCells_one]
      simp [i64s]
    rw [e] at h
    simpa using h
  · intro x hx
    have := (List.mem_replicate.1 hx).2
    omega

/-- What lies in other blocks stays. -/
theorem OwnB.setOther {w : World} {B : Nat} {v : Value} {l : List Nat} (h : OwnB w B v l) {a : Addr} (u : Value) (hne : ∀ k, v.ownBlock = some k → k ≠ a.block) : OwnB (w.setCell a u) B v l := by
  refine ⟨⟨h.1.1, ?_⟩, h.2⟩
  rcases h.1.2 with hn | ⟨g, cap, cur, rfl, h1, hg, rest⟩
  · exact .inl hn
  · exact .inr ⟨g, cap, cur, rfl, h1, by rw [Below.heap_setCell _ _ _ _ (hne g rfl)]; exact hg, rest⟩

theorem OwnB.lenW {w : World} {B n cap : Nat} {ao : Option Addr} {l : List Nat} (h : OwnB w B (.slice ao n cap) l) : n = l.length := by
  rcases h.shape with ⟨e, rfl⟩ | ⟨g', cap', e, _⟩
  · simp at e; simp [e]
  · simp at e; omega

theorem OwnB.frozenW {w : World} {B g n cap : Nat} {l : List Nat} (h : OwnB w B (.slice (some ⟨g, 0, none⟩) n cap) l) (j : Nat) : w.frozen? ⟨g, j, none⟩ = false := by
  have := h.lenW; subst this; exact h.1.frozenAt j

theorem OwnB.cellW {w : World} {B g n cap : Nat} {l : List Nat} (h : OwnB w B (.slice (some ⟨g, 0, none⟩) n cap) l) {j y : Nat} (hj : l[j]? = some y) : w.cell? ⟨g, j, none⟩ = some (.int .i64 (y : Int)) := by
  have := h.lenW; subst this
  rw [h.1.cellAt j (by have := (List.getElem?_eq_some_iff.1 hj).1; omega)]
  simp [i64s, hj]

theorem OwnB.at {w : World} {B g n cap : Nat} {l : List Nat} (h : OwnB w B (.slice (some ⟨g, 0, none⟩) n cap) l) {j : Nat} (hj : j < n) : ∃ y, l[j]? = some y ∧ y < 1000000000 ∧ w.cell? ⟨g, j, none⟩ = some (.int .i64 (y : Int)) := by
  have := h.lenW; subst this
  have e : l[j]? = some l[j] := by simp [hj]
  exact ⟨l[j], e, h.2 _ (List.getElem_mem hj), h.cellW e⟩

theorem Tryz.infoInt : (Tryz.prog.info? 3).map (fun i => (i.zero, i.size, i.bytes)) = some (some (.int .i64 0), 1, 8) := by kernel_rfl

theorem OwnB.ofRow {w : World} {B n : Nat} {v : Value} {l : List Nat} {xs : List Value} (h : w.ownsRow B 3 1 v n xs) (hx : xs = i64s l) (hl : WdsB l) : OwnB w B v l := by
  subst hx
  have : n = l.length := by have := h.1; simp [i64s] at this; omega
  subst this
  exact ⟨h, hl⟩

theorem ownB_nil (w : World) (B : Nat) : OwnB w B (.slice none 0 0) [] := ⟨World.ownsRow_nil _ _ _ _, by intro y hy; simp at hy⟩

theorem wds_snocB {l : List Nat} {y : Nat} (h : WdsB l) (hy : y < 1000000000) : WdsB (l ++ [y]) := by
  intro x hx
  rcases List.mem_append.1 hx with h1 | h1
  · exact h x h1
  · simp at h1; omega

end Go.Proofs.YthdcceackfdbbaaGreatDoor
/- Walks: trim, cmp.Compare, width, Compare. Own text. -/
namespace Go.Proofs.YthdcceackfdbbaaGreatDoor
open Go.RowKit

set_option maxHeartbeats 400000 in
theorem trim_any (w : World) (B : Nat) (v : Value) (l : List Nat) (h : Own w B v l) :
    Calls Tryz.prog 194 #[v] w fun e w' => ∃ v', e = .returned v' ∧ Own w B v' (trimL l) ∧ w' = w := by
  have hlen := h.len
  unfold maxLen at hlen
  rcases h.shape with ⟨rfl, rfl⟩ | ⟨g, cap, rfl, hB, hg, hlc, hcap, hcell, hfr⟩
  · go_enter Tryz.func194, Tryz.ntmps194
    go_wp2
    go_loop [0] (fun v => v = .slice none 0 0) (fun _ => 0)
    case atStart => rfl
    case round =>
      subst hrel
      go_wp2
      go_ret
      exact ⟨_, rfl, by simpa [trimL] using h, rfl⟩
  · unfold maxLen at hcap
    go_enter Tryz.func194, Tryz.ntmps194
    go_wp2
    go_loop [0] (fun v => ∃ k : Nat, k ≤ l.length ∧ v = .slice (some ⟨g, 0, none⟩) k cap ∧ trimL (l.take k) = trimL l) (fun v => lenOfV v)
    case atStart => exact ⟨l.length, Nat.le_refl _, rfl, by rw [List.take_length]⟩
    case round =>
      obtain ⟨k, hk, rfl, ht⟩ := hrel
      have HT : Hid (trimL (l.take k) = trimL l) := ht
      clear ht
      cases k with
      | zero =>
        go_wp2
        go_ret
        exact ⟨_, rfl, by have := h.take rfl (k := 0) (by omega); rw [← HT.out]; simpa [trimL] using this, rfl⟩
      | succ k =>
        obtain ⟨x, hx⟩ : ∃ x, l[k]? = some x := ⟨l[k], by simp⟩
        have hc := hcell k x hx
        have hts := take_snoc_get hx
        have HX : Hid (l.take (k + 1) = l.take k ++ [x]) := hts
        clear hts hcell hx
        by_cases hx0 : x = 0
        · subst hx0
          go_wp2
          go_round
          case rel => exact ⟨k, by omega, by simp, by rw [← HT.out, HX.out, trimL_snoc_zero]⟩
          case measure => simp [lenOfV]
        · have hx1 : ((x : Int) == 0) = false := by simpa using hx0
          go_wp2
          go_ret
          exact ⟨_, rfl, by have := h.take rfl (k := k + 1) (by omega); rw [← HT.out, HX.out, trimL_snoc_ne _ hx0, ← HX.out]; exact this, rfl⟩

/-- What cmp.Compare answers. -/
def cmpI (a b : Int) : Int := if a < b then -1 else if b < a then 1 else 0

theorem cmpI_lt {a b : Int} (h : a < b) : cmpI a b = -1 := by simp [cmpI, h]
theorem cmpI_gt {a b : Int} (h : b < a) : cmpI a b = 1 := by simp [cmpI, h, show ¬ a < b by omega]
theorem cmpI_eq {a b : Int} (h : a = b) : cmpI a b = 0 := by simp [cmpI, h]

theorem ret_int {k : IntKind} {a b : Int} (h : a = b) : Ending.returned (.int k a) = .returned (.int k b) := by rw [h]

set_option maxHeartbeats 400000 in
theorem cmpint_any (a b : Int) (w : World) :
    Calls Tryz.prog 223 #[.int .i64 a, .int .i64 b] w fun e w' => e = .returned (.int .i64 (cmpI a b)) ∧ w' = w := by
  rcases Int.lt_trichotomy a b with h | h | h
  · have H := cmpI_lt h
    have HH : Hid (cmpI a b = -1) := H
    clear H
    go_enter Tryz.func223, Tryz.ntmps223
    go_wp2
    go_ret
    exact ⟨ret_int HH.out.symm, rfl⟩
  · subst h
    go_enter Tryz.func223, Tryz.ntmps223
    go_wp2
    go_ret
    exact ⟨ret_int (cmpI_eq rfl).symm, rfl⟩
  · have HH : Hid (cmpI a b = 1) := cmpI_gt h
    go_enter Tryz.func223, Tryz.ntmps223
    go_wp2
    go_ret
    exact ⟨ret_int HH.out.symm, rfl⟩

set_option maxHeartbeats 400000 in
theorem cmpu32_any (a b : Int) (w : World) :
    Calls Tryz.prog 224 #[.int .u32 a, .int .u32 b] w fun e w' => e = .returned (.int .i64 (cmpI a b)) ∧ w' = w := by
  rcases Int.lt_trichotomy a b with h | h | h
  · have H := cmpI_lt h
    have HH : Hid (cmpI a b = -1) := H
    clear H
    go_enter Tryz.func224, Tryz.ntmps224
    go_wp2
    go_ret
    exact ⟨ret_int HH.out.symm, rfl⟩
  · subst h
    go_enter Tryz.func224, Tryz.ntmps224
    go_wp2
    go_ret
    exact ⟨ret_int (cmpI_eq rfl).symm, rfl⟩
  · have HH : Hid (cmpI a b = 1) := cmpI_gt h
    go_enter Tryz.func224, Tryz.ntmps224
    go_wp2
    go_ret
    exact ⟨ret_int HH.out.symm, rfl⟩

set_option maxHeartbeats 400000 in
theorem width_any (w : World) : Calls Tryz.prog 193 #[] w fun e w' => e = .returned (.int .i64 32) ∧ w' = w := by
  go_enter Tryz.func193, Tryz.ntmps193
  go_wp2_with fail
  refine (Tryz.bits_Len64 _ _ (by decide) (by decide)).mono ?_
  rintro e w' ⟨rfl, rfl⟩
  go_wp2
  go_ret
  exact ⟨rfl, rfl⟩

end Go.Proofs.YthdcceackfdbbaaGreatDoor
