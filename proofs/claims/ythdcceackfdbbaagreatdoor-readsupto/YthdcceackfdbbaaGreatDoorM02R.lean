import Derived.Test.YthdcceackfdbbaaGreatDoorM01R
import Derived.Test.YthdcceackfdbbaaGreatDoorShelfQR
import Derived.ArgAppend
import Derived.OwnWalk
import Derived.BigQuiet
namespace Go.Proofs.YthdcceackfdbbaaGreatDoor
open Go Go.RowKit
structure Kept (S : Nat → Prop) (w w' : World) : Prop where
  os : w'.os = w.os
  tape : w'.tape = w.tape
  output : w'.output = w.output
  size : w.heap.size ≤ w'.heap.size
  block : ∀ k, k < w.heap.size → ¬ S k → w'.heap[k]? = w.heap[k]?
def plus (S : Nat → Prop) (w w' : World) : Nat → Prop := fun k => S k ∨ (w.heap.size ≤ k ∧ k < w'.heap.size)
theorem Kept.refl (S : Nat → Prop) (w : World) : Kept S w w := ⟨rfl, rfl, rfl, Nat.le_refl _, fun _ _ _ => rfl⟩
theorem Kept.trans {S T : Nat → Prop} {w w1 w2 : World} (h : Kept S w w1) (k : Kept T w1 w2) (hT : ∀ q, T q → S q ∨ w.heap.size ≤ q) : Kept S w w2 :=
  ⟨k.os.trans h.os, k.tape.trans h.tape, k.output.trans h.output, Nat.le_trans h.size k.size, fun q hq hs =>
    (k.block q (Nat.lt_of_lt_of_le hq h.size) (fun ht => by rcases hT q ht with h1 | h1; · exact hs h1
                                                            omega)).trans (h.block q hq hs)⟩
theorem Kept.mono {S T : Nat → Prop} {w w' : World} (h : Kept S w w') (hT : ∀ q, S q → T q) : Kept T w w' :=
  ⟨h.os, h.tape, h.output, h.size, fun q hq hs => h.block q hq (fun ht => hs (hT q ht))⟩
theorem Kept.ofBelow {S : Nat → Prop} {w w' : World} (h : Below w.heap.size w w') : Kept S w w' := ⟨h.os, h.tape, h.output, h.size, fun q hq _ => h.block q hq⟩
theorem Kept.below {B : Nat} {S : Nat → Prop} {w w' : World} (h : Kept S w w') (hS : ∀ q, S q → B ≤ q) (hB : B ≤ w.heap.size) : Below B w w' :=
  ⟨h.os, h.tape, h.output, h.size, fun q hq => h.block q (by omega) (fun hs => by have := hS q hs; omega)⟩
theorem Kept.grown {S : Nat → Prop} {w w' : World} {row : Option Nat} (h : w.grownBy w' row) (hr : ∀ k, row = some k → S k) : Kept S w w' :=
  ⟨h.os, h.tape, h.output, h.size, fun k hk hs => h.block k hk (fun e => hs (hr k e.symm))⟩
theorem Kept.set {S : Nat → Prop} {w : World} {b j : Nat} (hb : S b) (v : Value) : Kept S w (w.setCell ⟨b, j, none⟩ v) :=
  ⟨rfl, rfl, rfl, by simp [World.setCell], fun k _ hs => Below.heap_setCell _ _ _ _ (fun e => hs (by have e' : k = b := e; rw [e']; exact hb))⟩
theorem Kept.drewN {S : Nat → Prop} {w : World} (n : Nat) : Kept S w (w.drewN n) := ⟨rfl, rfl, rfl, Nat.le_refl _, fun _ _ _ => rfl⟩
theorem Kept.arr {S : Nat → Prop} {w w' : World} {g : Nat} {t : TypeId} {l : List Value} (h : Kept S w w') (ha : Arr w g t l) (hg : ¬ S g) : Arr w' g t l := (h.block g ha.lt hg).trans ha
structure RowIn (w : World) (S : Nat → Prop) (e : TypeId) (size : Nat) (v : Value) (n : Nat) (xs : List Value) : Prop where
  row : w.ownsRow 0 e size v n xs
  own : ∀ g, v.ownBlock = some g → S g
theorem RowIn.nil (w : World) (S : Nat → Prop) (e : TypeId) (size : Nat) : RowIn w S e size (.slice none 0 0) 0 [] := ⟨World.ownsRow_nil _ _ _ _, fun g h => by cases h⟩
theorem RowIn.mono {w : World} {S T : Nat → Prop} {e : TypeId} {size : Nat} {v : Value} {n : Nat} {xs : List Value} (h : RowIn w S e size v n xs) (hT : ∀ q, S q → T q) : RowIn w T e size v n xs := ⟨h.row, fun g hg => hT g (h.own g hg)⟩
theorem RowIn.keep {w w' : World} {S : Nat → Prop} {e : TypeId} {size : Nat} {v : Value} {n : Nat} {xs : List Value} (h : RowIn w S e size v n xs) (hk : ∀ g, v.ownBlock = some g → w'.heap[g]? = w.heap[g]?) : RowIn w' S e size v n xs := by
  refine ⟨?_, h.own⟩
  obtain ⟨h0, h1 | ⟨g, cap, cur, rfl, hB, h2, h3⟩⟩ := h.row
  · exact ⟨h0, .inl h1⟩
  · exact ⟨h0, .inr ⟨g, cap, cur, rfl, hB, (hk g rfl).trans h2, h3⟩⟩
theorem RowIn.lt {w : World} {S : Nat → Prop} {e : TypeId} {size : Nat} {v : Value} {n : Nat} {xs : List Value} (h : RowIn w S e size v n xs) (g : Nat) (hg : v.ownBlock = some g) : g < w.heap.size ∧ ∃ c, w.heap[g]? = some (.cells c e (0, 0)) := by
  obtain ⟨h0, h1 | ⟨g', cap, cur, rfl, hB, h2, h3⟩⟩ := h.row
  · rw [h1.1] at hg; cases hg
  · obtain rfl : g' = g := Option.some.inj hg
    exact ⟨(Array.getElem?_eq_some_iff.1 h2).1, cur, h2⟩
theorem RowIn.below {w w' : World} {S : Nat → Prop} {e : TypeId} {size : Nat} {v : Value} {n : Nat} {xs : List Value} (h : RowIn w S e size v n xs) (b : Below w.heap.size w w') : RowIn w' S e size v n xs :=
  h.keep (fun g hg => b.block g (h.lt g hg).1)
theorem RowIn.set {w : World} {S : Nat → Prop} {e : TypeId} {size : Nat} {v : Value} {n : Nat} {xs : List Value} (h : RowIn w S e size v n xs) {b j : Nat} {t : TypeId} {c : List Value} (ha : Arr w b t c) (ht : t ≠ e) (u : Value) : RowIn (w.setCell ⟨b, j, none⟩ u) S e size v n xs :=
  h.keep (fun g hg => Below.heap_setCell _ _ _ _ (fun e' => by
    have e' : g = b := e'
    obtain ⟨_, c', hc⟩ := h.lt g hg
    rw [e', show w.heap[b]? = _ from ha] at hc
    cases hc
    exact ht rfl))
theorem RowIn.shape {w : World} {S : Nat → Prop} {e : TypeId} {size : Nat} {v : Value} {n : Nat} {xs : List Value} (h : RowIn w S e size v n xs) : ∃ a cap, v = .slice a n cap ∧ n ≤ cap ∧ cap ≤ maxLen := by
  obtain ⟨h0, ⟨h1, h2⟩ | ⟨g, cap, cur, rfl, _, h2, h3, h4, _⟩⟩ := h.row
  · exact ⟨none, 0, by rw [h1, h2], by omega, Nat.zero_le _⟩
  · exact ⟨_, cap, rfl, h3, h4⟩
theorem run_append_mine {P : Program} (w : World) (t ty e : TypeId) (i : TypeInfo) (z : Value) (size bytes : Nat) (ht : P.underlying t = some (.slice e)) (hi : P.info? e = some i) (hz : i.zero = some z)
    (hsize : i.size = size) (hby : i.bytes = bytes) (hzs : z.cells.size = size) (hsz : 0 < size)
    (v : Value) (n : Nat) (xs : List Value) (hown : w.ownsRow 0 e size v n xs)
    (a : Addr) (m c : Nat) (news : List Value) (hl : news.length = m * size) (hnews : ∀ j u, news[j]? = some u → w.cell? (a.add j) = some u) (h1 : ∀ u ∈ news, u.oneCell' = true)
    (h63 : n + m ≤ maxLen) (hbytes : (n + m) * bytes ≤ 140737488355328) :
    ∃ v' w', (Builtin.append_ #[t, t] ty #[v, .slice (some a) m c]).run P w = .ok v' w' ∧ w'.ownsRow 0 e size v' (n + m) (xs ++ news) ∧ w.grownBy w' v.ownBlock ∧ (∀ g, v'.ownBlock = some g → v.ownBlock = some g ∨ w.heap.size ≤ g) := by
  obtain ⟨v', w', hr, h2, h3, h4⟩ := run_append_own (P := P) w 0 t ty e i z size bytes ht hi hz hsize hby hzs hsz v n xs hown a m c news hl hnews h1 h63 hbytes (Nat.zero_le _)
  refine ⟨v', w', hr, h2, h3, ?_⟩
  have new : ∀ v'' w'', (Builtin.append_ #[t, t] ty #[v, .slice (some a) m c]).run P w = .ok v'' w'' → w''.ownsRow w.heap.size e size v'' (n + m) (xs ++ news) → ∀ g, v'.ownBlock = some g → w.heap.size ≤ g := by
    intro v'' w'' hr2 ho g hg
    rw [hr] at hr2
    cases hr2
    obtain ⟨_, ⟨e1, _⟩ | ⟨g', cap, cur, rfl, hB, _⟩⟩ := ho
    · rw [e1] at hg; cases hg
    · obtain rfl : g' = g := Option.some.inj hg
      exact hB
  obtain ⟨h0, ⟨rfl, rfl⟩ | ⟨g, cap, cur, rfl, _, k2, k3, k4, k5, k6⟩⟩ := hown
  · obtain rfl : xs = [] := List.eq_nil_of_length_eq_zero (by simpa using h0)
    obtain ⟨v'', w'', hr2, ho, _⟩ := run_append_own (P := P) w w.heap.size t ty e i z size bytes ht hi hz hsize hby hzs hsz (.slice none 0 0) 0 [] (World.ownsRow_nil w _ e size) a m c news hl hnews h1 h63 hbytes (Nat.le_refl _)
    exact fun g hg => .inr (new v'' w'' hr2 ho g hg)
  · have ha : Arr w g e cur.toList := by unfold Arr; rw [Array.toArray_toList]; exact k2
    by_cases hroom : n + m ≤ cap
    · subst hsize
      have hin : ∀ j, j < news.length → 0 + n * i.size + j < cur.toList.length := fun j hj => by
        rw [Array.length_toList, k5]
        have : (n + m) * i.size ≤ cap * i.size := Nat.mul_le_mul_right _ hroom
        rw [Nat.add_mul] at this
        omega
      have hrun := run_append_room_cells (P := P) w t ty e i ht hi g 0 n cap a m c news hl hnews h1 hroom
        (fun j hj => by rw [ha.cell (List.getElem?_eq_getElem (hin j hj))]; rfl) (fun j hj => ha.frozen _)
      rw [hr] at hrun
      cases hrun
      exact fun g' hg' => .inl hg'
    · have hcells : ∀ j u, xs[j]? = some u → w.cell? ((⟨g, 0, none⟩ : Addr).add j) = some u := fun j u hj => by
        rw [Addr.add_lit]
        have hj' : j < n * size := by have := (List.getElem?_eq_some_iff.1 hj).1; omega
        rw [← k6, List.getElem?_take, if_pos hj'] at hj
        have := ha.cell hj
        simpa using this
      obtain ⟨v'', w'', hr2, ho, _⟩ := run_append_arg_grows (P := P) w t ty e i z size bytes ht hi hz hsize hby hzs hsz ⟨g, 0, none⟩ n cap xs h0 hcells a m c news hl hnews (by omega) h63 hbytes
      exact fun g' hg' => .inr (new v'' w'' hr2 ho g' hg')
theorem wpList_append_mine {P : Program} (w : World) {ops : Array Oper} {rest : List Oper} {o : Oper} {a : Act} {Q : Exit → Act → World → Prop} (hgd : o.guard = none) (s x : Operand) (t : TypeId)
    (ho : o.op = .call { callee := .builtin .append, args := #[s, x], argTypes := #[t, t] })
    (S : Nat → Prop) (e : TypeId) (i : TypeInfo) (z : Value) (size bytes : Nat) (ht : P.underlying t = some (.slice e)) (hi : P.info? e = some i) (hz : i.zero = some z)
    (hsize : i.size = size) (hby : i.bytes = bytes) (hzs : z.cells.size = size) (hsz : 0 < size)
    (v : Value) (n : Nat) (xs : List Value) (hs : a.eval s = v) (hown : RowIn w S e size v n xs)
    (ad : Addr) (m c : Nat) (news : List Value) (hx : a.eval x = .slice (some ad) m c) (hl : news.length = m * size) (hnews : ∀ j u, news[j]? = some u → w.cell? (ad.add j) = some u) (h1 : ∀ u ∈ news, u.oneCell' = true)
    (h63 : n + m ≤ maxLen) (hbytes : (n + m) * bytes ≤ 140737488355328)
    (h : ∀ v' w', RowIn w' (fun q => S q ∨ w.heap.size ≤ q) e size v' (n + m) (xs ++ news) → w.grownBy w' v.ownBlock → wpList P ops Q rest (a.put o.dst v') w') : wpList P ops Q (o :: rest) a w := by
  refine wpList_plain hgd fun K hK => ?_
  obtain ⟨v', w', hr, h2, h3, h4⟩ := run_append_mine (P := P) w t o.type e i z size bytes ht hi hz hsize hby hzs hsz v n xs hown.row ad m c news hl hnews h1 h63 hbytes
  unfold Oper.wp execOp
  simp only [ho, resolve, invoke, builtin, Sem.run_bind, Sem.run_pure, Result.andThen_ok, List.map_toArray, List.map_cons, List.map_nil, hs, hx, hr]
  exact hK _ _ (h v' w' ⟨h2, fun g hg => (h4 g hg).imp (hown.own g) id⟩ h3)
theorem RowIn.bytes {w : World} {S : Nat → Prop} {v : Value} {l : List UInt8} (h : RowIn w S 5 1 v l.length (u8s l)) : ∃ ao cap, v = .slice ao l.length cap ∧ l.length ≤ cap ∧ cap ≤ 9223372036854775807 ∧ ((ao = none ∧ l = []) ∨ ∃ g, ao = some ⟨g, 0, none⟩ ∧ BytesAt w g 0 l) := by
  obtain ⟨h0, ⟨h1, h2⟩ | ⟨g, cap, cur, rfl, _, h2, h3, h4, h5, h6⟩⟩ := h.row
  · have : l = [] := List.eq_nil_of_length_eq_zero h2
    subst this
    exact ⟨none, 0, h1, by simp, by omega, .inl ⟨rfl, rfl⟩⟩
  · refine ⟨some ⟨g, 0, none⟩, cap, rfl, h3, by unfold maxLen at h4; omega, .inr ⟨g, rfl, fun k x hx => ?_⟩⟩
    have hk : k < l.length := (List.getElem?_eq_some_iff.1 hx).1
    have h7 : (cur.toList.take (l.length * 1))[k]? = (u8s l)[k]? := by rw [h6]
    rw [List.getElem?_take, if_pos (by omega)] at h7
    have h8 : (u8s l)[k]? = some (.int .u8 (x.toNat : Int)) := by simp [u8s, hx]
    rw [h8] at h7
    rw [Nat.zero_add]
    simp [World.cell?, h2]
    simpa using h7
theorem BytesAt.drewN {w : World} {g off : Nat} {l : List UInt8} (h : BytesAt w g off l) (n : Nat) : BytesAt (w.drewN n) g off l := h
theorem BytesAt.take {w : World} {g off : Nat} {l : List UInt8} (h : BytesAt w g off l) (n : Nat) : BytesAt w g off (l.take n) := fun k x hx => by
  rw [List.getElem?_take] at hx
  split at hx
  · exact h k x hx
  · cases hx
theorem BytesAt.drop {w : World} {g off : Nat} {l : List UInt8} (h : BytesAt w g off l) (n : Nat) : BytesAt w g (off + n) (l.drop n) := fun k x hx => by
  rw [List.getElem?_drop] at hx
  rw [Nat.add_assoc]; exact h (n + k) x hx
set_option maxRecDepth 20000 in
set_option maxHeartbeats 1000000 in
theorem sumOfB (w : World) (g n cap : Nat) (l : List UInt8) (hn : l.length = n) (hcap : n ≤ cap) (hmax : cap ≤ 9223372036854775807) (hbc : BytesAt w g 0 l) :
    Calls Tryz.prog 138 #[.slice (some ⟨g, 0, none⟩) n cap] w fun e w' => e = .returned (.int .u32 ((sumL l : Nat) : Int)) ∧ w' = w := by
  have HBC : Hid (∀ k x, l[k]? = some x → w.cell? ⟨g, k, none⟩ = some (.int .u8 (x.toNat : Int))) := fun k x hx => by have := hbc k x hx; rw [Nat.zero_add] at this; exact this
  clear hbc
  go_enter Tryz.func138, Tryz.ntmps138
  go_wp2
  go_loop [3, 8] (fun vs vi => ∃ k S : Nat, vi = .int .i64 (k : Int) ∧ k ≤ n ∧ vs = .int .u32 (S : Int) ∧ S < 4294967296 ∧ Hid (S = sumL (l.take k))) (fun _ vi => n - (intOf vi).toNat)
  case atStart => exact ⟨0, 0, rfl, by omega, rfl, by omega, by rw [List.take_zero]; exact sumL_nil.symm⟩
  case round =>
    obtain ⟨k, S, rfl, hk, rfl, hsl, HS0⟩ := hrel
    by_cases hlt : k < n
    · have hlt' : (k : Int) < n := by omega
      obtain ⟨x, hx⟩ : ∃ x, l[k]? = some x := ⟨l[k]'(by omega), by simp⟩
      have hc := HBC.out k x hx
      have hcall := sumAdd_any w S x hsl
      have HS : Hid (flip32 (crcTo (flip32 S) x.toNat 8) = sumL (l.take (k + 1))) := by
        show _ = _
        rw [HS0.out, List.take_add_one, hx]; exact (sumL_snoc _ _).symm
      have hlt2 : flip32 (crcTo (flip32 S) x.toNat 8) < 4294967296 := flip_lt _
      generalize flip32 (crcTo (flip32 S) x.toNat 8) = S' at *
      clear hx HS0
      go_wp2_with fail
      refine hcall.mono ?_
      rintro e w1 ⟨rfl, hw1⟩
      rw [hw1]
      clear hw1 hcall
      go_wp2
      go_round
      case rel => exact ⟨k + 1, S', by simp, by omega, rfl, hlt2, HS⟩
      case measure => simp [intOf]; omega
    · have hlt' : ¬ (k : Int) < n := by omega
      obtain rfl : k = n := by omega
      have HS1 : Hid (S = sumL l) := by have := HS0.out; rw [← hn, List.take_length] at this; exact this
      clear HS0
      go_wp2
      go_ret
      exact ⟨by rw [← HS1.out]; rfl, rfl⟩
def sumRight (l : List UInt8) : Bool := decide (valL (l.drop (l.length - 4)) = sumL (l.take (l.length - 4)))
set_option maxRecDepth 20000 in
set_option maxHeartbeats 1000000 in
theorem cutSum_any (w : World) (g cap : Nat) (l : List UInt8) (hl : 4 ≤ l.length) (hcap : l.length ≤ cap) (hmax : cap ≤ 9223372036854775807) (hbc : BytesAt w g 0 l) :
    Calls Tryz.prog 182 #[.slice (some ⟨g, 0, none⟩) l.length cap] w fun e w' => e = .returned (.tuple #[.slice (some ⟨g, 0, none⟩) (l.length - 4) cap, .bool (sumRight l)]) ∧ ∃ m, w' = w.drewN m := by
  obtain ⟨n, hn⟩ : ∃ n, l.length - 4 = n := ⟨_, rfl⟩
  have hln : l.length = n + 4 := by omega
  have hd : (l.drop n).length = 4 := by rw [List.length_drop]; omega
  have hcut := cut32_any w g n (cap - n) (l.drop n) (by have := hbc.drop n; rw [Nat.zero_add] at this; exact this) (by omega) (by omega) (by omega)
  rw [List.take_of_length_le (by omega), hd] at hcut
  have HC := hid hcut
  have HS : Hid (∀ m k, Calls Tryz.prog 138 #[.slice (some ⟨g, 0, none⟩) n cap] ((w.drewN k).drewN m) fun e w' => e = .returned (.int .u32 ((sumL (l.take n) : Nat) : Int)) ∧ ∃ q, w' = (w.drewN k).drewN q) :=
    fun m k => Calls.quiet_of_same (sumOfB ((w.drewN k).drewN m) g n cap (l.take n) (by rw [List.length_take]; omega) (by omega) hmax ((hbc.take n).drewN k))
  have HR : Hid (sumRight l = decide ((valL (l.drop n) : Int) = (sumL (l.take n) : Int))) := by
    show _ = _
    unfold sumRight; rw [hn]
    rw [Bool.eq_iff_iff]; simp; omega
  rw [hn, hln]
  rw [hln] at hcap
  clear hcut hbc
  have e1 : ((n + 4 : Nat) : Int) - 4 = (n : Int) := by omega
  have e2 : ¬ (((n + 4 : Nat) : Int) < (n : Int)) := by omega
  have e3 : ¬ ((cap : Int) < (n : Int)) := by omega
  have e4 : ¬ cap = n := by omega
  have e5 : n + 4 - n = 4 := by omega
  generalize valL (l.drop n) = tv at *
  generalize sumL (l.take n) = sv at *
  go_enter Tryz.func182, Tryz.ntmps182
  go_wp2_with fail
  refine HC.out.mono ?_
  rintro e W1 ⟨rfl, m1, rfl⟩
  clear HC
  obtain ⟨wd, hwd⟩ : ∃ wd, w.drewN m1 = wd := ⟨_, rfl⟩
  have HSQ := hid (fun m => HS.out m m1)
  rw [hwd] at HSQ ⊢
  have HWD := hid hwd
  clear hwd HS
  obtain ⟨sl, hsl⟩ : ∃ sl, sl = Value.slice (if cap - n = 4 then some ⟨g, n, none⟩ else some ⟨g, n + 4, none⟩) (4 - 4) (cap - n - 4) := ⟨_, rfl⟩
  rw [← hsl]
  clear hsl
  go_wp2_with fail
  go_quiet (first | (go_at_call 138; with_reducible exact HSQ.out _))
  go_wp2
  go_ret2
  refine ⟨?_, m1 + nq, by rw [← HWD.out, World.drewN_drewN]⟩
  rw [HR.out]
  rfl
end Go.Proofs.YthdcceackfdbbaaGreatDoor
namespace Go.Proofs.YthdcceackfdbbaaGreatDoor
open Go.RowKit
set_option maxHeartbeats 400000 in
theorem trim_any (w : World) (B : Nat) (v : Value) (l : List Nat) (h : Own w B v l) :
    Calls Tryz.prog 194 #[v] w fun e w' => ∃ v', e = .returned v' ∧ Own w B v' (trimL l) ∧ w' = w := by
  have hlen := h.len
  unfold maxLen at hlen
  rcases h.shape with ⟨rfl, rfl⟩ | ⟨g, cap, rfl, hB, hg, hlc, hcap, hcell, hfr⟩
  · go_enter Tryz.func194, Tryz.ntmps194
    go_wp2
    go_loop [0] (fun v => v = .slice none 0 0) (fun _ => 0)
    case atStart => rfl
    case round =>
      subst hrel
      go_wp2
      go_ret
      exact ⟨_, rfl, by simpa [trimL] using h, rfl⟩
  · unfold maxLen at hcap
    go_enter Tryz.func194, Tryz.ntmps194
    go_wp2
    go_loop [0] (fun v => ∃ k : Nat, k ≤ l.length ∧ v = .slice (some ⟨g, 0, none⟩) k cap ∧ trimL (l.take k) = trimL l) (fun v => lenOfV v)
    case atStart => exact ⟨l.length, Nat.le_refl _, rfl, by rw [List.take_length]⟩
    case round =>
      obtain ⟨k, hk, rfl, ht⟩ := hrel
      have HT : Hid (trimL (l.take k) = trimL l) := ht
      clear ht
      cases k with
      | zero =>
        go_wp2
        go_ret
        exact ⟨_, rfl, by have := h.take rfl (k := 0) (by omega); rw [← HT.out]; simpa [trimL] using this, rfl⟩
      | succ k =>
        obtain ⟨x, hx⟩ : ∃ x, l[k]? = some x := ⟨l[k], by simp⟩
        have hc := hcell k x hx
        have hts := take_snoc_get hx
        have HX : Hid (l.take (k + 1) = l.take k ++ [x]) := hts
        clear hts hcell hx
        by_cases hx0 : x = 0
        · subst hx0
          go_wp2
          go_round
          case rel => exact ⟨k, by omega, by simp, by rw [← HT.out, HX.out, trimL_snoc_zero]⟩
          case measure => simp [lenOfV]
        · have hx1 : ((x : Int) == 0) = false := by simpa using hx0
          go_wp2
          go_ret
          exact ⟨_, rfl, by have := h.take rfl (k := k + 1) (by omega); rw [← HT.out, HX.out, trimL_snoc_ne _ hx0, ← HX.out]; exact this, rfl⟩
def cmpI (a b : Int) : Int := if a < b then -1 else if b < a then 1 else 0
theorem cmpI_lt {a b : Int} (h : a < b) : cmpI a b = -1 := by simp [cmpI, h]
theorem cmpI_gt {a b : Int} (h : b < a) : cmpI a b = 1 := by simp [cmpI, h, show ¬ a < b by omega]
theorem cmpI_eq {a b : Int} (h : a = b) : cmpI a b = 0 := by simp [cmpI, h]
theorem ret_int {k : IntKind} {a b : Int} (h : a = b) : Ending.returned (.int k a) = .returned (.int k b) := by rw [h]
set_option maxHeartbeats 400000 in
theorem cmpint_any (a b : Int) (w : World) :
    Calls Tryz.prog 223 #[.int .i64 a, .int .i64 b] w fun e w' => e = .returned (.int .i64 (cmpI a b)) ∧ w' = w := by
  rcases Int.lt_trichotomy a b with h | h | h
  · have H := cmpI_lt h
    have HH : Hid (cmpI a b = -1) := H
    clear H
    go_enter Tryz.func223, Tryz.ntmps223
    go_wp2
    go_ret
    exact ⟨ret_int HH.out.symm, rfl⟩
  · subst h
    go_enter Tryz.func223, Tryz.ntmps223
    go_wp2
    go_ret
    exact ⟨ret_int (cmpI_eq rfl).symm, rfl⟩
  · have HH : Hid (cmpI a b = 1) := cmpI_gt h
    go_enter Tryz.func223, Tryz.ntmps223
    go_wp2
    go_ret
    exact ⟨ret_int HH.out.symm, rfl⟩
set_option maxHeartbeats 400000 in
theorem cmpu32_any (a b : Int) (w : World) :
    Calls Tryz.prog 224 #[.int .u32 a, .int .u32 b] w fun e w' => e = .returned (.int .i64 (cmpI a b)) ∧ w' = w := by
  rcases Int.lt_trichotomy a b with h | h | h
  · have H := cmpI_lt h
    have HH : Hid (cmpI a b = -1) := H
    clear H
    go_enter Tryz.func224, Tryz.ntmps224
    go_wp2
    go_ret
    exact ⟨ret_int HH.out.symm, rfl⟩
  · subst h
    go_enter Tryz.func224, Tryz.ntmps224
    go_wp2
    go_ret
    exact ⟨ret_int (cmpI_eq rfl).symm, rfl⟩
  · have HH : Hid (cmpI a b = 1) := cmpI_gt h
    go_enter Tryz.func224, Tryz.ntmps224
    go_wp2
    go_ret
    exact ⟨ret_int HH.out.symm, rfl⟩
set_option maxHeartbeats 400000 in
theorem width_any (w : World) : Calls Tryz.prog 193 #[] w fun e w' => e = .returned (.int .i64 32) ∧ w' = w := by
  go_enter Tryz.func193, Tryz.ntmps193
  go_wp2_with fail
  refine (Tryz.bits_Len64 _ _ (by decide) (by decide)).mono ?_
  rintro e w' ⟨rfl, rfl⟩
  go_wp2
  go_ret
  exact ⟨rfl, rfl⟩
end Go.Proofs.YthdcceackfdbbaaGreatDoor
namespace Go.Proofs.YthdcceackfdbbaaGreatDoor
open Go.RowKit
theorem Tryz.infoU32 : (Tryz.prog.info? 124).map (fun i => (i.zero, i.size, i.bytes)) = some (some (.int .u32 0), 1, 4) := by kernel_rfl
set_option maxRecDepth 20000 in
set_option maxHeartbeats 400000 in
theorem mulAdd_any (w : World) (v : Value) (l : List Nat) (f m : Nat) (h : Own w 0 v l) (hl : l.length ≤ 4096) (hf : f < 4294967296) (hm : m < 4294967296) :
    Calls Tryz.prog 157 #[v, .int .u32 f, .int .u32 m] w fun e w' => ∃ v' l', e = .returned v' ∧ Own w' w.heap.size v' l' ∧ Canon l' ∧ val l' = val l * f + m ∧ Below w.heap.size w w' := by
  obtain ⟨ao, cap, rfl, hlc, hcap, hcell⟩ := h.shape1
  unfold maxLen at hcap
  obtain ⟨i0, hi, hz0, hz1, hz2⟩ := info_parts Tryz.infoU32
  go_enter Tryz.func157, Tryz.ntmps157
  go_wp2_with (at_make; refine wpList_make_full _ rfl _ _ 225 rfl w.heap.size 124 i0 (.int .u32 0) 1 Tryz.underlying225 hi hz0 hz1 _ _ _ _ (l.length + 1) rfl rfl ?c1 ?c2 ?c3 ?c4 ?c5 ?c6)
  case c1 => omega
  case c2 => omega
  case c3 => rw [hz2]; omega
  case c4 => unfold maxLen; omega
  case c5 => exact Nat.le_refl _
  intro w1 hown hgrow
  have hown1 := own_made hown
  have hbel : Below w.heap.size w w1 := (Below.refl _ _).grown hgrow (Nat.le_refl _) (by intro k hk; cases hk)
  clear hown hgrow
  go_wp2
  go_loopw [8, 19] (fun c i wr => ∃ (k : Nat) (p : List Nat) (cy : Nat), k ≤ l.length ∧ i = .int .i64 k ∧ c = .int .u64 cy ∧ cy < 4294967296 ∧ p.length = l.length + 1 ∧
      Own wr w.heap.size (.slice (some ⟨w.heap.size, 0, none⟩) (l.length + 1) (l.length + 1)) p ∧ val (p.take k) + 4294967296 ^ k * cy = val (l.take k) * f + m ∧ Below w.heap.size w wr)
    (fun _ i _ => l.length - (intOf i).toNat)
  case atStart => exact ⟨0, _, m, Nat.zero_le _, rfl, rfl, hm, by simp, hown1, by simp [val], hbel⟩
  case round =>
    clear hown1 hbel
    obtain ⟨k, p, cy, hk, rfl, rfl, hcy, hp, hown, hval, hbel⟩ := hrel
    have HV := hval
    have HVV : Hid (val (p.take k) + 4294967296 ^ k * cy = val (l.take k) * f + m) := hval
    have HP : Hid (p.length = l.length + 1) := hp
    clear hval HV hp
    by_cases hlt : k < l.length
    · obtain ⟨x, hx⟩ : ∃ x, l[k]? = some x := ⟨l[k], by simp [hlt]⟩
      obtain ⟨hxl, g, rfl, _, hg, hc⟩ := hcell k x hx
      have hcr := hbel.cell (p := ⟨g, k, none⟩) hg
      rw [hc] at hcr
      have HX : Hid (l[k]? = some x) := hx
      have hfr := hown.frozenW k
      obtain ⟨y0, _, _, hold⟩ := hown.at (j := k) (by omega)
      obtain ⟨hb1, hb2⟩ := mulAdd_carry hcy hxl hf
      clear hx hc hcell
      go_wp2_with (go_at_call 193; refine (width_any _).mono ?_; rintro e w' ⟨rfl, rfl⟩)
      go_roundw
      case rel =>
        have e1 : ((cy : Int) + (x : Int) * (f : Int)) % 4294967296 = (((cy + x * f) % 4294967296 : Nat) : Int) := by simp
        have e2 : ((cy : Int) + (x : Int) * (f : Int)) / 4294967296 = (((cy + x * f) / 4294967296 : Nat) : Int) := by simp
        rw [e1, e2]
        exact ⟨k + 1, p.set k ((cy + x * f) % 4294967296), (cy + x * f) / 4294967296, by omega, by go_num, rfl, hb2, by simp [HP.out], hown.stored (by simp [HP.out]) k (Nat.mod_lt _ (by omega)),
          mulAdd_step (by rw [HP.out]; omega) HX.out (by omega) HVV.out, hbel.setCell (Nat.le_refl _) _⟩
      case measure => simp [intOf]; omega
    · have hfr := hown.frozenW l.length
      obtain ⟨y0, hy0, _, hold⟩ := hown.at (j := l.length) (by omega)
      have HK : Hid (k = l.length) := by unfold Hid; omega
      clear hcell hy0
      go_wp2_with fail
      have hown2 := hown.stored (by simp [HP.out]) l.length hcy
      refine (trim_any _ _ _ _ hown2).mono ?_
      rintro e w' ⟨v', rfl, hown3, rfl⟩
      go_wp2
      go_ret
      refine ⟨v', _, rfl, hown3, trimL_canon _, ?_, hbel.setCell (Nat.le_refl _) _⟩
      have hv := HVV.out
      rw [HK.out, List.take_length] at hv
      rw [trimL_val, val_set_last HP.out, hv]
end Go.Proofs.YthdcceackfdbbaaGreatDoor
namespace Go.Proofs.YthdcceackfdbbaaGreatDoor
open Go.RowKit
theorem Own.ofRow {w : World} {B n : Nat} {v : Value} {l : List Nat} {xs : List Value} (h : w.ownsRow B 124 1 v n xs) (hx : xs = u32s l) (hl : Wds l) : Own w B v l := by
  subst hx
  have : n = l.length := by have := h.1; simp [u32s] at this; omega
  subst this
  exact ⟨h, hl⟩
theorem wds_snoc {l : List Nat} {y : Nat} (h : Wds l) (hy : y < 4294967296) : Wds (l ++ [y]) := by
  intro x hx
  rcases List.mem_append.1 hx with h1 | h1
  · exact h x h1
  · simp at h1; omega
theorem of_step {l : List Nat} {x y : Nat} (h : val l + 4294967296 ^ l.length * y = x) : val (l ++ [y % 4294967296]) + 4294967296 ^ (l ++ [y % 4294967296]).length * (y / 4294967296) = x := by
  rw [val_snoc]
  simp only [List.length_append, List.length_cons, List.length_nil, Nat.zero_add, Nat.pow_succ]
  rw [← h, Nat.mul_assoc, Nat.add_assoc, ← Nat.mul_add, Nat.mod_add_div]
theorem of_canon {l : List Nat} {y : Nat} (hy : y ≠ 0) : y / 4294967296 = 0 → Canon (l ++ [y % 4294967296]) := by
  intro h
  exact canon_snoc (by omega)
theorem of_len {l : List Nat} {x y : Nat} (h : val l + 4294967296 ^ l.length * y = x) (hy : y ≠ 0) (hx : x < 18446744073709551616) : l.length < 2 := by
  by_cases h2 : l.length < 2
  · exact h2
  · have h1 : 4294967296 ^ 2 ≤ 4294967296 ^ l.length := Nat.pow_le_pow_right (by omega) (by omega)
    have h3 : 4294967296 ^ 2 * 1 ≤ 4294967296 ^ l.length * y := Nat.mul_le_mul h1 (by omega)
    omega
set_option maxHeartbeats 400000 in
theorem of_any (w : World) (x : Nat) (hx : x < 18446744073709551616) :
    Calls Tryz.prog 161 #[.int .u64 x] w fun e w' => ∃ v', e = .returned v' ∧ Rep w' w.heap.size v' x ∧ Below w.heap.size w w' := by
  obtain ⟨i0, hi, hz0, hz1, hz2⟩ := info_parts Tryz.infoU32
  go_enter Tryz.func161, Tryz.ntmps161
  go_wp2
  go_loopw [0, 3] (fun s v wr => ∃ (y : Nat) (l : List Nat), s = .int .u64 y ∧ y < 18446744073709551616 ∧ Own wr w.heap.size v l ∧ val l + 4294967296 ^ l.length * y = x ∧ (y = 0 → Canon l) ∧ Below w.heap.size w wr)
    (fun s _ _ => (intOf s).toNat)
  case atStart => exact ⟨x, [], rfl, hx, ⟨World.ownsRow_nil _ _ _ _, by intro y hy; simp at hy⟩, by simp [val], fun _ => canon_nil, Below.refl _ _⟩
  case round =>
    obtain ⟨y, l, rfl, hy, hown, hval, hcan, hbel⟩ := hrel
    have HV : Hid (val l + 4294967296 ^ l.length * y = x) := hval
    have HC : Hid (y = 0 → Canon l) := hcan
    clear hval hcan
    by_cases hy0 : y = 0
    · subst hy0
      go_wp2
      go_ret
      refine ⟨u3, rfl, ⟨l, hown, HC.out (by simp), ?_⟩, hbel⟩
      have := HV.out; simpa using this
    · have hll := of_len HV.out hy0 hx
      have hsz := hbel.size
      have hne : ((y : Int) != 0) = true := by simpa using hy0
      go_wp2_with (first | (at_builtin; refine wpList_append_own _ rfl _ _ 225 rfl w.heap.size 124 i0 (.int .u32 0) 1 4 Tryz.underlying225 hi hz0 hz1 hz2 rfl (by decide) _ _ _ rfl (hown.1.alloc _) ⟨wr.heap.size, 0, none⟩ 1 1 [.int .u32 ((y : Int) % 4294967296)] rfl rfl ?c1 ?c2 ?c3 ?c4 ?c5 ?_) | (go_at_call 193; refine (width_any _).mono ?_; rintro e w' ⟨rfl, rfl⟩))
      case c1 => exact cell_one_new _ _ _
      case c2 => intro u hu; simp at hu; subst hu; rfl
      case c3 => unfold maxLen; omega
      case c4 => omega
      case c5 => simp; omega
      · intro v' w1 hown' hgrow _
        have hr : Own w1 w.heap.size v' (l ++ [y % 4294967296]) := Own.ofRow hown' (by simp [u32s]) (wds_snoc hown.2 (Nat.mod_lt _ (by omega)))
        have hb : Below w.heap.size w w1 := (hbel.alloc hsz _).grown hgrow (by simp; omega) (fun k hk => (hown.1.lt k hk).1)
        clear hown' hgrow hown hbel
        go_wp2_with (go_at_call 193; refine (width_any _).mono ?_; rintro e w' ⟨rfl, rfl⟩)
        go_roundw
        case rel => exact ⟨y / 4294967296, _, by simp, by omega, hr, of_step HV.out, of_canon hy0, hb⟩
        case measure => simp [intOf]; omega
set_option maxHeartbeats 400000 in
theorem clone_any (w : World) (v : Value) (l : List Nat) (h : Own w 0 v l) (hl : l.length ≤ 4096) :
    Calls Tryz.prog 206 #[v] w fun e w' => ∃ v', e = .returned v' ∧ Own w' w.heap.size v' l ∧ Below w.heap.size w w' := by
  obtain ⟨i0, hi, hz0, hz1, hz2⟩ := info_parts Tryz.infoU32
  have q : ∀ (w : World) (a : Option Addr) (n c n' c' : Nat), (binOp .eql 225 (.slice a n c) (.slice none n' c')).run Tryz.prog w = .ok (.bool a.isNone) w := fun w a n c n' c' => Lib.run_eql_slice_nil w _ _ a n c n' c' Tryz.underlying225
  rcases h.shape with ⟨rfl, rfl⟩ | ⟨g, cap, rfl, hB, hg, hlc, hcap, hcell, hfr⟩
  · go_enter Tryz.func206, Tryz.ntmps206
    go_wp2
    go_ret
    exact ⟨_, rfl, ⟨World.ownsRow_nil _ _ _ _, h.2⟩, Below.refl _ _⟩
  · unfold maxLen at hcap
    have HC : Hid (∀ (i x : Nat), l[i]? = some x → w.cell? ⟨g, i, none⟩ = some (.int .u32 (x : Int))) := hcell
    clear hcell hfr
    go_enter Tryz.func206, Tryz.ntmps206
    go_wp2_with (at_builtin; refine wpList_append_own _ rfl _ _ 225 rfl w.heap.size 124 i0 (.int .u32 0) 1 4 Tryz.underlying225 hi hz0 hz1 hz2 rfl (by decide) _ _ _ rfl (World.ownsRow_made w #[] 0 (Nat.le_refl _) (Nat.zero_le _) rfl) ⟨g, 0, none⟩ l.length cap (u32s l) rfl ?qc1 ?qc2 ?qc3 ?qc4 ?qc5 ?qc6 ?_)
    case qc1 => simp [u32s]
    case qc2 =>
      intro j u hj
      rw [Addr.add_lit]
      refine Lib.cell?_alloc_some _ ?_
      simp only [u32s, List.getElem?_map, Option.map_eq_some_iff] at hj
      obtain ⟨x, hx, rfl⟩ := hj
      rw [Nat.zero_add]
      exact HC.out j x hx
    case qc3 => intro u hu; obtain ⟨x, _, rfl⟩ := List.mem_map.1 hu; rfl
    case qc4 => unfold maxLen; omega
    case qc5 => omega
    case qc6 => simp
    intro v' w1 hown hgrow hnil
    go_wp2
    go_ret
    exact ⟨v', rfl, Own.ofRow hown (by simp) h.2, ((Below.refl _ w).alloc (Nat.le_refl _) _).grown hgrow (by simp) (by intro k hk; simp [Value.ownBlock] at hk; omega)⟩
theorem u64_wrap (n : Int) : IntKind.u64.wrap n = n % 18446744073709551616 := rfl
theorem grown_refl (w : World) (r : Option Nat) : w.grownBy w r := ⟨rfl, rfl, rfl, Nat.le_refl _, fun _ _ _ => rfl⟩
theorem grown_setCell {w wr : World} {g : Nat} (h : w.grownBy wr (some g)) (j : Nat) (u : Value) : w.grownBy (wr.setCell ⟨g, j, none⟩ u) (some g) :=
  ⟨h.os, h.tape, h.output, by have := h.size; simpa [World.setCell] using this, fun k hk hne => by
    rw [Below.heap_setCell _ _ _ _ (by intro e; exact hne (by rw [e])), h.block k hk hne]⟩
set_option maxHeartbeats 400000 in
theorem take_any (w : World) (B g n cap : Nat) (vb : Value) (la lb : List Nat) (h : Own w B (.slice (some ⟨g, 0, none⟩) n cap) la) (hb : Own w 0 vb lb) (hne : vb.ownBlock ≠ some g) (hl : la.length ≤ 4096) (hlb : lb.length ≤ la.length) (hle : val lb ≤ val la) :
    Calls Tryz.prog 207 #[.slice (some ⟨g, 0, none⟩) n cap, vb] w fun e w' => e = .returned (.tuple #[]) ∧ (∃ p, Own w' B (.slice (some ⟨g, 0, none⟩) n cap) p ∧ val p = val la - val lb ∧ p.length = la.length) ∧ w.grownBy w' (some g) := by
  have hn := h.lenW
  subst hn
  obtain ⟨ao, capb, rfl, hlc, hcap, hcell⟩ := hb.shape1
  have HC : Hid (∀ (i x : Nat), lb[i]? = some x → x < 4294967296 ∧ ∃ g, ao = some ⟨g, 0, none⟩ ∧ 0 ≤ g ∧ g < w.heap.size ∧ w.cell? ⟨g, i, none⟩ = some (.int .u32 (x : Int))) := hcell
  unfold maxLen at hcap
  clear hcell
  go_enter Tryz.func207, Tryz.ntmps207
  go_wp2
  go_loopw [4, 10] (fun c i wr => ∃ (k : Nat) (p : List Nat) (bw : Nat), k ≤ la.length ∧ i = .int .i64 k ∧ c = .int .u64 bw ∧ bw ≤ 1 ∧ p.length = la.length ∧
      Own wr B (.slice (some ⟨g, 0, none⟩) la.length cap) p ∧ val (la.take k) + 4294967296 ^ k * bw = val (p.take k) + val (lb.take k) ∧ p.drop k = la.drop k ∧ w.grownBy wr (some g))
    (fun _ i _ => la.length - (intOf i).toNat)
  case atStart => exact ⟨0, la, 0, Nat.zero_le _, rfl, rfl, by omega, rfl, h, by simp [val], rfl, grown_refl _ _⟩
  case round =>
    obtain ⟨k, p, bw, hk, rfl, rfl, hbw, hp, hown, hval, hdrop, hgr⟩ := hrel
    have HV : Hid (val (la.take k) + 4294967296 ^ k * bw = val (p.take k) + val (lb.take k)) := hval
    have HP : Hid (p.length = la.length) := hp
    have HD : Hid (p.drop k = la.drop k) := hdrop
    clear hval hp hdrop
    by_cases hlt : k < la.length
    · obtain ⟨x, hx, hxl, hold⟩ := hown.at (j := k) hlt
      have hfr := hown.frozenW k
      have HX : Hid (p[k]? = some x) := hx
      clear hx
      by_cases hlt2 : k < lb.length
      · obtain ⟨y, hy⟩ : ∃ y, lb[k]? = some y := ⟨lb[k], by simp [hlt2]⟩
        obtain ⟨hyl, gb, rfl, _, hgb, hc⟩ := HC.out k y hy
        have hcb := hgr.cell hc (by simpa [Value.ownBlock] using hne)
        have HY : Hid (lb[k]? = some y) := hy
        clear hc hy
        go_wp2
        go_roundw
        case rel =>
          obtain ⟨r, b', e1, e2, hr, hb', e3⟩ := borrow_nat x y bw hxl hyl hbw
          rw [u64_wrap, u64_wrap, e1, e2]
          exact ⟨k + 1, p.set k r, b', by omega, by go_num, rfl, hb', by simp [HP.out], hown.stored (by rw [HP.out]) k hr, take_step (get_of_drop HD.out HX.out) (.inl HY.out) (by rw [HP.out]; omega) e3 HV.out, drop_step HD.out, grown_setCell hgr _ _⟩
        case measure => simp [intOf]; omega
      · go_wp2
        go_roundw
        case rel =>
          obtain ⟨r, b', e1, e2, hr, hb', e3⟩ := borrow_nat0 x bw hxl hbw
          rw [u64_wrap, e1, e2]
          exact ⟨k + 1, p.set k r, b', by omega, by go_num, rfl, hb', by simp [HP.out], hown.stored (by rw [HP.out]) k hr, take_step (get_of_drop HD.out HX.out) (.inr ⟨by omega, rfl⟩) (by rw [HP.out]; omega) e3 HV.out, drop_step HD.out, grown_setCell hgr _ _⟩
        case measure => simp [intOf]; omega
    · have HK : Hid (k = la.length) := by unfold Hid; omega
      go_wp2
      go_end0
      refine ⟨rfl, ⟨p, hown, ?_, HP.out⟩, hgr⟩
      have hv := HV.out
      rw [HK.out] at hv
      exact take_end hown.2 HP.out hlb hle hv
end Go.Proofs.YthdcceackfdbbaaGreatDoor
