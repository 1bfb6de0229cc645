import Derived.Test.YthdcceackfdbbaaGreatDoorM15K
import Derived.Test.YthdcceackfdbbaaGreatDoorShelf2
import Derived.Test.YthdcceackfdbbaaGreatDoorM07K
import Derived.Test.YthdcceackfdbbaaGreatDoorM09K
import Derived.Lib.Join
import Derived.ArgAppend
import Derived.Deep.RegionHeld3
namespace Go.Proofs.YthdcceackfdbbaaGreatDoor
open Go Go.RowKit

theorem builder_below {T e : TypeId} {B b : Nat} {bs : List Value} {w w' : World} (h : Lib.IsBuilderF T e B b bs w) (hb : Below w.heap.size w w') : Lib.IsBuilderF T e B b bs w' := by
  have key : ∀ p, Lib.BuilderAtF T e B b p bs w → Lib.BuilderAtF T e B b p bs w' := by
    rintro p ⟨h1, v, h2, h3, h4⟩
    exact ⟨h1, v, (hb.block _ (Array.getElem?_eq_some_iff.1 h2).1).trans h2, h3.kept (row := none) ⟨hb.os, hb.tape, hb.output, hb.size, fun k hk _ => hb.block k hk⟩ (by cases hv : v.ownBlock <;> simp), h4⟩
  exact h.imp (key _) (key _)

theorem builder_sim {T e : TypeId} {B B' b : Nat} {bs : List Value} {w w' : World} (h : Lib.IsBuilderF T e B b bs w) (s : Sim B' w w') : Lib.IsBuilderF T e B b bs w' := by
  have key : ∀ p, Lib.BuilderAtF T e B b p bs w → Lib.BuilderAtF T e B b p bs w' := by
    rintro p ⟨h1, v, h2, ⟨h3, h5⟩, h4⟩
    refine ⟨h1, v, s.block _ _ h2 (.inr rfl), ⟨h3, ?_⟩, h4⟩
    rcases h5 with h5 | ⟨g, cap, cur, fz, rfl, hB, hg, r⟩
    · exact .inl h5
    · exact .inr ⟨g, cap, cur, fz, rfl, hB, s.block _ _ hg (.inr rfl), r⟩
  exact h.imp (key _) (key _)

theorem others_below {e : TypeId} {b : Option Nat} {w w' : World} (hb : Below w.heap.size w w') : Lib.OthersKept e b w w' :=
  fun k _ hk _ _ => (hb.block k (Array.getElem?_eq_some_iff.1 hk).1).trans hk

theorem u8s_str (s : ByteArray) : Lib.strCells s = u8s s.data.toList := rfl

set_option maxRecDepth 20000 in
set_option maxHeartbeats 1000000 in
theorem addLine_any (w : World) (B b q cap : Nat) (bs : List UInt8) (xs : List ByteArray) (hb : Lib.IsBuilderF 152 5 B b (u8s bs) w) (hB : B ≤ w.heap.size) (hbs : bs.length ≤ 10000000) (hx : ∀ (j : Nat) x, xs[j]? = some x → w.cell? ⟨q, 0 + j, none⟩ = some (.string x)) (hq : q < w.heap.size) (hn : xs.length ≤ 100) (hcap : xs.length ≤ cap)
    (jl : List UInt8) (hj : Lib.join (xs.map (·.data.toList)) [32] = jl) (hjl : jl.length ≤ 1000) :
    Calls Tryz.prog 107 #[.pointer (some ⟨b, 0, none⟩), .slice (some ⟨q, 0, none⟩) xs.length cap] w fun e w' => (∃ v, e = .returned v) ∧ Lib.IsBuilderF 152 5 B b (u8s (bs ++ jl ++ [10])) w' ∧ Below B w w' ∧ Lib.OthersKept 5 (some b) w w' := by
  have HJ := Tryz.strings_Join q 0 cap xs ⟨#[32]⟩ w hx hq (by omega) hcap (by rw [show (⟨#[32]⟩ : ByteArray).data.toList = [32] from rfl, hj]; omega)
  rw [show (⟨#[32]⟩ : ByteArray).data.toList = [32] from rfl, hj] at HJ
  go_enter Tryz.func107, Tryz.ntmps107
  go_wp2_with fail
  refine HJ.mono ?_
  rintro e w1 ⟨rfl, b1⟩
  have h1 := builder_below hb b1
  have z1 := b1.size
  go_wp2_with fail
  refine (Tryz.Builder_WriteString_k B b _ ⟨jl.toArray⟩ w1 h1 (by simp [u8s, ByteArray.size]; omega) (by omega)).mono ?_
  rintro e w2 ⟨rfl, h2, b2, k2⟩
  have z2 := b2.size
  go_wp2_with fail
  refine (Tryz.Builder_WriteByte_k B b _ 10 w2 (.inr h2) (by simp [u8s, u8s_str]; omega) (by omega)).mono ?_
  rintro e w3 ⟨rfl, h3, b3, k3⟩
  go_wp2
  go_end0
  refine ⟨⟨_, rfl⟩, .inr ?_, ((b1.mono hB).trans b2).trans b3, ((others_below b1).trans k2).trans k3⟩
  have e1 : u8s (bs ++ jl ++ [10]) = u8s bs ++ Lib.strCells ⟨jl.toArray⟩ ++ [.int .u8 10] := by rw [u8s_str]; simp [u8s]
  rw [e1]; exact h3

end Go.Proofs.YthdcceackfdbbaaGreatDoor
namespace Go.Proofs.YthdcceackfdbbaaGreatDoor
open Go Go.RowKit

def firstW : Nat → List ByteArray
  | 0 => [⟨#[37, 37, 77, 97, 116, 114, 105, 120, 77, 97, 114, 107, 101, 116]⟩, ⟨#[109, 97, 116, 114, 105, 120]⟩, ⟨#[97, 114, 114, 97, 121]⟩, ⟨#[114, 101, 97, 108]⟩, ⟨#[103, 101, 110, 101, 114, 97, 108]⟩]
  | 1 => [⟨#[37, 37, 77, 97, 116, 114, 105, 120, 77, 97, 114, 107, 101, 116]⟩, ⟨#[109, 97, 116, 114, 105, 120]⟩, ⟨#[97, 114, 114, 97, 121]⟩, ⟨#[114, 101, 97, 108]⟩, ⟨#[115, 121, 109, 109, 101, 116, 114, 105, 99]⟩]
  | 2 => [⟨#[37, 37, 77, 97, 116, 114, 105, 120, 77, 97, 114, 107, 101, 116]⟩, ⟨#[109, 97, 116, 114, 105, 120]⟩, ⟨#[99, 111, 111, 114, 100, 105, 110, 97, 116, 101]⟩, ⟨#[114, 101, 97, 108]⟩, ⟨#[103, 101, 110, 101, 114, 97, 108]⟩]
  | _ => [⟨#[37, 37, 77, 97, 116, 114, 105, 120, 77, 97, 114, 107, 101, 116]⟩, ⟨#[109, 97, 116, 114, 105, 120]⟩, ⟨#[99, 111, 111, 114, 100, 105, 110, 97, 116, 101]⟩, ⟨#[114, 101, 97, 108]⟩, ⟨#[115, 121, 109, 109, 101, 116, 114, 105, 99]⟩]

def firstL (kind : Nat) : List UInt8 := Lib.join ((firstW kind).map (·.data.toList)) [32]

theorem first_any (w : World) (kind : Nat) (hk : kind ≤ 3) :
    Calls Tryz.prog 108 #[.int .i64 (kind : Int)] w fun e w' => e = .returned (.slice (some ⟨w.heap.size, 0, none⟩) 5 5) ∧ w' = w.alloc (.cells ((firstW kind).map Value.string).toArray 9) := by
  rcases (by omega : kind = 0 ∨ kind = 1 ∨ kind = 2 ∨ kind = 3) with rfl | rfl | rfl | rfl
  · go_enter Tryz.func108, Tryz.ntmps108
    go_wp2_with fail
    refine (kcoord_b _ _ false (by decide)).mono ?_
    rintro e w1 ⟨rfl, rfl⟩
    go_wp2_with fail
    refine (ksym_b _ _ false (by decide)).mono ?_
    rintro e w1 ⟨rfl, rfl⟩
    go_wp2
    go_ret
    exact ⟨rfl, rfl⟩
  · go_enter Tryz.func108, Tryz.ntmps108
    go_wp2_with fail
    refine (kcoord_b _ _ false (by decide)).mono ?_
    rintro e w1 ⟨rfl, rfl⟩
    go_wp2_with fail
    refine (ksym_b _ _ true (by decide)).mono ?_
    rintro e w1 ⟨rfl, rfl⟩
    go_wp2
    go_ret
    exact ⟨rfl, rfl⟩
  · go_enter Tryz.func108, Tryz.ntmps108
    go_wp2_with fail
    refine (kcoord_b _ _ true (by decide)).mono ?_
    rintro e w1 ⟨rfl, rfl⟩
    go_wp2_with fail
    refine (ksym_b _ _ false (by decide)).mono ?_
    rintro e w1 ⟨rfl, rfl⟩
    go_wp2
    go_ret
    exact ⟨rfl, rfl⟩
  · go_enter Tryz.func108, Tryz.ntmps108
    go_wp2_with fail
    refine (kcoord_b _ _ true (by decide)).mono ?_
    rintro e w1 ⟨rfl, rfl⟩
    go_wp2_with fail
    refine (ksym_b _ _ true (by decide)).mono ?_
    rintro e w1 ⟨rfl, rfl⟩
    go_wp2
    go_ret
    exact ⟨rfl, rfl⟩

/-- the words of an entry's line -/
noncomputable def entW (kind : Nat) (y : Nat × Nat × Nat) : List ByteArray :=
  if kind = 2 ∨ kind = 3 then [⟨(Lib.decDigits (y.1 + 1)).toArray⟩, ⟨(Lib.decDigits (y.2.1 + 1)).toArray⟩, ⟨(prL y.2.2).toArray⟩] else [⟨(prL y.2.2).toArray⟩]

theorem bytes_of_list {s : ByteArray} {l : List UInt8} (h : s.data.toList = l) : s = ⟨l.toArray⟩ := by subst h; cases s; simp

set_option maxRecDepth 20000 in
set_option maxHeartbeats 1000000 in
theorem entry_any (w : World) (kind : Nat) (y : Nat × Nat × Nat) (hk : kind ≤ 3) (h1 : y.1 ≤ 40) (h2 : y.2.1 ≤ 40) (h3 : y.2.2 < 18446744073709551616) (htab : Lib.TabIs Tryz.prog w "internal/strconv.uint64pow10" .u64 Lib.pow10Tab) :
    Calls Tryz.prog 111 #[plcV y.1 y.2.1, .int .u64 (y.2.2 : Int), .int .i64 (kind : Int)] w fun e w' => ∃ q, e = .returned (.slice (some ⟨q, 0, none⟩) (entW kind y).length (entW kind y).length) ∧ Arr w' q 9 ((entW kind y).map Value.string) ∧ Below w.heap.size w w' ∧ (prL y.2.2).length ≤ 100 := by
  have hmix : Tryz.prog.follows .mixedOrders = true := by kernel_rfl
  obtain ⟨i, j, x⟩ := y
  simp only at h1 h2 h3 ⊢
  obtain ⟨b, hb⟩ : ∃ b, w.heap.size = b := ⟨_, rfl⟩
  have t1 := tab_below htab (Below.refl' w (plcO i j))
  have aP : Arr (w.alloc (plcO i j)) b 117 [.int .i64 (i : Int), .int .i64 (j : Int)] := by rw [← hb]; exact Arr.newL w _ _
  have bP : Below b w (w.alloc (plcO i j)) := by rw [← hb]; exact Below.refl' _ _
  unfold plcV
  go_enter Tryz.func111, Tryz.ntmps111
  go_wp2_with fail
  unfold plcO at t1 aP bP
  refine (nprint_any _ x h3 t1).mono ?_
  rintro e W1 ⟨s, rfl, hpo, hsz, b1⟩
  have hpr := prL_eq hpo
  obtain rfl := bytes_of_list hpr.symm
  have hprl : (prL x).length ≤ 100 := by simpa [ByteArray.size] using hsz
  have t2 := tab_below t1 b1
  have aP1 := aP.belowAll b1
  have bW1 : Below b w W1 := bP.trans (b1.mono (by rw [← hb]; exact bP.size))
  have zW1 : b + 1 ≤ W1.heap.size := by have := aP1.lt; omega
  have HPR := hid hprl
  clear hpo hsz hpr aP t1 htab b1 hprl
  by_cases hc : kind = 2 ∨ kind = 3
  · have hcb : decide ((kind : Int) = 2 ∨ (kind : Int) = 3) = true := by simp; omega
    have HW : Hid (entW kind (i, j, x) = [⟨(Lib.decDigits (i + 1)).toArray⟩, ⟨(Lib.decDigits (j + 1)).toArray⟩, ⟨(prL x).toArray⟩]) := if_pos hc
    go_wp2_with fail
    refine (kcoord_b _ _ true hcb).mono ?_
    rintro e w1 ⟨rfl, hw1⟩
    rw [hw1]
    clear hw1 hcb
    go_wp2_with fail
    have hS0 : Arr W1.drew b 117 [.int .i64 (i : Int), .int .i64 (j : Int)] := aP1.drew
    refine wp_region_held (S := fun W' => Arr W' b 117 [.int .i64 (i : Int), .int .i64 (j : Int)]) hmix ?_
    change wpAnyH _ _ _ _ _ _ _ _ W1.drew
    have t3 : Lib.TabIs Tryz.prog W1.drew "internal/strconv.uint64pow10" .u64 Lib.pow10Tab := tab_below t2 (Below.refl _ W1).drew
    refine wpAnyH_take (i := 0) (v := .pointer (some ⟨b, 0, none⟩)) rfl (by kernel_rfl) (by kernel_rfl) (by kernel_rfl) (fun _ _ _ h => h) (Or.inl ⟨by rfl, fun W' hS => ?_⟩) hS0 ?_
    · clear hS
      go_simp
    simp only [Act.put]
    refine wpAnyH_take (i := 1) (v := .int .i64 (i : Int)) rfl (by kernel_rfl) (by kernel_rfl) (by kernel_rfl) (fun _ _ _ h => h) (Or.inl ⟨by rfl, fun W' hS => ?_⟩) hS0 ?_
    · have c0 := hS.cell (i := 0) rfl
      have c1 := hS.cell (i := 1) rfl
      clear hS
      go_simp
    simp only [Act.put]
    refine wpAnyH_take (i := 2) (v := .int .i64 ((i : Int) + 1)) rfl (by kernel_rfl) (by kernel_rfl) (by kernel_rfl) (fun _ _ _ h => h) (Or.inl ⟨by rfl, fun W' hS => ?_⟩) hS0 ?_
    · have hwr : IntKind.i64.wrap ((i : Int) + 1) = (i : Int) + 1 := by rw [IntKind.wrap_i64]; omega
      clear hS
      go_simp
    simp only [Act.put]
    refine wpAnyH_take (i := 4) (v := .pointer (some ⟨b, 1, none⟩)) rfl (by kernel_rfl) (by kernel_rfl) (by kernel_rfl) (fun _ _ _ h => h) (Or.inl ⟨by rfl, fun W' hS => ?_⟩) hS0 ?_
    · clear hS
      go_simp
    simp only [Act.put]
    refine wpAnyH_take (i := 5) (v := .int .i64 (j : Int)) rfl (by kernel_rfl) (by kernel_rfl) (by kernel_rfl) (fun _ _ _ h => h) (Or.inl ⟨by rfl, fun W' hS => ?_⟩) hS0 ?_
    · have c0 := hS.cell (i := 0) rfl
      have c1 := hS.cell (i := 1) rfl
      clear hS
      go_simp
    simp only [Act.put]
    refine wpAnyH_take (i := 6) (v := .int .i64 ((j : Int) + 1)) rfl (by kernel_rfl) (by kernel_rfl) (by kernel_rfl) (fun _ _ _ h => h) (Or.inl ⟨by rfl, fun W' hS => ?_⟩) hS0 ?_
    · have hwr : IntKind.i64.wrap ((j : Int) + 1) = (j : Int) + 1 := by rw [IntKind.wrap_i64]; omega
      clear hS
      go_simp
    simp only [Act.put]
    refine wpAnyH_take (i := 8) (v := .string ⟨(prL x).toArray⟩) rfl (by kernel_rfl) (by kernel_rfl) (by kernel_rfl) (fun _ _ _ h => h) (Or.inl ⟨by rfl, fun W' hS => ?_⟩) hS0 ?_
    · clear hS
      go_simp
    simp only [Act.put]
    refine wpAnyH_ready (rs := [3]) (by kernel_rfl) (by simp) ?_
    refine AllReadyH.cons rfl (fun K hKK => ?_) AllReadyH.nil
    go_simp
    refine (itoa_any _ _ (i + 1) (by simp) (by omega) t3).mono ?_
    rintro e W2 ⟨s2, rfl, hs2, b2⟩
    obtain rfl := bytes_of_list hs2
    have hS2 := hS0.belowAll b2
    have t4 := tab_below t3 b2
    refine hKK.out _ _ hS2 (fun hHeld => ?_)
    clear hKK
    refine wpAnyH_ready (rs := [7]) (by kernel_rfl) (by simp) ?_
    refine AllReadyH.cons rfl (fun K hKK => ?_) AllReadyH.nil
    go_simp
    refine (itoa_any _ _ (j + 1) (by simp) (by omega) t4).mono ?_
    rintro e W3 ⟨s3, rfl, hs3, b3⟩
    obtain rfl := bytes_of_list hs3
    have hS3 := hS2.belowAll b3
    refine hKK.out _ _ hS3 (fun hHeld => ?_)
    clear hKK
    refine wpAnyH_ready (rs := [9]) (by kernel_rfl) (by simp) ?_
    refine AllReadyH.cons rfl (fun K hKK => ?_) AllReadyH.nil
    go_simp
    refine hKK.out _ _ (hS3.alloc _) (fun hHeld => ?_)
    clear hKK
    refine wpAnyH_ready (rs := [10]) (by kernel_rfl) (by simp) ?_
    refine AllReadyH.cons rfl (fun K hKK => ?_) AllReadyH.nil
    go_simp
    refine hKK.out _ _ (hS3.alloc _) (fun hHeld => ?_)
    clear hKK
    refine wpAnyH_done (by kernel_rfl) ?_ _
    go_wp2
    go_ret
    rw [HW.out]
    refine ⟨W3.heap.size, rfl, Arr.newL _ _ _, ?_, HPR.out⟩
    have e1 : Below b w W1.drew := bW1.drew
    have e2 : W1.drew.heap.size = W1.heap.size := rfl
    exact ((e1.trans (b2.mono (by omega))).trans (b3.mono (by have := b2.size; omega))).alloc (by have := b2.size; have := b3.size; omega) _
  · have hcb : decide ((kind : Int) = 2 ∨ (kind : Int) = 3) = false := by simp; omega
    have HW : Hid (entW kind (i, j, x) = [⟨(prL x).toArray⟩]) := if_neg hc
    go_wp2_with fail
    refine (kcoord_b _ _ false hcb).mono ?_
    rintro e w1 ⟨rfl, hw1⟩
    rw [hw1]
    clear hw1 hcb
    go_wp2
    go_ret
    rw [HW.out]
    exact ⟨W1.heap.size, rfl, Arr.newL _ _ _, by rw [hb]; exact bW1.alloc (by omega) _, HPR.out⟩

end Go.Proofs.YthdcceackfdbbaaGreatDoor
namespace Go.Proofs.YthdcceackfdbbaaGreatDoor
open Go Go.RowKit Go.Shelf
attribute [local go_sem] Oper.semAt_some

theorem any_wide {P : Program} {md : Region.Mode} {ops : Array Oper} {Q : Exit → Act → World → Prop} {n : Nat} (hq : ¬ LetsOut Q) :
    ∀ (fuel : Nat) (listed : Array Bool) (a : Act) (w : World), wpAny P md ops Q fuel listed a w → wpAnyIn Fence.wide n P md ops Q fuel listed a w
  | 0, _, _, _, h => h
  | fuel + 1, listed, a, w, h => by
    refine ⟨h.1, fun i hi => ?_⟩
    have h1 := h.2 i hi
    unfold wpOp at h1
    unfold wpOpIn
    cases ho : ops[i]? with
    | none => rw [ho] at h1; exact any_wide hq fuel _ _ _ h1
    | some o =>
      rw [ho] at h1
      simp only at h1 ⊢
      split
      · rename_i hw
        rw [if_pos hw] at h1
        rcases h1 with h1 | ⟨_, h1⟩
        · refine ⟨fun _ _ => trivial, ?_⟩
          rw [show Fence.wide.round = none from rfl, Oper.semAt_none]
          unfold Oper.wp at h1
          generalize (execOp a.eval o).run P w = r at h1 ⊢
          cases r with
          | ok x w' =>
            cases x with
            | value v => exact any_wide hq fuel _ _ _ h1
            | skip => exact any_wide hq fuel _ _ _ h1
            | defer d => exact any_wide hq fuel _ _ _ h1
            | enter f args =>
              refine ⟨fun h => (by cases h), callsIn_wide.2 (h1.mono fun e w'' he => ?_)⟩
              cases e with
              | returned v => exact any_wide hq fuel _ _ _ he
              | panicked c => exact he
              | outgrown => exact he
            | row row args => exact ⟨fun h => (by cases h), rowsWide (h1.mono fun v w'' he => any_wide hq fuel _ _ _ he)⟩
            | _ => exact h1.elim
          | halt x w' => cases x <;> exact h1
        · exact absurd h1 hq
      · rename_i hw
        rw [if_neg hw] at h1
        exact ⟨fun _ _ => trivial, any_wide hq fuel _ _ _ h1⟩

theorem region_wide {P : Program} {id : Nat} {ops : Array Oper} {Q : Exit → Act → World → Prop} {n : Nat} {a : Act} {w : World} (S : World → Prop) (hm : P.follows .mixedOrders = true) (hq : ¬ LetsOut (NoPanic Q))
    (h : wpAnyH P .any ops (NoPanic Q) S ops.size (Array.replicate ops.size false) a w.drew) : (Code.region id ops true).wpIn Fence.wide n P Q a w :=
  wpIn_mono (wpIn_region_any hm (any_wide hq _ _ _ _ (wpAny_of_held _ _ _ _ h))) NoPanic.imp

/-- the words of the sizes' line -/
def sizW (kind R C n : Nat) : List ByteArray :=
  [⟨(Lib.decDigits R).toArray⟩, ⟨(Lib.decDigits C).toArray⟩] ++ (if kind = 2 ∨ kind = 3 then [⟨(Lib.decDigits n).toArray⟩] else [])

theorem ownsRow_arr {w : World} {B q n : Nat} {t : TypeId} {l : List Value} (h : Arr w q t l) (hB : B ≤ q) (hn : l.length = n) (hm : n ≤ 1000) : w.ownsRow B t 1 (.slice (some ⟨q, 0, none⟩) n n) n l := by
  subst hn
  exact ⟨by simp, .inr ⟨q, l.length, l.toArray, rfl, hB, h, Nat.le_refl _, by unfold maxLen; omega, by simp, by simp⟩⟩

theorem Tryz.infoStr : (Tryz.prog.info? 9).map (fun i => (i.zero, i.size, i.bytes)) = some (some (.string ⟨#[]⟩), 1, 16) := by kernel_rfl

set_option maxRecDepth 20000 in
set_option maxHeartbeats 4000000 in
theorem sizes_any (w : World) (kind R C g : Nat) (f : Nat → Nat → Nat) (l : List Value) (hk : kind ≤ 3) (hR : R ≤ 40) (hC : C ≤ 40) (hm : MemM C g R f w) (hg : Arr w g 65 l) (htab : Lib.TabIs Tryz.prog w "internal/strconv.uint64pow10" .u64 Lib.pow10Tab) :
    Calls Tryz.prog 109 #[matV R C g, .int .i64 (kind : Int)] w fun e w' => ∃ q cap, e = .returned (.slice (some ⟨q, 0, none⟩) (sizW kind R C (entL kind R C f).length).length cap) ∧ (sizW kind R C (entL kind R C f).length).length ≤ cap ∧ q < w'.heap.size ∧
      (∀ (j : Nat) x, (sizW kind R C (entL kind R C f).length)[j]? = some x → w'.cell? ⟨q, 0 + j, none⟩ = some (.string x)) ∧ Below w.heap.size w w' := by
  have hmix : Tryz.prog.follows .mixedOrders = true := by kernel_rfl
  obtain ⟨b, hb⟩ : ∃ b, w.heap.size = b := ⟨_, rfl⟩
  have hgb : g < b := by have := hm.1; omega
  have hRC : R * C ≤ 40 * 40 := Nat.mul_le_mul hR hC
  have hel := entL_len kind R C f
  obtain ⟨i0, hi, hz0, hz1, hz2⟩ := info_parts Tryz.infoStr
  refine callsIn_wide (n := 0) |>.1 ?_
  refine callsIn_of_wp_marks Tryz.func109 rfl trivial ?_ rfl
  simp only [Tryz.ntmps109, List.size_toArray, List.length_cons, List.length_nil, Nat.reduceAdd, Nat.reduceSub, Array.replicate_succ, Array.replicate_zero, List.push_toArray, List.append_toArray, List.nil_append, List.cons_append, matV]
  have hdep : Fence.wide.depth = none := rfl
  gi_wp2_with fail
  obtain ⟨V, hV⟩ : ∃ V, w.alloc (.cells #[.int .i64 (R : Int), .int .i64 (C : Int), .slice (some ⟨g, 0, none⟩) (R * C) (R * C)] 88) = V := ⟨_, rfl⟩
  have mV : Arr V b 88 [.int .i64 (R : Int), .int .i64 (C : Int), .slice (some ⟨g, 0, none⟩) (R * C) (R * C)] := by rw [← hV, ← hb]; exact Arr.newL w _ _
  have bV : Below b w V := by rw [← hV, ← hb]; exact Below.refl' _ _
  have zV : V.heap.size = b + 1 := by rw [← hV]; simp [hb]
  have tV : Lib.TabIs Tryz.prog V.drew "internal/strconv.uint64pow10" .u64 Lib.pow10Tab := by rw [← hV]; exact tab_below htab (Below.refl' _ _).drew
  rw [hV]
  have HT := hid htab
  clear hV htab
  have hS0 : Arr V.drew b 88 [.int .i64 (R : Int), .int .i64 (C : Int), .slice (some ⟨g, 0, none⟩) (R * C) (R * C)] := mV.drew
  refine region_wide (fun W' => Arr W' b 88 [.int .i64 (R : Int), .int .i64 (C : Int), .slice (some ⟨g, 0, none⟩) (R * C) (R * C)]) hmix (by rintro ⟨a, w, q, cap, h, _⟩; cases h) ?_
  refine wpAnyH_take (i := 0) (v := .pointer (some ⟨b, 0, none⟩)) rfl (by kernel_rfl) (by kernel_rfl) (by kernel_rfl) (fun _ _ _ h => h) (Or.inl ⟨by rfl, fun W' hS => ?_⟩) hS0 ?_
  · clear hS
    go_simp
  simp only [Act.put]
  refine wpAnyH_take (i := 1) (v := .int .i64 (R : Int)) rfl (by kernel_rfl) (by kernel_rfl) (by kernel_rfl) (fun _ _ _ h => h) (Or.inl ⟨by rfl, fun W' hS => ?_⟩) hS0 ?_
  · have c0 := hS.cell (i := 0) rfl
    have c1 := hS.cell (i := 1) rfl
    have c2 := hS.cell (i := 2) rfl
    clear hS
    go_simp
  simp only [Act.put]
  refine wpAnyH_take (i := 3) (v := .pointer (some ⟨b, 1, none⟩)) rfl (by kernel_rfl) (by kernel_rfl) (by kernel_rfl) (fun _ _ _ h => h) (Or.inl ⟨by rfl, fun W' hS => ?_⟩) hS0 ?_
  · clear hS
    go_simp
  simp only [Act.put]
  refine wpAnyH_take (i := 4) (v := .int .i64 (C : Int)) rfl (by kernel_rfl) (by kernel_rfl) (by kernel_rfl) (fun _ _ _ h => h) (Or.inl ⟨by rfl, fun W' hS => ?_⟩) hS0 ?_
  · have c0 := hS.cell (i := 0) rfl
    have c1 := hS.cell (i := 1) rfl
    have c2 := hS.cell (i := 2) rfl
    clear hS
    go_simp
  simp only [Act.put]
  refine wpAnyH_ready (rs := [2]) (by kernel_rfl) (by simp) ?_
  refine AllReadyH.cons rfl (fun K hKK => ?_) AllReadyH.nil
  go_simp
  refine (itoa_any _ _ R rfl (by omega) tV).mono ?_
  rintro e W2 ⟨s2, rfl, hs2, b2⟩
  obtain rfl := bytes_of_list hs2
  have hS2 := hS0.belowAll b2
  have t2 := tab_below tV b2
  refine hKK.out _ _ hS2 (fun hHeld => ?_)
  clear hKK
  refine wpAnyH_ready (rs := [5]) (by kernel_rfl) (by simp) ?_
  refine AllReadyH.cons rfl (fun K hKK => ?_) AllReadyH.nil
  go_simp
  refine (itoa_any _ _ C rfl (by omega) t2).mono ?_
  rintro e W3 ⟨s3, rfl, hs3, b3⟩
  obtain rfl := bytes_of_list hs3
  have hS3 := hS2.belowAll b3
  have t3 := tab_below t2 b3
  refine hKK.out _ _ hS3 (fun hHeld => ?_)
  clear hKK
  refine wpAnyH_ready (rs := [6]) (by kernel_rfl) (by simp) ?_
  refine AllReadyH.cons rfl (fun K hKK => ?_) AllReadyH.nil
  go_simp
  have hS4 := hS3.alloc (.cells #[.string ⟨(Lib.decDigits R).toArray⟩, .string ⟨(Lib.decDigits C).toArray⟩] 9)
  refine hKK.out _ _ hS4 (fun hHeld => ?_)
  clear hKK
  refine wpAnyH_ready (rs := [7]) (by kernel_rfl) (by simp) ?_
  refine AllReadyH.cons rfl (fun K hKK => ?_) AllReadyH.nil
  go_simp
  refine hKK.out _ _ hS4 (fun hHeld => ?_)
  clear hKK
  refine wpAnyH_done (by kernel_rfl) ?_ _
  refine NoPanic.normal ?_
  have eD : V.drew.heap.size = V.heap.size := rfl
  have q4 : Arr (W3.alloc (.cells #[.string ⟨(Lib.decDigits R).toArray⟩, .string ⟨(Lib.decDigits C).toArray⟩] 9)) W3.heap.size 9 [.string ⟨(Lib.decDigits R).toArray⟩, .string ⟨(Lib.decDigits C).toArray⟩] := Arr.newL _ _ _
  have b4 : Below b w (W3.alloc (.cells #[.string ⟨(Lib.decDigits R).toArray⟩, .string ⟨(Lib.decDigits C).toArray⟩] 9)) := ((bV.drew.trans (b2.mono (by omega))).trans (b3.mono (by have := b2.size; omega))).alloc (by have := b2.size; have := b3.size; omega) _
  have t4 := tab_below t3 (Below.refl' W3 (.cells #[.string ⟨(Lib.decDigits R).toArray⟩, .string ⟨(Lib.decDigits C).toArray⟩] 9))
  have z4 : W3.heap.size + 1 = (W3.alloc (.cells #[.string ⟨(Lib.decDigits R).toArray⟩, .string ⟨(Lib.decDigits C).toArray⟩] 9)).heap.size := by simp
  have z3 : b + 1 ≤ W3.heap.size := by have := b2.size; have := b3.size; omega
  generalize W3.alloc (.cells #[.string ⟨(Lib.decDigits R).toArray⟩, .string ⟨(Lib.decDigits C).toArray⟩] 9) = W4 at *
  clear hS0 hS2 tV t2 t3 hS3 hHeld
  obtain ⟨d, hd⟩ : ∃ d, W4.heap.size = d := ⟨_, rfl⟩
  obtain ⟨q3, hq3⟩ : ∃ q3, W3.heap.size = q3 := ⟨_, rfl⟩
  rw [hd, hq3] at z4
  rw [hq3] at z3 q4 ⊢
  have HZ : Hid (q3 + 1 = d ∧ b + 1 ≤ q3) := ⟨z4, z3⟩
  clear z4 z3 hq3
  have hfk : Fence.wide.fn 145 := trivial
  by_cases hc : kind = 2 ∨ kind = 3
  · have hcb : decide ((kind : Int) = 2 ∨ (kind : Int) = 3) = true := by simp; omega
    gi_wp2_with fail
    refine (callsIn_wide (n := 0).2 (kcoord_b _ _ true hcb)).mono ?_
    rintro e w1 ⟨rfl, hw1⟩
    rw [hw1]
    clear hw1 hcb
    have hfe : Fence.wide.fn 110 := trivial
    have hfi : Fence.wide.fn 146 := trivial
    have c0 := fun o => (hS4.alloc o).cell (i := 0) rfl
    have c1 := fun o => (hS4.alloc o).cell (i := 1) rfl
    have c2 := fun o => (hS4.alloc o).cell (i := 2) rfl
    gi_wp2_with fail
    have aV : Arr (W4.alloc (.cells #[.int .i64 0] 3)) (d) 3 [.int .i64 0] := by rw [← hd]; exact Arr.newL _ _ _
    have qV := q4.alloc (.cells #[.int .i64 0] 3)
    have bV5 : Below b w (W4.alloc (.cells #[.int .i64 0] 3)) := b4.alloc (by have := HZ.out; omega) _
    have tV5 := tab_below t4 (Below.refl' W4 (.cells #[.int .i64 0] 3))
    have zV5 : (W4.alloc (.cells #[.int .i64 0] 3)).heap.size = d + 1 := by simp [hd]
    clear c0 c1 c2
    generalize W4.alloc (.cells #[.int .i64 0] 3) = V5 at *
    have HE := hid (callsIn_wide (n := 0).2 (entries_any V5 kind R C g f (by omega) hR hC))
    unfold matV at HE
    refine HE.out.mono ?_
    rintro e W0 ⟨gf, fst, lb, rfl, Mem, eg, hgv, hmm, hty, hbe⟩
    have a1 : Arr W0 (d) 3 [.int .i64 0] := aV.belowAll hbe
    have q1 := qV.belowAll hbe
    have b1 : Below b w W0 := bV5.trans (hbe.mono (by have := HZ.out; omega))
    have g1 : Arr W0 g 65 l := hg.below b1 hgb
    have m1 : MemM C g R f W0 := hm.below b1 hgb
    have tW0 := tab_below tV5 hbe
    have z1 : d + 1 ≤ W0.heap.size := by have := hbe.size; omega
    clear HE aV qV
    gi_wp2_with fail
    refine range_gives 0 (gf := gf) (fst := fst) (lb := lb) rfl eg hgv (by intro x hx; obtain ⟨y, _, rfl⟩ := List.mem_map.1 hx; rfl)
      (fun k W => Arr W (d) 3 [.int .i64 (k : Int)] ∧ Lib.OthersKept 5 (some (d)) W0 W ∧ Below (d) W0 W ∧ W0.heap.size ≤ W.heap.size ∧ k ≤ (entL kind R C f).length)
      (fun _ _ => False)
      (fun x a' _ => ∃ y : Nat × Nat × Nat, x = entV y ∧ a' = { tmps := #[.agg #[.int .i64 (R : Int), .int .i64 (C : Int), .slice (some ⟨g, 0, none⟩) (R * C) (R * C)], .int .i64 (kind : Int), .pointer (some ⟨b, 0, none⟩), undef, .slice none 0 0, .slice (some ⟨q3, 0, none⟩) 2 2, .pointer (some ⟨d, 0, none⟩), .pointer (some ⟨b, 0, none⟩), .int .i64 (R : Int), .string ⟨(Lib.decDigits R).toArray⟩, .pointer (some ⟨b, 1, none⟩), .int .i64 (C : Int), .string ⟨(Lib.decDigits C).toArray⟩, .slice (some ⟨q3, 0, none⟩) 2 2, .int .i64 (kind : Int), .bool true, .bool false, undef, .agg #[.int .i64 (R : Int), .int .i64 (C : Int), .slice (some ⟨g, 0, none⟩) (R * C) (R * C)], .int .i64 (kind : Int), .func (.func gf) fst lb, plcV y.1 y.2.1, .int .u64 (y.2.2 : Int), undef, undef, undef, undef, undef, undef, undef], defers := [] })
      ?hMem ?hI ?hIx ?hAx ?h0 ?assign ?body ?done ?stop
    case hMem =>
      rintro k W ⟨h1, h3, h4, h5, _⟩
      refine hmm W (m1.others h3 g1 (fun e => by have := HZ.out; cases e; omega) h5) (fun q hq1 hq2 => ?_)
      obtain ⟨o, ho, hno⟩ := hty q hq1 hq2
      exact (h3 q o ho (fun e => by cases e; omega) hno).trans ho.symm
    case hI => rintro k A B ⟨h1, h3, h4, h5, h6⟩ s; exact ⟨h1.sim s, others_sim h3 s, h4.trans (Below.ofSim s (by omega) (by omega)), Nat.le_trans h5 s.size, h6⟩
    case hIx => exact fun c A B h s => h
    case hAx => exact fun x a' A B h s => h
    case h0 => exact ⟨a1, Lib.OthersKept.refl _ _ _, Below.refl _ _, Nat.le_refl _, by omega⟩
    case assign =>
      intro l1 k x W1 K hx hi hK
      obtain ⟨y, hy, rfl⟩ := map_get hx
      have HK : Hid _ := hid (hK { tmps := #[.agg #[.int .i64 (R : Int), .int .i64 (C : Int), .slice (some ⟨g, 0, none⟩) (R * C) (R * C)], .int .i64 (kind : Int), .pointer (some ⟨b, 0, none⟩), undef, .slice none 0 0, .slice (some ⟨q3, 0, none⟩) 2 2, .pointer (some ⟨d, 0, none⟩), .pointer (some ⟨b, 0, none⟩), .int .i64 (R : Int), .string ⟨(Lib.decDigits R).toArray⟩, .pointer (some ⟨b, 1, none⟩), .int .i64 (C : Int), .string ⟨(Lib.decDigits C).toArray⟩, .slice (some ⟨q3, 0, none⟩) 2 2, .int .i64 (kind : Int), .bool true, .bool false, undef, .agg #[.int .i64 (R : Int), .int .i64 (C : Int), .slice (some ⟨g, 0, none⟩) (R * C) (R * C)], .int .i64 (kind : Int), .func (.func gf) fst lb, plcV y.1 y.2.1, .int .u64 (y.2.2 : Int), undef, undef, undef, undef, undef, undef, undef], defers := [] } W1
        (KeptFrom.refl _ _) hi ⟨y, rfl, rfl⟩)
      clear hK hi hx hy
      unfold entV plcV
      unfold plcV at HK
      gi_wp2
      simpa using HK.out
    case body =>
      rintro l1 k x a' W1 hx ⟨h1, h3, h4, h5, h6⟩ ⟨y, rfl, rfl⟩
      obtain ⟨y', hy, hye⟩ := map_get hx
      have hkl : k < (entL kind R C f).length := (List.getElem?_eq_some_iff.1 hy).1
      have c1 := h1.cell (i := 0) rfl
      have c2 := h1.frozen 0
      unfold plcV
      clear hx hye hy
      gi_wp2
      refine ⟨KeptFrom.set (by omega) _, by have := h1.set 0 (.int .i64 ((k : Int) + 1)); simpa using this, h3.setCell _ rfl _, h4.setCell (p := ⟨d, 0, none⟩) (Nat.le_refl _) _, by simp [World.setCell]; omega, by omega⟩
    case done =>
      rintro D W1 hD ⟨h1, h3, h4, h5, h6⟩ hK
      rw [List.length_map] at h1
      have c1 := h1.cell (i := 0) rfl
      have bW1 : Below b w W1 := b1.trans (h4.mono (by have := HZ.out; omega))
      have tW1 : Lib.TabIs Tryz.prog W1 "internal/strconv.uint64pow10" .u64 Lib.pow10Tab := tab_below HT.out (hb ▸ bW1)
      have q5 : Arr W1 q3 9 [.string ⟨(Lib.decDigits R).toArray⟩, .string ⟨(Lib.decDigits C).toArray⟩] := q1.below h4 (by have := HZ.out; omega)
      obtain ⟨N, hN⟩ : ∃ N, (entL kind R C f).length = N := ⟨_, rfl⟩
      have HW : Hid (sizW kind R C (entL kind R C f).length = [⟨(Lib.decDigits R).toArray⟩, ⟨(Lib.decDigits C).toArray⟩, ⟨(Lib.decDigits N).toArray⟩]) := by show _ = _; rw [hN]; unfold sizW; rw [if_pos hc]; rfl
      rw [hN] at h1 c1 hel
      clear hN
      gi_wp2_with fail
      refine (callsIn_wide (n := 0).2 (itoa_any _ _ N rfl (by omega) tW1)).mono ?_
      rintro e W2 ⟨s2, rfl, hs2, b2⟩
      obtain rfl := bytes_of_list hs2
      have q6 := q5.belowAll b2
      have hK2 : W2.heap[D]? = some (.deferred (some [])) := (b2.block D (Array.getElem?_eq_some_iff.1 hK).1).trans hK
      have bW2 : Below b w W2 := bW1.trans (b2.mono (by have := h4.size; have := HZ.out; omega))
      have zW2 : d + 1 ≤ W2.heap.size := by have := b2.size; omega
      have hDlt : D < W2.heap.size := (Array.getElem?_eq_some_iff.1 hK2).1
      have row6 : (W2.alloc (.cells #[.string ⟨(Lib.decDigits N).toArray⟩] 9)).ownsRow b 9 1 (.slice (some ⟨q3, 0, none⟩) 2 2) 2 [.string ⟨(Lib.decDigits R).toArray⟩, .string ⟨(Lib.decDigits C).toArray⟩] := ownsRow_arr (q6.alloc _) (by have := HZ.out; omega) rfl (by omega)
      gi_wp2_with (gi_at_builtin; refine wpListIn_append_own _ rfl _ _ 31 rfl b 9 i0 (.string ⟨#[]⟩) 1 16 Tryz.underlying31 hi hz0 hz1 hz2 rfl (by decide) _ _ _ rfl row6 ⟨W2.heap.size, 0, none⟩ 1 1 [.string ⟨(Lib.decDigits N).toArray⟩] rfl rfl ?c1 ?c2 ?c3 ?c4 ?c5 ?_)
      case c1 => exact cell_one_new _ _ _
      case c2 => intro u hu; simp at hu; subst hu; rfl
      case c3 => unfold maxLen; omega
      case c4 => omega
      case c5 => simp; have := HZ.out; omega
      · intro v7 W7 r7 g7 _
        obtain ⟨g', cap', rfl⟩ := ownsRow_succ r7
        have hK7 : W7.heap[D]? = some (.deferred (some [])) := (g7.block D (by simp; omega) (fun e => by cases e; rw [show W2.heap[q3]? = _ from q6] at hK2; cases hK2)).trans ((Below.heap_alloc _ _ _ hDlt).trans hK2)
        have b7 : Below b w W7 := (bW2.alloc (by have := HZ.out; omega) _).grown g7 (by simp; have := HZ.out; omega) (fun q hq => Nat.le_trans (by have := HZ.out; omega) (Nat.le_of_eq (show q3 = q by simpa [Value.ownBlock] using hq)))
        obtain ⟨_, ⟨hx, _⟩ | ⟨g2, cap2, cur, hx, _, hg2, hle7, _, _, htk⟩⟩ := r7
        · cases hx
        cases hx
        gi_wp2
        refine ⟨by simp, .inl ⟨_, _, rfl, run_takeDeferred hK7, ?_⟩⟩
        refine ⟨_, results_tmp rfl _ _ _, ?_⟩
        rw [HW.out]
        have s7 : Sim b W7 (W7.putObj D (.deferred none)) := Sim.putObj _ (by have := HZ.out; omega) hK7 rfl
        have hg7 := s7.block _ _ hg2 (.inr rfl)
        refine ⟨g', cap', rfl, by simpa using hle7, (Array.getElem?_eq_some_iff.1 hg7).1, fun j x hx => ?_, by rw [hb]; exact b7.trans ⟨rfl, rfl, rfl, by simp [World.putObj], fun q hq => World.putObj_heap_other (by have := HZ.out; omega)⟩⟩
        rw [Nat.zero_add]
        have hx2 := congrArg (Option.map Value.string) hx
        rw [← List.getElem?_map] at hx2
        have hj3 : j < 3 := by have := (List.getElem?_eq_some_iff.1 hx).1; simpa using this
        have h7 : (cur.toList.take ((2 + 1) * 1))[j]? = some (.string x) := by rw [htk]; exact hx2
        rw [List.getElem?_take, if_pos (by omega)] at h7
        simp only [World.cell?, hg7]
        simpa using h7
    case stop => exact fun _ _ _ _ h => h.elim
  · have hcb : decide ((kind : Int) = 2 ∨ (kind : Int) = 3) = false := by simp; omega
    have HW : Hid (sizW kind R C (entL kind R C f).length = [⟨(Lib.decDigits R).toArray⟩, ⟨(Lib.decDigits C).toArray⟩]) := by show _ = _; unfold sizW; rw [if_neg hc]; rfl
    gi_wp2_with fail
    refine (callsIn_wide (n := 0).2 (kcoord_b _ _ false hcb)).mono ?_
    rintro e w1 ⟨rfl, hw1⟩
    rw [hw1]
    clear hw1 hcb
    gi_wp2
    refine ⟨_, results_tmp rfl _ _ _, ?_⟩
    rw [HW.out]
    refine ⟨q3, 2, rfl, by simp, by have := HZ.out; omega, fun j x hx => ?_, by rw [hb]; exact b4⟩
    rw [Nat.zero_add]
    refine q4.cell ?_
    have := congrArg (Option.map Value.string) hx
    rw [← List.getElem?_map] at this
    exact this

end Go.Proofs.YthdcceackfdbbaaGreatDoor
