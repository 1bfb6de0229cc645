import Derived.Test.YthdcceackfdbbaaGreatDoorM09K
import Derived.Test.YthdcceackfdbbaaGreatDoorM10K
import Derived.Test.YthdcceackfdbbaaGreatDoorShelf
import Derived.Test.YthdcceackfdbbaaGreatDoorM00K
import Derived.WalkKit
import Derived.Lib.OthersKept
import Derived.Laws.BitsAllLaws
namespace Go.Proofs.YthdcceackfdbbaaGreatDoor
open Go Go.RowKit

/-- bytes as cells -/
def u8s (l : List UInt8) : List Value := l.map fun x => Value.int .u8 (x.toNat : Int)

/-- a row of bytes of one's own -/
structure OwnU (w : World) (B : Nat) (v : Value) (l : List UInt8) : Prop where
  row : w.ownsRow B 5 1 v l.length (u8s l)

theorem Tryz.infoU8 : (Tryz.prog.info? 5).map (fun i => (i.zero, i.size, i.bytes)) = some (some (.int .u8 0), 1, 1) := by kernel_rfl

theorem u8s_snoc (l : List UInt8) (x : UInt8) : u8s (l ++ [x]) = u8s l ++ [.int .u8 (x.toNat : Int)] := by simp [u8s]

theorem OwnU.kind {w : World} {B : Nat} {v : Value} {l : List UInt8} (h : OwnU w B v l) : ∀ g, v.ownBlock = some g → ∃ c fz, w.heap[g]? = some (.cells c 5 fz) := by
  intro g hg
  obtain ⟨_, h1 | ⟨g', cap, cur, rfl, _, h2, _⟩⟩ := h.row
  · rw [h1.1] at hg; cases hg
  · cases hg; exact ⟨_, _, h2⟩

theorem byteN (x i : Nat) : ((x : Int) / 2 ^ (8 * i)) % 256 = (((UInt8.ofNat (x / 256 ^ i % 256)).toNat : Nat) : Int) := by
  have h1 : (UInt8.ofNat (x / 256 ^ i % 256)).toNat = x / 256 ^ i % 256 := by simp
  rw [h1, show ((2 : Int) ^ (8 * i)) = (((2 ^ (8 * i) : Nat)) : Int) by simp, Nat.pow_mul, show (2 : Nat) ^ 8 = 256 from rfl]
  omega

theorem size64 (w : World) : Calls Tryz.prog 176 #[] w fun e w' => e = .returned (.int .i64 8) ∧ w' = w := by
  have hm : bits BinOp.xor IntKind.u64 IntKind.u64.max 0 = 18446744073709551615 := by kernel_rfl
  have hl : Lib.bitLen 18446744073709551615 = 64 := by decide
  go_enter Tryz.func176, Tryz.ntmps176
  go_wp2_with fail
  refine (Tryz.bits_Len64 18446744073709551615 _ (by omega) (by omega)).mono ?_
  rintro e w1 ⟨rfl, rfl⟩
  go_wp2
  go_ret
  exact ⟨by simp, rfl⟩

set_option maxRecDepth 20000 in
set_option maxHeartbeats 1000000 in
theorem append64 (w : World) (B : Nat) (v : Value) (l : List UInt8) (x : Nat) (h : OwnU w B v l) (hB : B ≤ w.heap.size) (hl : l.length ≤ 100000) :
    Calls Tryz.prog 141 #[v, .int .u64 (x : Int)] w fun e w' => ∃ v', e = .returned v' ∧ OwnU w' B v' (l ++ lowL x 8) ∧ Below B w w' ∧ Lib.OthersKept 5 Option.none w w' := by
  obtain ⟨i0, hi, hz0, hz1, hz2⟩ := info_parts Tryz.infoU8
  go_enter Tryz.func141, Tryz.ntmps141
  go_wp2_with fail
  refine (size64 _).mono ?_
  rintro e w1 ⟨rfl, hw1⟩
  rw [hw1]
  clear hw1
  go_wp2
  go_loopw [0, 7] (fun vv vi wr => ∃ k : Nat, vi = .int .i64 (k : Int) ∧ k ≤ 8 ∧ OwnU wr B vv (l ++ lowL x k) ∧ Below B w wr ∧ Lib.OthersKept 5 Option.none w wr) (fun _ vi _ => 8 - (intOf vi).toNat)
  case atStart => exact ⟨0, rfl, by omega, by simpa [lowL] using h, Below.refl _ _, Lib.OthersKept.refl _ _ _⟩
  case round =>
    clear h
    obtain ⟨k, rfl, hk, hown, hbel, hok⟩ := hrel
    by_cases hlt : k < 8
    · have hlt' : (k : Int) < 8 := by omega
      have hsz := hbel.size
      have hll : (l ++ lowL x k).length = l.length + k := by simp [lowL_len]
      have HB := hid (byteN x k)
      go_wp2_with (at_builtin; refine wpList_append_own _ rfl _ _ 72 rfl B 5 i0 (.int .u8 0) 1 1 Tryz.underlying72 hi hz0 hz1 hz2 rfl (by decide) _ _ _ rfl (hown.row.alloc _) ⟨wr.heap.size, 0, none⟩ 1 1 [.int .u8 ((x : Int) / 2 ^ (8 * k) % 256)] rfl rfl ?c1 ?c2 ?c3 ?c4 ?c5 ?_)
      case c1 => exact cell_one_new _ _ _
      case c2 => intro u hu; simp at hu; subst hu; rfl
      case c3 => unfold maxLen; omega
      case c4 => omega
      case c5 => simp; omega
      · intro v' w1 hown' hgrow hnil
        have hr : OwnU w1 B v' (l ++ lowL x (k + 1)) := by
          refine ⟨?_⟩
          rw [HB.out] at hown'
          have e1 : u8s (l ++ lowL x (k + 1)) = u8s (l ++ lowL x k) ++ [.int .u8 ((UInt8.ofNat (x / 256 ^ k % 256)).toNat : Int)] := by simp [lowL, u8s]
          have e2 : (l ++ lowL x (k + 1)).length = (l ++ lowL x k).length + 1 := by simp [lowL_len]; omega
          rw [e1, e2, hll]; exact hown'
        have hb : Below B w w1 := (hbel.alloc (by omega) _).grown hgrow (by simp; omega) (fun q hq => (hown.row.lt q hq).1)
        have hk1 : Lib.OthersKept 5 Option.none w w1 := (hok.alloc _).grown hgrow (fun g hg => by
          obtain ⟨c, fz, h2⟩ := hown.kind g hg
          exact ⟨c, fz, (Below.heap_alloc _ _ _ (Array.getElem?_eq_some_iff.1 h2).1).trans h2⟩)
        clear hown' hgrow hown hbel hok hnil HB
        go_wp2
        go_roundw
        case rel => exact ⟨k + 1, by simp, by omega, hr, hb, hk1⟩
        case measure => simp [intOf]; omega
    · have hlt' : ¬ (k : Int) < 8 := by omega
      obtain rfl : k = 8 := by omega
      go_wp2
      go_ret
      exact ⟨_, rfl, hown, hbel, hok⟩

theorem size32 (w : World) : Calls Tryz.prog 172 #[] w fun e w' => e = .returned (.int .i64 4) ∧ w' = w := by
  have hm : bits BinOp.xor IntKind.u32 IntKind.u32.max 0 = 4294967295 := by kernel_rfl
  have hl : Lib.bitLen 4294967295 = 32 := by decide
  go_enter Tryz.func172, Tryz.ntmps172
  go_wp2_with fail
  refine (Tryz.bits_Len64 4294967295 _ (by omega) (by omega)).mono ?_
  rintro e w1 ⟨rfl, rfl⟩
  go_wp2
  go_ret
  exact ⟨by simp, rfl⟩

set_option maxRecDepth 20000 in
set_option maxHeartbeats 1000000 in
theorem append32 (w : World) (B : Nat) (v : Value) (l : List UInt8) (x : Nat) (h : OwnU w B v l) (hB : B ≤ w.heap.size) (hl : l.length ≤ 100000) (hx : x ≤ 4294967295) :
    Calls Tryz.prog 137 #[v, .int .u32 (x : Int)] w fun e w' => ∃ v', e = .returned v' ∧ OwnU w' B v' (l ++ lowL x 4) ∧ Below B w w' ∧ Lib.OthersKept 5 Option.none w w' := by
  obtain ⟨i0, hi, hz0, hz1, hz2⟩ := info_parts Tryz.infoU8
  go_enter Tryz.func137, Tryz.ntmps137
  go_wp2_with fail
  refine (size32 _).mono ?_
  rintro e w1 ⟨rfl, hw1⟩
  rw [hw1]
  clear hw1
  go_wp2
  go_loopw [0, 7] (fun vv vi wr => ∃ k : Nat, vi = .int .i64 (k : Int) ∧ k ≤ 4 ∧ OwnU wr B vv (l ++ lowL x k) ∧ Below B w wr ∧ Lib.OthersKept 5 Option.none w wr) (fun _ vi _ => 4 - (intOf vi).toNat)
  case atStart => exact ⟨0, rfl, by omega, by simpa [lowL] using h, Below.refl _ _, Lib.OthersKept.refl _ _ _⟩
  case round =>
    clear h
    obtain ⟨k, rfl, hk, hown, hbel, hok⟩ := hrel
    by_cases hlt : k < 4
    · have hlt' : (k : Int) < 4 := by omega
      have hsz := hbel.size
      have hll : (l ++ lowL x k).length = l.length + k := by simp [lowL_len]
      have HB := hid (byteN x k)
      go_wp2_with (at_builtin; refine wpList_append_own _ rfl _ _ 72 rfl B 5 i0 (.int .u8 0) 1 1 Tryz.underlying72 hi hz0 hz1 hz2 rfl (by decide) _ _ _ rfl (hown.row.alloc _) ⟨wr.heap.size, 0, none⟩ 1 1 [.int .u8 ((x : Int) / 2 ^ (8 * k) % 256)] rfl rfl ?c1 ?c2 ?c3 ?c4 ?c5 ?_)
      case c1 => exact cell_one_new _ _ _
      case c2 => intro u hu; simp at hu; subst hu; rfl
      case c3 => unfold maxLen; omega
      case c4 => omega
      case c5 => simp; omega
      · intro v' w1 hown' hgrow hnil
        have hr : OwnU w1 B v' (l ++ lowL x (k + 1)) := by
          refine ⟨?_⟩
          rw [HB.out] at hown'
          have e1 : u8s (l ++ lowL x (k + 1)) = u8s (l ++ lowL x k) ++ [.int .u8 ((UInt8.ofNat (x / 256 ^ k % 256)).toNat : Int)] := by simp [lowL, u8s]
          have e2 : (l ++ lowL x (k + 1)).length = (l ++ lowL x k).length + 1 := by simp [lowL_len]; omega
          rw [e1, e2, hll]; exact hown'
        have hb : Below B w w1 := (hbel.alloc (by omega) _).grown hgrow (by simp; omega) (fun q hq => (hown.row.lt q hq).1)
        have hk1 : Lib.OthersKept 5 Option.none w w1 := (hok.alloc _).grown hgrow (fun g hg => by
          obtain ⟨c, fz, h2⟩ := hown.kind g hg
          exact ⟨c, fz, (Below.heap_alloc _ _ _ (Array.getElem?_eq_some_iff.1 h2).1).trans h2⟩)
        clear hown' hgrow hown hbel hok hnil HB
        go_wp2
        go_roundw
        case rel => exact ⟨k + 1, by simp, by omega, hr, hb, hk1⟩
        case measure => simp [intOf]; omega
    · have hlt' : ¬ (k : Int) < 4 := by omega
      obtain rfl : k = 4 := by omega
      go_wp2
      go_ret
      exact ⟨_, rfl, hown, hbel, hok⟩

theorem size16 (w : World) : Calls Tryz.prog 175 #[] w fun e w' => e = .returned (.int .i64 2) ∧ w' = w := by
  have hm : bits BinOp.xor IntKind.u16 IntKind.u16.max 0 = 65535 := by kernel_rfl
  have hl : Lib.bitLen 65535 = 16 := by decide
  go_enter Tryz.func175, Tryz.ntmps175
  go_wp2_with fail
  refine (Tryz.bits_Len64 65535 _ (by omega) (by omega)).mono ?_
  rintro e w1 ⟨rfl, rfl⟩
  go_wp2
  go_ret
  exact ⟨by simp, rfl⟩

set_option maxRecDepth 20000 in
set_option maxHeartbeats 1000000 in
theorem append16 (w : World) (B : Nat) (v : Value) (l : List UInt8) (x : Nat) (h : OwnU w B v l) (hB : B ≤ w.heap.size) (hl : l.length ≤ 100000) (hx : x ≤ 65535) :
    Calls Tryz.prog 140 #[v, .int .u16 (x : Int)] w fun e w' => ∃ v', e = .returned v' ∧ OwnU w' B v' (l ++ lowL x 2) ∧ Below B w w' ∧ Lib.OthersKept 5 Option.none w w' := by
  obtain ⟨i0, hi, hz0, hz1, hz2⟩ := info_parts Tryz.infoU8
  go_enter Tryz.func140, Tryz.ntmps140
  go_wp2_with fail
  refine (size16 _).mono ?_
  rintro e w1 ⟨rfl, hw1⟩
  rw [hw1]
  clear hw1
  go_wp2
  go_loopw [0, 7] (fun vv vi wr => ∃ k : Nat, vi = .int .i64 (k : Int) ∧ k ≤ 2 ∧ OwnU wr B vv (l ++ lowL x k) ∧ Below B w wr ∧ Lib.OthersKept 5 Option.none w wr) (fun _ vi _ => 2 - (intOf vi).toNat)
  case atStart => exact ⟨0, rfl, by omega, by simpa [lowL] using h, Below.refl _ _, Lib.OthersKept.refl _ _ _⟩
  case round =>
    clear h
    obtain ⟨k, rfl, hk, hown, hbel, hok⟩ := hrel
    by_cases hlt : k < 2
    · have hlt' : (k : Int) < 2 := by omega
      have hsz := hbel.size
      have hll : (l ++ lowL x k).length = l.length + k := by simp [lowL_len]
      have HB := hid (byteN x k)
      go_wp2_with (at_builtin; refine wpList_append_own _ rfl _ _ 72 rfl B 5 i0 (.int .u8 0) 1 1 Tryz.underlying72 hi hz0 hz1 hz2 rfl (by decide) _ _ _ rfl (hown.row.alloc _) ⟨wr.heap.size, 0, none⟩ 1 1 [.int .u8 ((x : Int) / 2 ^ (8 * k) % 256)] rfl rfl ?c1 ?c2 ?c3 ?c4 ?c5 ?_)
      case c1 => exact cell_one_new _ _ _
      case c2 => intro u hu; simp at hu; subst hu; rfl
      case c3 => unfold maxLen; omega
      case c4 => omega
      case c5 => simp; omega
      · intro v' w1 hown' hgrow hnil
        have hr : OwnU w1 B v' (l ++ lowL x (k + 1)) := by
          refine ⟨?_⟩
          rw [HB.out] at hown'
          have e1 : u8s (l ++ lowL x (k + 1)) = u8s (l ++ lowL x k) ++ [.int .u8 ((UInt8.ofNat (x / 256 ^ k % 256)).toNat : Int)] := by simp [lowL, u8s]
          have e2 : (l ++ lowL x (k + 1)).length = (l ++ lowL x k).length + 1 := by simp [lowL_len]; omega
          rw [e1, e2, hll]; exact hown'
        have hb : Below B w w1 := (hbel.alloc (by omega) _).grown hgrow (by simp; omega) (fun q hq => (hown.row.lt q hq).1)
        have hk1 : Lib.OthersKept 5 Option.none w w1 := (hok.alloc _).grown hgrow (fun g hg => by
          obtain ⟨c, fz, h2⟩ := hown.kind g hg
          exact ⟨c, fz, (Below.heap_alloc _ _ _ (Array.getElem?_eq_some_iff.1 h2).1).trans h2⟩)
        clear hown' hgrow hown hbel hok hnil HB
        go_wp2
        go_roundw
        case rel => exact ⟨k + 1, by simp, by omega, hr, hb, hk1⟩
        case measure => simp [intOf]; omega
    · have hlt' : ¬ (k : Int) < 2 := by omega
      obtain rfl : k = 2 := by omega
      go_wp2
      go_ret
      exact ⟨_, rfl, hown, hbel, hok⟩

theorem size8 (w : World) : Calls Tryz.prog 174 #[] w fun e w' => e = .returned (.int .i64 1) ∧ w' = w := by
  have hm : bits BinOp.xor IntKind.u8 IntKind.u8.max 0 = 255 := by kernel_rfl
  have hl : Lib.bitLen 255 = 8 := by decide
  go_enter Tryz.func174, Tryz.ntmps174
  go_wp2_with fail
  refine (Tryz.bits_Len64 255 _ (by omega) (by omega)).mono ?_
  rintro e w1 ⟨rfl, rfl⟩
  go_wp2
  go_ret
  exact ⟨by simp, rfl⟩

set_option maxRecDepth 20000 in
set_option maxHeartbeats 1000000 in
theorem append8 (w : World) (B : Nat) (v : Value) (l : List UInt8) (x : Nat) (h : OwnU w B v l) (hB : B ≤ w.heap.size) (hl : l.length ≤ 100000) (hx : x ≤ 255) :
    Calls Tryz.prog 139 #[v, .int .u8 (x : Int)] w fun e w' => ∃ v', e = .returned v' ∧ OwnU w' B v' (l ++ lowL x 1) ∧ Below B w w' ∧ Lib.OthersKept 5 Option.none w w' := by
  obtain ⟨i0, hi, hz0, hz1, hz2⟩ := info_parts Tryz.infoU8
  go_enter Tryz.func139, Tryz.ntmps139
  go_wp2_with fail
  refine (size8 _).mono ?_
  rintro e w1 ⟨rfl, hw1⟩
  rw [hw1]
  clear hw1
  go_wp2
  go_loopw [0, 7] (fun vv vi wr => ∃ k : Nat, vi = .int .i64 (k : Int) ∧ k ≤ 1 ∧ OwnU wr B vv (l ++ lowL x k) ∧ Below B w wr ∧ Lib.OthersKept 5 Option.none w wr) (fun _ vi _ => 1 - (intOf vi).toNat)
  case atStart => exact ⟨0, rfl, by omega, by simpa [lowL] using h, Below.refl _ _, Lib.OthersKept.refl _ _ _⟩
  case round =>
    clear h
    obtain ⟨k, rfl, hk, hown, hbel, hok⟩ := hrel
    by_cases hlt : k < 1
    · have hlt' : (k : Int) < 1 := by omega
      have hsz := hbel.size
      have hll : (l ++ lowL x k).length = l.length + k := by simp [lowL_len]
      have HB := hid (byteN x k)
      go_wp2_with (at_builtin; refine wpList_append_own _ rfl _ _ 72 rfl B 5 i0 (.int .u8 0) 1 1 Tryz.underlying72 hi hz0 hz1 hz2 rfl (by decide) _ _ _ rfl (hown.row.alloc _) ⟨wr.heap.size, 0, none⟩ 1 1 [.int .u8 ((x : Int) / 2 ^ (8 * k) % 256)] rfl rfl ?c1 ?c2 ?c3 ?c4 ?c5 ?_)
      case c1 => exact cell_one_new _ _ _
      case c2 => intro u hu; simp at hu; subst hu; rfl
      case c3 => unfold maxLen; omega
      case c4 => omega
      case c5 => simp; omega
      · intro v' w1 hown' hgrow hnil
        have hr : OwnU w1 B v' (l ++ lowL x (k + 1)) := by
          refine ⟨?_⟩
          rw [HB.out] at hown'
          have e1 : u8s (l ++ lowL x (k + 1)) = u8s (l ++ lowL x k) ++ [.int .u8 ((UInt8.ofNat (x / 256 ^ k % 256)).toNat : Int)] := by simp [lowL, u8s]
          have e2 : (l ++ lowL x (k + 1)).length = (l ++ lowL x k).length + 1 := by simp [lowL_len]; omega
          rw [e1, e2, hll]; exact hown'
        have hb : Below B w w1 := (hbel.alloc (by omega) _).grown hgrow (by simp; omega) (fun q hq => (hown.row.lt q hq).1)
        have hk1 : Lib.OthersKept 5 Option.none w w1 := (hok.alloc _).grown hgrow (fun g hg => by
          obtain ⟨c, fz, h2⟩ := hown.kind g hg
          exact ⟨c, fz, (Below.heap_alloc _ _ _ (Array.getElem?_eq_some_iff.1 h2).1).trans h2⟩)
        clear hown' hgrow hown hbel hok hnil HB
        go_wp2
        go_roundw
        case rel => exact ⟨k + 1, by simp, by omega, hr, hb, hk1⟩
        case measure => simp [intOf]; omega
    · have hlt' : ¬ (k : Int) < 1 := by omega
      obtain rfl : k = 1 := by omega
      go_wp2
      go_ret
      exact ⟨_, rfl, hown, hbel, hok⟩

end Go.Proofs.YthdcceackfdbbaaGreatDoor
namespace Go.Proofs.YthdcceackfdbbaaGreatDoor
open Go Go.RowKit

theorem crc_test {h b i : Nat} (hh : h < 4294967296) (hb : b < 256) : (bits BinOp.and IntKind.u32 (bits BinOp.xor IntKind.u32 (h : Int) ((b : Int) / 2 ^ i)) 1 == 1) = decide ((b >>> i + h) % 2 = 1) := by
  have e1 : ((b : Int) / 2 ^ i) = ((b / 2 ^ i : Nat) : Int) := by simp
  have hlt : b / 2 ^ i < 4294967296 := Nat.lt_of_le_of_lt (Nat.div_le_self _ _) (by omega)
  have hx : h ^^^ (b / 2 ^ i) < 2 ^ 32 := Nat.xor_lt_two_pow hh hlt
  rw [e1, u32_xor_nat _ _ hh hlt, show (1 : Int) = ((1 : Nat) : Int) from rfl, u32_and_nat _ _ hx (by omega), Nat.and_one_is_mod, Nat.shiftRight_eq_div_pow]
  rw [Bool.eq_iff_iff, beq_iff_eq, decide_eq_true_eq]
  have := @Nat.xor_mod_two_eq_one h (b / 2 ^ i)
  constructor
  · intro h1
    have h2 : (h ^^^ b / 2 ^ i) % 2 = 1 := by omega
    have h3 := this.1 h2
    omega
  · intro h1
    have h3 : (h ^^^ b / 2 ^ i) % 2 = 1 := this.2 (by omega)
    omega

theorem flip_bits {s : Nat} (hs : s < 4294967296) : bits BinOp.xor IntKind.u32 IntKind.u32.max (s : Int) = ((flip32 s : Nat) : Int) := by
  rw [show IntKind.u32.max = ((4294967295 : Nat) : Int) from by kernel_rfl, u32_xor_nat _ _ (by omega) hs, Nat.xor_comm, flip_xor hs]

theorem crc_xor {h : Nat} (hh : h < 4294967296) : bits BinOp.xor IntKind.u32 ((h : Int) / 2) 3988292384 = ((((h >>> 1) ^^^ 3988292384 : Nat)) : Int) := by
  have e : ((h : Int) / 2) = ((h / 2 : Nat) : Int) := by omega
  have e2 : h >>> 1 = h / 2 := by rw [Nat.shiftRight_eq_div_pow]
  have := u32_xor_nat (h / 2) 3988292384 (by omega) (by omega)
  rw [e, e2]; exact this

theorem flip_lt (s : Nat) : flip32 s < 4294967296 := by unfold flip32; omega

set_option maxRecDepth 20000 in
set_option maxHeartbeats 1000000 in
theorem sumAdd_any (w : World) (s : Nat) (b : UInt8) (hs : s < 4294967296) :
    Calls Tryz.prog 173 #[.int .u32 (s : Int), .int .u8 (b.toNat : Int)] w fun e w' => e = .returned (.int .u32 ((flip32 (crcTo (flip32 s) b.toNat 8) : Nat) : Int)) ∧ w' = w := by
  have hf := flip_bits hs
  have hf2 := flip_bits (crcTo_lt (b := b.toNat) (flip_lt s) 8)
  have HF := hid (fun k => crcTo_lt (b := b.toNat) (flip_lt s) k)
  go_enter Tryz.func173, Tryz.ntmps173
  go_wp2
  go_loop [5, 10] (fun vh vi => ∃ k : Nat, vi = .int .i64 (k : Int) ∧ k ≤ 8 ∧ vh = .int .u32 ((crcTo (flip32 s) b.toNat k : Nat) : Int)) (fun _ vi => 8 - (intOf vi).toNat)
  case atStart => exact ⟨0, rfl, by omega, rfl⟩
  case round =>
    obtain ⟨k, rfl, hk, rfl⟩ := hrel
    by_cases hlt : k < 8
    · have hlt' : (k : Int) < 8 := by omega
      have hH := HF.out k
      have HS : Hid (crcTo (flip32 s) b.toNat (k + 1) = crcBit (crcTo (flip32 s) b.toNat k) b.toNat k) := rfl
      generalize crcTo (flip32 s) b.toNat k = H at *
      have ht := crc_test (i := k) hH b.toNat_lt
      have hx := crc_xor hH
      have hbl : b.toNat < 256 := b.toNat_lt
      clear hf hf2 HF
      by_cases hc : (b.toNat >>> k + H) % 2 = 1
      · have HE : Hid (crcBit H b.toNat k = (H >>> 1) ^^^ 3988292384) := if_pos hc
        rw [decide_eq_true hc] at ht
        go_wp2
        · go_round
          case rel => exact ⟨k + 1, by simp, by omega, by rw [HS.out, HE.out]⟩
          case measure => simp [intOf]; omega
      · have HE : Hid (crcBit H b.toNat k = H >>> 1) := if_neg hc
        rw [decide_eq_false hc] at ht
        go_wp2
        · go_round
          case rel => exact ⟨k + 1, by simp, by omega, by rw [HS.out, HE.out, Nat.shiftRight_eq_div_pow]; simp⟩
          case measure => simp [intOf]; omega
    · have hlt' : ¬ (k : Int) < 8 := by omega
      obtain rfl : k = 8 := by omega
      go_wp2
      go_ret
      exact ⟨rfl, rfl⟩

/-- a row of bytes that is read: its cells -/
def ByteCells (w : World) (a : Option Addr) (l : List UInt8) : Prop := ∀ k x, l[k]? = some x → ∃ g, a = some ⟨g, 0, none⟩ ∧ w.cell? ⟨g, k, none⟩ = some (.int .u8 (x.toNat : Int))

theorem OwnU.shape {w : World} {B : Nat} {v : Value} {l : List UInt8} (h : OwnU w B v l) : ∃ a cap, v = .slice a l.length cap ∧ l.length ≤ cap ∧ cap ≤ maxLen ∧ ByteCells w a l := by
  obtain ⟨h0, ⟨h1, h2⟩ | ⟨g, cap, cur, rfl, _, h2, h3, h4, h5, h6⟩⟩ := h.row
  · have : l = [] := List.eq_nil_of_length_eq_zero h2
    subst this
    exact ⟨none, 0, h1, by simp, Nat.zero_le _, fun k x hx => by simp at hx⟩
  · refine ⟨some ⟨g, 0, none⟩, cap, rfl, h3, h4, fun k x hx => ⟨g, rfl, ?_⟩⟩
    have hk : k < l.length := (List.getElem?_eq_some_iff.1 hx).1
    have h7 : (cur.toList.take (l.length * 1))[k]? = (u8s l)[k]? := by rw [h6]
    rw [List.getElem?_take, if_pos (by omega)] at h7
    have h8 : (u8s l)[k]? = some (.int .u8 (x.toNat : Int)) := by simp [u8s, hx]
    rw [h8] at h7
    simp [World.cell?, h2]
    simpa using h7

set_option maxRecDepth 20000 in
set_option maxHeartbeats 1000000 in
theorem sumOf_any (w : World) (B : Nat) (v : Value) (l : List UInt8) (h : OwnU w B v l) :
    Calls Tryz.prog 138 #[v] w fun e w' => e = .returned (.int .u32 ((sumL l : Nat) : Int)) ∧ w' = w := by
  obtain ⟨a, cap, rfl, hcap, hmax, hbc⟩ := h.shape
  unfold maxLen at hmax
  go_enter Tryz.func138, Tryz.ntmps138
  go_wp2
  go_loop [3, 8] (fun vs vi => ∃ k S : Nat, vi = .int .i64 (k : Int) ∧ k ≤ l.length ∧ vs = .int .u32 (S : Int) ∧ S < 4294967296 ∧ Hid (S = sumL (l.take k))) (fun _ vi => l.length - (intOf vi).toNat)
  case atStart => exact ⟨0, 0, rfl, by omega, rfl, by omega, by rw [List.take_zero]; exact sumL_nil.symm⟩
  case round =>
    obtain ⟨k, S, rfl, hk, rfl, hsl, HS0⟩ := hrel
    by_cases hlt : k < l.length
    · have hlt' : (k : Int) < l.length := by omega
      obtain ⟨x, hx⟩ : ∃ x, l[k]? = some x := ⟨l[k], by simp [hlt]⟩
      obtain ⟨g, rfl, hc⟩ := hbc k x hx
      have hcall := sumAdd_any w S x hsl
      have HS : Hid (flip32 (crcTo (flip32 S) x.toNat 8) = sumL (l.take (k + 1))) := by
        show _ = _
        rw [HS0.out, List.take_add_one, hx]; exact (sumL_snoc _ _).symm
      have hlt2 : flip32 (crcTo (flip32 S) x.toNat 8) < 4294967296 := flip_lt _
      generalize flip32 (crcTo (flip32 S) x.toNat 8) = S' at *
      clear hx hbc HS0
      go_wp2_with fail
      refine hcall.mono ?_
      rintro e w1 ⟨rfl, hw1⟩
      rw [hw1]
      clear hw1 hcall
      go_wp2
      go_round
      case rel => exact ⟨k + 1, S', by simp, by omega, rfl, hlt2, HS⟩
      case measure => simp [intOf]; omega
    · have hlt' : ¬ (k : Int) < l.length := by omega
      obtain rfl : k = l.length := by omega
      have HS1 : Hid (S = sumL l) := by have := HS0.out; rw [List.take_length] at this; exact this
      clear HS0
      go_wp2
      go_ret
      exact ⟨by rw [← HS1.out]; rfl, rfl⟩

theorem summed_any (w : World) (B : Nat) (v : Value) (l : List UInt8) (h : OwnU w B v l) (hB : B ≤ w.heap.size) (hl : l.length ≤ 50000) :
    Calls Tryz.prog 104 #[v] w fun e w' => ∃ v', e = .returned v' ∧ OwnU w' B v' (l ++ lowL (sumL l) 4) ∧ Below B w w' ∧ Lib.OthersKept 5 Option.none w w' := by
  have hsl := sumL_lt l
  go_enter Tryz.func104, Tryz.ntmps104
  go_wp2_with fail
  refine (sumOf_any _ B v l h).mono ?_
  rintro e w1 ⟨rfl, hw1⟩
  rw [hw1]
  clear hw1
  go_wp2_with fail
  refine (append32 _ B v l (sumL l) h hB (by omega) (by omega)).mono ?_
  rintro e w1 ⟨v', rfl, h1, h2, h3⟩
  go_wp2
  go_ret
  exact ⟨v', rfl, h1, h2, h3⟩

end Go.Proofs.YthdcceackfdbbaaGreatDoor
namespace Go.Proofs.YthdcceackfdbbaaGreatDoor
open Go Go.RowKit

theorem isPlace_b (w : World) (k n : Int) (b : Bool) (hb : decide (0 ≤ k ∧ k < n) = b) : Calls Tryz.prog 95 #[.int .i64 k, .int .i64 n] w fun e w' => e = .returned (.bool b) ∧ w' = w := by
  rw [← hb]; exact isPlace_any w k n

theorem leaves_b (w : World) (k s : Int) (b : Bool) (hb : decide (1 < k ∧ (s ≤ -100000 ∨ 100000 ≤ s)) = b) : Calls Tryz.prog 96 #[.int .i64 k, .int .i64 s] w fun e w' => e = .returned (.bool b) ∧ w' = w := by
  rw [← hb]; exact leaves_any w k s

theorem prod_small {i : Nat} {s : Int} (hi : i ≤ 40) (h : i = 0 ∨ (-100000 < s ∧ s < 100000)) : -1000000000 ≤ (i : Int) * s ∧ (i : Int) * s ≤ 1000000000 := by
  rcases h with rfl | ⟨h1, h2⟩
  · simp
  · have b := between s hi
    constructor <;> · simp at b; omega

set_option maxHeartbeats 1000000 in
theorem inside_any (w : World) (R C : Nat) (off rs cs : Int) (n : Nat) (hR : 1 ≤ R ∧ R ≤ 40) (hC : 1 ≤ C ∧ C ≤ 40) (hn : n ≤ 100000) :
    Calls Tryz.prog 61 #[viewV R C off rs cs, .int .i64 (n : Int)] w fun e w' => (∃ b, e = .returned (.bool b) ∧ (b = true ↔ Corner R C off rs cs n) ∧ (b = true → (R = 1 ∨ (-100000 < rs ∧ rs < 100000)) ∧ (C = 1 ∨ (-100000 < cs ∧ cs < 100000)))) ∧ Below w.heap.size w w' := by
  by_cases c0 : ¬ (0 ≤ off ∧ off < n)
  · have e0 : decide (0 ≤ off ∧ off < (n : Int)) = false := by simp only [decide_eq_false_iff_not]; exact c0
    have HN : Hid (¬ Corner R C off rs cs n) := fun h => c0 h.1
    unfold viewV
    clear c0
    go_enter Tryz.func61, Tryz.ntmps61
    go_wp2_with fail
    refine (isPlace_b _ _ _ false e0).mono ?_
    rintro e w1 ⟨rfl, rfl⟩
    clear e0
    go_wp2
    go_ret
    exact ⟨⟨_, rfl, ⟨fun h => (by cases h), fun h => absurd h HN.out⟩, fun h => (by cases h)⟩, (Below.refl _ _).alloc (Nat.le_refl _) _⟩
  replace c0 := Decidable.not_not.1 c0
  have e0 : decide (0 ≤ off ∧ off < (n : Int)) = true := by simp only [decide_eq_true_eq]; exact c0
  by_cases c1 : 1 < (R : Int) ∧ (rs ≤ -100000 ∨ 100000 ≤ rs)
  · have e1 : decide (1 < (R : Int) ∧ (rs ≤ -100000 ∨ 100000 ≤ rs)) = true := by simp only [decide_eq_true_eq]; exact c1
    have HN : Hid (¬ Corner R C off rs cs n) := fun h => by
      have := (corner_iff (by omega) (by omega)).1 h 1 0 (by omega) (by omega)
      simp at this; omega
    unfold viewV
    clear c0 c1
    go_enter Tryz.func61, Tryz.ntmps61
    go_wp2_with fail
    refine (isPlace_b _ _ _ true e0).mono ?_
    rintro e w1 ⟨rfl, rfl⟩
    clear e0
    go_wp2_with fail
    refine (leaves_b _ _ _ true e1).mono ?_
    rintro e w1 ⟨rfl, rfl⟩
    clear e1
    go_wp2
    go_ret
    exact ⟨⟨_, rfl, ⟨fun h => (by cases h), fun h => absurd h HN.out⟩, fun h => (by cases h)⟩, (Below.refl _ _).alloc (Nat.le_refl _) _⟩
  have e1 : decide (1 < (R : Int) ∧ (rs ≤ -100000 ∨ 100000 ≤ rs)) = false := by simp only [decide_eq_false_iff_not]; exact c1
  by_cases c2 : 1 < (C : Int) ∧ (cs ≤ -100000 ∨ 100000 ≤ cs)
  · have e2 : decide (1 < (C : Int) ∧ (cs ≤ -100000 ∨ 100000 ≤ cs)) = true := by simp only [decide_eq_true_eq]; exact c2
    have HN : Hid (¬ Corner R C off rs cs n) := fun h => by
      have := (corner_iff (by omega) (by omega)).1 h 0 1 (by omega) (by omega)
      simp at this; omega
    unfold viewV
    clear c0 c1 c2
    go_enter Tryz.func61, Tryz.ntmps61
    go_wp2_with fail
    refine (isPlace_b _ _ _ true e0).mono ?_
    rintro e w1 ⟨rfl, rfl⟩
    clear e0
    go_wp2_with fail
    refine (leaves_b _ _ _ false e1).mono ?_
    rintro e w1 ⟨rfl, rfl⟩
    clear e1
    go_wp2_with fail
    refine (leaves_b _ _ _ true e2).mono ?_
    rintro e w1 ⟨rfl, rfl⟩
    clear e2
    go_wp2
    go_ret
    exact ⟨⟨_, rfl, ⟨fun h => (by cases h), fun h => absurd h HN.out⟩, fun h => (by cases h)⟩, (Below.refl _ _).alloc (Nat.le_refl _) _⟩
  have e2 : decide (1 < (C : Int) ∧ (cs ≤ -100000 ∨ 100000 ≤ cs)) = false := by simp only [decide_eq_false_iff_not]; exact c2
  have HS : Hid ((R = 1 ∨ (-100000 < rs ∧ rs < 100000)) ∧ (C = 1 ∨ (-100000 < cs ∧ cs < 100000))) := ⟨by omega, by omega⟩
  have p1 : Hid _ := prod_small (i := R - 1) (s := rs) (by omega) (by omega)
  have p2 : Hid _ := prod_small (i := C - 1) (s := cs) (by omega) (by omega)
  have HC : Hid (Corner R C off rs cs n ↔ ((0 ≤ off + ((R - 1 : Nat) : Int) * rs ∧ off + ((R - 1 : Nat) : Int) * rs < n) ∧ (0 ≤ off + ((C - 1 : Nat) : Int) * cs ∧ off + ((C - 1 : Nat) : Int) * cs < n) ∧
    (0 ≤ off + ((R - 1 : Nat) : Int) * rs + ((C - 1 : Nat) : Int) * cs ∧ off + ((R - 1 : Nat) : Int) * rs + ((C - 1 : Nat) : Int) * cs < n))) := by
    show _ ↔ _
    unfold Corner; simp [c0]
  have HO : Hid (-4611686018427387904 ≤ off ∧ off ≤ 4611686018427387903) := ⟨by omega, by omega⟩
  have hr1 : (R : Int) - 1 = ((R - 1 : Nat) : Int) := by omega
  have hr2 : (C : Int) - 1 = ((C - 1 : Nat) : Int) := by omega
  clear c0 c1 c2
  have hq : Tryz.prog.follows .mixedOrders = true := by kernel_rfl
  unfold viewV
  go_enter Tryz.func61, Tryz.ntmps61
  go_wp2_with fail
  refine (isPlace_b _ _ _ true e0).mono ?_
  rintro e w1 ⟨rfl, rfl⟩
  clear e0
  go_wp2_with fail
  refine (leaves_b _ _ _ false e1).mono ?_
  rintro e w1 ⟨rfl, rfl⟩
  clear e1
  go_wp2_with fail
  refine (leaves_b _ _ _ false e2).mono ?_
  rintro e w1 ⟨rfl, rfl⟩
  clear e2
  go_wp2_with fail
  go_quiet (fail)
  have hb : ∀ x y z : Obj, Below w.heap.size w ((w.alloc x).drewN nq) ∧ Below w.heap.size w (((w.alloc x).drewN nq).alloc y) ∧ Below w.heap.size w ((((w.alloc x).drewN nq).alloc y).alloc y) ∧ Below w.heap.size w (((((w.alloc x).drewN nq).alloc y).alloc y).alloc z) := fun x y z => by
    have h0 : Below w.heap.size w ((w.alloc x).drewN nq) := below_dn ((Below.refl _ _).alloc (Nat.le_refl _) _) _
    have h1 := h0.alloc (by simp) y
    have h2 := h1.alloc (by simp; omega) y
    exact ⟨h0, h1, h2, h2.alloc (by simp; omega) z⟩
  have HB := hid hb
  clear hb
  by_cases d1 : 0 ≤ off + ((R - 1 : Nat) : Int) * rs ∧ off + ((R - 1 : Nat) : Int) * rs < n
  · have D1 : Hid (decide (0 ≤ off + ((R - 1 : Nat) : Int) * rs ∧ off + ((R - 1 : Nat) : Int) * rs < n) = true) := by simp only [Hid, decide_eq_true_eq]; exact d1
    have G1 := hid d1
    clear d1
    by_cases d2 : 0 ≤ off + ((C - 1 : Nat) : Int) * cs ∧ off + ((C - 1 : Nat) : Int) * cs < n
    · have D2 : Hid (decide (0 ≤ off + ((C - 1 : Nat) : Int) * cs ∧ off + ((C - 1 : Nat) : Int) * cs < n) = true) := by simp only [Hid, decide_eq_true_eq]; exact d2
      have G2 := hid d2
      clear d2
      obtain ⟨b3, hb3⟩ : ∃ b, decide (0 ≤ off + ((R - 1 : Nat) : Int) * rs + ((C - 1 : Nat) : Int) * cs ∧ off + ((R - 1 : Nat) : Int) * rs + ((C - 1 : Nat) : Int) * cs < n) = b := ⟨_, rfl⟩
      have D3 := hid hb3
      clear hb3
      go_wp2_with fail
      refine (at_any _ R C off rs cs ((R - 1 : Nat) : Int) 0 HO.out p1.out (by simp)).mono ?_
      rintro e w1 ⟨rfl, rfl⟩
      go_wp2_with fail
      refine (isPlace_b _ _ _ true D1.out).mono ?_
      rintro e w1 ⟨rfl, rfl⟩
      go_wp2_with fail
      refine (at_any _ R C off rs cs 0 ((C - 1 : Nat) : Int) HO.out (by simp) p2.out).mono ?_
      rintro e w1 ⟨rfl, rfl⟩
      go_wp2_with fail
      refine (isPlace_b _ _ _ true D2.out).mono ?_
      rintro e w1 ⟨rfl, rfl⟩
      go_wp2_with fail
      refine (at_any _ R C off rs cs ((R - 1 : Nat) : Int) ((C - 1 : Nat) : Int) HO.out p1.out p2.out).mono ?_
      rintro e w1 ⟨rfl, rfl⟩
      go_wp2_with fail
      refine (isPlace_b _ _ _ b3 D3.out).mono ?_
      rintro e w1 ⟨rfl, rfl⟩
      go_wp2
      go_ret
      exact ⟨⟨b3, rfl, by rw [HC.out, ← D3.out, decide_eq_true_eq]; exact ⟨fun h => ⟨G1.out, G2.out, h⟩, fun h => h.2.2⟩, fun _ => HS.out⟩, (HB.out _ _ _).2.2.2⟩
    · have D2 : Hid (decide (0 ≤ off + ((C - 1 : Nat) : Int) * cs ∧ off + ((C - 1 : Nat) : Int) * cs < n) = false) := by simp only [Hid, decide_eq_false_iff_not]; exact d2
      have G2 := hid d2
      clear d2
      go_wp2_with fail
      refine (at_any _ R C off rs cs ((R - 1 : Nat) : Int) 0 HO.out p1.out (by simp)).mono ?_
      rintro e w1 ⟨rfl, rfl⟩
      go_wp2_with fail
      refine (isPlace_b _ _ _ true D1.out).mono ?_
      rintro e w1 ⟨rfl, rfl⟩
      go_wp2_with fail
      refine (at_any _ R C off rs cs 0 ((C - 1 : Nat) : Int) HO.out (by simp) p2.out).mono ?_
      rintro e w1 ⟨rfl, rfl⟩
      go_wp2_with fail
      refine (isPlace_b _ _ _ false D2.out).mono ?_
      rintro e w1 ⟨rfl, rfl⟩
      go_wp2
      go_ret
      exact ⟨⟨_, rfl, ⟨fun h => (by cases h), fun h => absurd (HC.out.1 h).2.1 G2.out⟩, fun h => (by cases h)⟩, (HB.out _ _ (.deferred none)).2.2.1⟩
  · have D1 : Hid (decide (0 ≤ off + ((R - 1 : Nat) : Int) * rs ∧ off + ((R - 1 : Nat) : Int) * rs < n) = false) := by simp only [Hid, decide_eq_false_iff_not]; exact d1
    have G1 := hid d1
    clear d1
    go_wp2_with fail
    refine (at_any _ R C off rs cs ((R - 1 : Nat) : Int) 0 HO.out p1.out (by simp)).mono ?_
    rintro e w1 ⟨rfl, rfl⟩
    go_wp2_with fail
    refine (isPlace_b _ _ _ false D1.out).mono ?_
    rintro e w1 ⟨rfl, rfl⟩
    go_wp2
    go_ret
    exact ⟨⟨_, rfl, ⟨fun h => (by cases h), fun h => absurd (HC.out.1 h).1 G1.out⟩, fun h => (by cases h)⟩, (HB.out _ _ (.deferred none)).2.1⟩

end Go.Proofs.YthdcceackfdbbaaGreatDoor
namespace Go.Proofs.YthdcceackfdbbaaGreatDoor
open Go Go.RowKit

def BoolOk (p : Prop) (e : Ending) : Prop := ∃ b, e = .returned (.bool b) ∧ (b = true ↔ p)

theorem boolOk_t {p : Prop} (h : p) : BoolOk p (.returned (.bool true)) := ⟨true, rfl, fun _ => h, fun _ => rfl⟩
theorem boolOk_f {p : Prop} (h : ¬ p) : BoolOk p (.returned (.bool false)) := ⟨false, rfl, fun e => (by cases e), fun e => absurd e h⟩

def NoMeet (C : Nat) (rs cs : Int) (d : Nat) (r : Int) : Prop := -(C : Int) < r → r < C → (d ≠ 0 ∨ r ≠ 0) → (d : Int) * rs + r * cs ≠ 0

theorem prod_smallI {C : Nat} {r s : Int} (hC : C ≤ 40) (h1 : -(C : Int) < r) (h2 : r < C) (h : C = 1 ∨ (-100000 < s ∧ s < 100000)) : -1000000000 ≤ r * s ∧ r * s ≤ 1000000000 := by
  rcases h with rfl | h
  · have : r = 0 := by omega
    subst this; simp
  · by_cases hr : 0 ≤ r
    · obtain ⟨k, rfl⟩ := Int.eq_ofNat_of_zero_le hr
      exact prod_small (by omega) (.inr h)
    · obtain ⟨k, hk⟩ := Int.eq_ofNat_of_zero_le (show 0 ≤ -r by omega)
      have : r = -(k : Int) := by omega
      subst this
      have := prod_small (i := k) (s := s) (by omega) (.inr h)
      rw [Int.neg_mul]; omega

theorem nm_next {C : Nat} {rs cs : Int} {d : Nat} {r : Int} (h2 : ∀ r', r' < r → NoMeet C rs cs d r') (h : NoMeet C rs cs d r) : ∀ r', r' < r + 1 → NoMeet C rs cs d r' := fun r' hr => by
  by_cases e : r' = r
  · subst e; exact h
  · exact h2 r' (by omega)

set_option maxHeartbeats 1000000 in
theorem meets_any (w : World) (R C : Nat) (off rs cs : Int) (hR : 1 ≤ R ∧ R ≤ 40) (hC : 1 ≤ C ∧ C ≤ 40) (hr : R = 1 ∨ (-100000 < rs ∧ rs < 100000)) (hc : C = 1 ∨ (-100000 < cs ∧ cs < 100000)) :
    Calls Tryz.prog 62 #[viewV R C off rs cs] w fun e w' => BoolOk (Meets R C rs cs) e ∧ Below w.heap.size w w' := by
  have HRS : Hid _ := hid hr
  have HCS : Hid _ := hid hc
  clear hr hc
  unfold viewV
  go_enter Tryz.func62, Tryz.ntmps62
  go_wp2
  go_loop [8] (fun v => ∃ d : Nat, v = .int .i64 d ∧ d ≤ R ∧ ∀ d', d' < d → ∀ r, NoMeet C rs cs d' r) (fun v => R - (intOf v).toNat)
  case atStart => exact ⟨0, rfl, by omega, fun d' h => by omega⟩
  case round =>
    obtain ⟨d, rfl, hd, hno⟩ := hrel
    have HN := hid hno
    clear hno
    by_cases hdR : d < R
    · have hdR' : (d : Int) < R := by omega
      go_wp2
      go_loop [4] (fun v => ∃ r : Int, v = .int .i64 r ∧ -(C : Int) < r ∧ r ≤ C ∧ ∀ r', r' < r → NoMeet C rs cs d r') (fun v => ((C : Int) - intOf v).toNat)
      case atStart => exact ⟨1 - C, rfl, by omega, by omega, fun r' h h1 => by omega⟩
      case round =>
        obtain ⟨r, rfl, h1, h2, hno2⟩ := hrel
        have HN2 := hid hno2
        clear hno2
        by_cases hrC : r < C
        · have hp1 := prod_small (i := d) (s := rs) (by omega) (by have := HRS.out; omega)
          have hp2 := prod_smallI hC.2 h1 hrC HCS.out
          go_wp2
          · obtain rfl : d = 0 := by assumption
            obtain rfl : r = 0 := by assumption
            refine ⟨⟨by omega, by omega, nm_next HN2.out (fun _ _ h => by simp at h)⟩, by simp [intOf]; omega⟩
          · have ⟨h3, h4⟩ : (r != 0) = true ∧ (r * cs == 0) = true := by assumption
            obtain rfl : d = 0 := by assumption
            go_ret
            exact ⟨boolOk_t ⟨0, hdR, r, h1, hrC, .inr (by simpa using h3), by simpa using h4⟩, (Below.refl _ _).alloc (Nat.le_refl _) _⟩
          · have h3 : ¬ r = 0 := by assumption
            have h4 : (r != 0) = false ∨ (r * cs == 0) = false := by assumption
            have h5 : ¬ r * cs = 0 := by simpa [h3] using h4
            obtain rfl : d = 0 := by assumption
            refine ⟨⟨by omega, by omega, nm_next HN2.out (fun _ _ _ => by simpa using h5)⟩, by simp [intOf]; omega⟩
          · have h3 : ¬ d = 0 := by assumption
            have h4 : ((d : Int) * rs + r * cs == 0) = true := by assumption
            go_ret
            exact ⟨boolOk_t ⟨d, hdR, r, h1, hrC, .inl h3, by simpa using h4⟩, (Below.refl _ _).alloc (Nat.le_refl _) _⟩
          · have h4 : ((d : Int) * rs + r * cs == 0) = false := by assumption
            go_round
            case rel => exact ⟨r + 1, rfl, by omega, by omega, nm_next HN2.out (fun _ _ _ => by simpa using h4)⟩
            case measure => simp [intOf]; omega
        · go_wp2
          go_round
          case rel =>
            refine ⟨d + 1, by simp, by omega, fun d' hd' r' => ?_⟩
            by_cases e : d' = d
            · subst e; exact fun a b => HN2.out r' (by omega) a b
            · exact HN.out d' (by omega) r'
          case measure => simp [intOf]; omega
    · have hdR' : ¬ ((d : Int) < R) := by omega
      go_wp2
      go_ret
      refine ⟨boolOk_f ?_, (Below.refl _ _).alloc (Nat.le_refl _) _⟩
      rintro ⟨d', h1, r, h2, h3, h4, h5⟩
      exact absurd h5 (HN.out d' (by omega) r h2 h3 h4)

end Go.Proofs.YthdcceackfdbbaaGreatDoor
