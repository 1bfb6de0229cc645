/- Walks: tenTo, round. Own text. -/
import Derived.Test.YthdcceackfdbbaaDoorWi
import Derived.Test.YthdcceackfdbbaaDoorDec
namespace Go.Proofs.YthdcceackfdbbaaDoor
open Go.RowKit

theorem ten_bl (n : Nat) : bl (10 ^ n) ≤ 4 * n + 1 := by
  refine bl_le (Nat.lt_of_le_of_lt (Nat.pow_le_pow_left (by decide : 10 ≤ 16) n) ?_)
  rw [show (16 : Nat) = 2 ^ 4 from rfl, ← Nat.pow_mul]
  exact Nat.pow_lt_pow_right (by omega) (by omega)

theorem ten_small {n : Nat} (h : n ≤ 4000) : Small (10 ^ n) := small_of_bl (k := 16001) (Nat.le_trans (ten_bl n) (by omega)) (by omega)

set_option maxHeartbeats 400000 in
theorem tenTo_any (w : World) (n : Nat) (m : Int) (hn : n ≤ 4000) (hm : m = (n : Int)) :
    Calls Tryd.prog 67 #[.int .i64 m] w fun e w' => ∃ v', e = .returned v' ∧ Rep w' w.heap.size v' (10 ^ n) ∧ Below w.heap.size w w' := by
  subst hm
  go_enter Tryd.func67, Tryd.ntmps67
  go_wp2_with fail
  refine (power_any _ 10 n (by omega) (by omega) (by omega) (ten_small hn)).mono ?_
  rintro e w1 ⟨v1, rfl, r1, b1⟩
  go_wp2
  go_ret
  exact ⟨v1, rfl, r1, b1⟩

theorem dval_small {l : List UInt8} (h : Digs l) (hl : l.length ≤ 100) : Small (dval l) := (ten_small (n := l.length) (by omega)).le (Nat.le_of_lt (dval_lt h))

theorem take_get {s : ByteArray} {k : Nat} (h : k < s.size) : s.data.toList[k]? = some s[k] := by
  have h' : k < s.data.toList.length := by simpa using h
  rw [List.getElem?_eq_getElem h']
  simp
  rfl

theorem mulAdd_repI (w : World) (v : Value) (a f mm : Nat) (m : Int) (h : Rep w 0 v a) (ha : Small a) (hf : f < 4294967296) (hm : mm < 4294967296) (e : m = (mm : Int)) :
    Calls Tryd.prog 64 #[v, .int .u32 f, .int .u32 m] w fun e w' => ∃ v', e = .returned v' ∧ Rep w' w.heap.size v' (a * f + mm) ∧ Below w.heap.size w w' := by
  subst e; exact mulAdd_rep w v a f mm h ha hf hm

theorem bcell {W w1 : World} (hb : Below W.heap.size W w1) : (∀ b o, b < W.heap.size → w1.cell? ⟨b, o, none⟩ = W.cell? ⟨b, o, none⟩) ∧ (∀ b o, b < W.heap.size → w1.frozen? ⟨b, o, none⟩ = W.frozen? ⟨b, o, none⟩) :=
  ⟨fun b o h => hb.cell (p := ⟨b, o, none⟩) h, fun b o h => hb.frozen (p := ⟨b, o, none⟩) h⟩

theorem bl_mono {a b : Nat} (h : a ≤ b) : bl a ≤ bl b := bl_le (Nat.lt_of_le_of_lt h (bl_hi b))

theorem bl_mul (a b : Nat) : bl (a * b) ≤ bl a + bl b := by
  refine bl_le ?_
  rw [Nat.pow_add]
  exact Nat.mul_lt_mul_of_lt_of_le (bl_hi a) (Nat.le_of_lt (bl_hi b)) (Nat.pow_pos (by omega))

theorem bytes_toList (s : ByteArray) : s.toList = s.data.toList := ByteArray.toList_eq s

set_option maxHeartbeats 800000 in
theorem round_any (w : World) (s : ByteArray) (p : Int) (hd : Digs s.data.toList) (hl : s.size ≤ 60) (hz : ∀ c r, s.data.toList = c :: r → c.toNat ≠ 48) (hp1 : -100000 ≤ p) (hp2 : p ≤ 100000) :
    Calls Tryd.prog 42 #[.agg #[.string s, .int .i64 p]] w fun e w' => e = .returned (.int .u64 ((decRnd (dval s.data.toList) p : Nat) : Int)) ∧ Below w.heap.size w w' := by
  have HZ : Hid (∀ c r, s.data.toList = c :: r → c.toNat ≠ 48) := hz
  have hsz : s.data.toList.length = s.size := by simp
  have HSZ : Hid (s.data.toList.length = s.size) := hsz
  clear hz hsz
  by_cases h0 : s.size = 0
  · have he : s.toList.isEmpty = true := by rw [bytes_toList]; rw [List.isEmpty_iff, ← List.length_eq_zero_iff, HSZ.out, h0]
    have hn : s.data.toList = [] := by rw [← List.length_eq_zero_iff, HSZ.out, h0]
    have HN : Hid (s.data.toList = []) := hn
    clear hn
    go_enter Tryd.func42, Tryd.ntmps42
    go_wp2
    go_ret
    exact ⟨by rw [HN.out]; rfl, (Below.refl _ _).alloc (Nat.le_refl _) _⟩
  · have he : s.toList.isEmpty = false := by
      rw [bytes_toList]
      cases hh : s.data.toList with
      | nil => have := HSZ.out; rw [hh] at this; simp at this; omega
      | cons c r => rfl
    obtain ⟨c, r, hcr⟩ : ∃ c r, s.data.toList = c :: r := by
      cases hh : s.data.toList with
      | nil => have := HSZ.out; rw [hh] at this; simp at this; omega
      | cons c r => exact ⟨c, r, rfl⟩
    have hge := dval_ge hd hcr (HZ.out c r hcr)
    have hlt := dval_lt hd
    rw [HSZ.out] at hge hlt
    have hpos : dval s.data.toList ≠ 0 := by have := ten_pow_pos (s.size - 1); omega
    have HGE : Hid (10 ^ (s.size - 1) ≤ dval s.data.toList) := hge
    have HLT : Hid (dval s.data.toList < 10 ^ s.size) := hlt
    have HPOS : Hid (dval s.data.toList ≠ 0) := hpos
    clear hge hlt hpos hcr HZ
    by_cases c1 : 309 < p + s.size
    · have c1b : decide (309 < p + (s.size : Int)) = true := by simpa using c1
      go_enter Tryd.func42, Tryd.ntmps42
      go_wp2
      go_ret
      refine ⟨ret_int ?_, (Below.refl _ _).alloc (Nat.le_refl _) _⟩
      rw [decRnd_big HGE.out (by omega) (by omega)]
      rfl
    · have c1b : decide (309 < p + (s.size : Int)) = false := by simp; omega
      by_cases c2 : p + s.size < -323
      · have c2b : decide (p + (s.size : Int) < -323) = true := by simpa using c2
        go_enter Tryd.func42, Tryd.ntmps42
        go_wp2
        go_ret
        refine ⟨ret_int ?_, (Below.refl _ _).alloc (Nat.le_refl _) _⟩
        rw [decRnd_tiny HLT.out HPOS.out (by omega)]
        rfl
      · have c2b : decide (p + (s.size : Int) < -323) = false := by simp; omega
        go_enter Tryd.func42, Tryd.ntmps42
        go_wp2_with fail
        go_loopw [4, 24] (fun v i wr => ∃ (k : Nat), k ≤ s.size ∧ i = .int .i64 k ∧ Rep wr w.heap.size v (dval (s.data.toList.take k)) ∧ wr.cell? ⟨w.heap.size, 0, none⟩ = some (.string s) ∧ wr.cell? ⟨w.heap.size, 1, none⟩ = some (.int .i64 p) ∧ w.heap.size < wr.heap.size ∧ Below w.heap.size w wr) (fun _ i _ => s.size - (intOf i).toNat)
        case atStart => exact ⟨0, Nat.zero_le _, rfl, ⟨[], ⟨World.ownsRow_nil _ _ _ _, by intro y hy; simp at hy⟩, canon_nil, rfl⟩, by simp, by simp, by simp, (Below.refl _ _).alloc (Nat.le_refl _) _⟩
        case round =>
          obtain ⟨k, hk, rfl, hr, hc0, hc1, hsz, hbel⟩ := hrel
          have hdk : Digs (s.data.toList.take k) := fun x hx => hd x (List.mem_of_mem_take hx)
          have hdl : (s.data.toList.take k).length ≤ 100 := by rw [List.length_take, HSZ.out]; omega
          by_cases hlt : k < s.size
          · have hg := take_get hlt
            have hb := isDig_bd (hd _ (List.mem_of_getElem? hg))
            have hts := take_snoc_get hg
            have HTS : Hid (s.data.toList.take (k + 1) = s.data.toList.take k ++ [s[k]]) := hts
            have HB : Hid (48 ≤ s[k].toNat ∧ s[k].toNat ≤ 57) := hb
            clear hg hb hts
            go_wp2_with fail
            refine (mulAdd_repI _ u4 _ 10 (s[k].toNat - 48) ((((s[k]'hlt).toNat : Int) - 48) % 256) (hr.base (Nat.zero_le _)) (dval_small hdk hdl) (by omega) (by have := HB.out; omega) (by have := HB.out; omega)).mono ?_
            rintro e w2 ⟨v2, rfl, r2, b2⟩
            obtain ⟨hcl, hfr⟩ := bcell b2
            have e0 := hcl w.heap.size 0 hsz
            have e1 := hcl w.heap.size 1 hsz
            rw [hc0] at e0
            rw [hc1] at e1
            clear hcl hfr
            go_wp2
            go_roundw
            case rel =>
              refine ⟨k + 1, by omega, by go_num, ?_, e0, e1, Nat.lt_of_lt_of_le hsz b2.size, hbel.trans (b2.mono hbel.size)⟩
              rw [HTS.out, dval_snoc]
              exact r2.base (Nat.le_of_lt hsz)
            case measure => simp [intOf]; omega
          · have hkk : s.data.toList.take k = s.data.toList := List.take_of_length_le (by rw [HSZ.out]; omega)
            have hr' := hr
            rw [hkk] at hr' hdk hdl
            have hsm := dval_small hdk hdl
            have hbl : bl (dval s.data.toList) ≤ 241 := Nat.le_trans (bl_le (Nat.lt_of_lt_of_le (bl_hi (dval s.data.toList)) (Nat.pow_le_pow_right (by omega) (Nat.le_refl _)))) (Nat.le_trans (bl_mono (Nat.le_of_lt HLT.out)) (Nat.le_trans (ten_bl s.size) (by omega)))
            generalize hD : dval s.data.toList = D at *
            have HD : Hid (dval s.data.toList = D) := hD
            have HBL : Hid (bl D ≤ 241) := hbl
            clear hr hkk hbl hD
            by_cases hp : 0 ≤ p
            · have hpb : decide (0 ≤ p) = true := by simpa using hp
              obtain ⟨n, rfl⟩ := Int.eq_ofNat_of_zero_le hp
              go_wp2_with fail
              refine (tenTo_any _ n _ (by omega) rfl).mono ?_
              rintro e w2 ⟨v2, rfl, r2, b2⟩
              go_wp2_with fail
              refine (mul_rep _ u4 v2 _ _ ((hr'.base (Nat.zero_le _)).below b2) (r2.base (Nat.zero_le _)) hsm (ten_small (by omega))).mono ?_
              rintro e w3 ⟨v3, rfl, r3, b3⟩
              go_wp2_with fail
              refine (of_any _ 1 (by omega)).mono ?_
              rintro e w4 ⟨v4, rfl, r4, b4⟩
              go_wp2_with fail
              refine (roundQ_any _ v3 v4 _ 1 ((r3.base (Nat.zero_le _)).below b4) (r4.base (Nat.zero_le _)) (Nat.ne_of_gt (Nat.mul_pos (Nat.pos_of_ne_zero HPOS.out) (ten_pow_pos _))) (by omega) ?_ (by decide)).mono ?_
              · exact Nat.le_trans (bl_mul D (10 ^ n)) (by have := HBL.out; have := ten_bl n; omega)
              rintro e w5 ⟨rfl, b5⟩
              go_wp2
              go_ret
              refine ⟨ret_int ?_, hbel.trans ((b2.mono hbel.size).trans ((b3.mono (Nat.le_trans hbel.size b2.size)).trans ((b4.mono (Nat.le_trans hbel.size (Nat.le_trans b2.size b3.size))).trans (b5.mono (Nat.le_trans hbel.size (Nat.le_trans b2.size (Nat.le_trans b3.size b4.size)))))))⟩
              rw [HD.out]
              unfold decRnd
              rw [if_neg HPOS.out, if_pos (by omega)]
              rfl
            · have hpb : decide (0 ≤ p) = false := by simpa using hp
              obtain ⟨n, hn⟩ : ∃ n : Nat, -p = (n : Int) := ⟨(-p).toNat, by omega⟩
              have hn2 : n ≤ 400 := by omega
              have HN : Hid (-p = (n : Int)) := hn
              clear hn
              go_wp2_with fail
              refine (tenTo_any _ n (-p) (by omega) HN.out).mono ?_
              rintro e w2 ⟨v2, rfl, r2, b2⟩
              go_wp2_with fail
              refine (roundQ_any _ u4 v2 _ _ ((hr'.base (Nat.zero_le _)).below b2) (r2.base (Nat.zero_le _)) HPOS.out (Nat.ne_of_gt (ten_pow_pos _)) (by have := HBL.out; omega) (Nat.le_trans (ten_bl n) (by omega))).mono ?_
              rintro e w3 ⟨rfl, b3⟩
              go_wp2
              go_ret
              refine ⟨ret_int ?_, hbel.trans ((b2.mono hbel.size).trans (b3.mono (Nat.le_trans hbel.size b2.size)))⟩
              rw [HD.out]
              unfold decRnd
              rw [if_neg HPOS.out, if_neg (by omega), HN.out]
              rfl

end Go.Proofs.YthdcceackfdbbaaDoor
