import Derived.Test.YthdcceackfdbbabGreatDoorM04P

/- Plain mathematics: decimals. Own text. -/
namespace Go.Proofs.YthdcceackfdbbabGreatDoor

theorem plog_key {a b : Nat} (ha : a ≠ 0) (hb : b ≠ 0) : ∃ i' j' : Nat, plog a b = (j' : Int) - i' ∧ b * 2 ^ j' ≤ a * 2 ^ i' ∧ a * 2 ^ i' < 2 * (b * 2 ^ j') := by
  unfold plog
  by_cases hk : 0 ≤ (bl a : Int) - bl b
  · rw [if_pos hk]
    obtain ⟨n1, n2⟩ := norm_ge ha hb (by omega)
    have et : ((bl a : Int) - bl b).toNat = bl a - bl b := by omega
    rw [et]
    by_cases hc : a < b * 2 ^ (bl a - bl b)
    · rw [if_pos hc]; exact ⟨1, bl a - bl b, by omega, by omega, by omega⟩
    · rw [if_neg hc]; exact ⟨0, bl a - bl b, by omega, by omega, by omega⟩
  · rw [if_neg hk]
    obtain ⟨n1, n2⟩ := norm_ge hb ha (by omega)
    have et : (-((bl a : Int) - bl b)).toNat = bl b - bl a := by omega
    rw [et]
    by_cases hc : a * 2 ^ (bl b - bl a) < b
    · rw [if_pos hc]
      refine ⟨bl b - bl a + 1, 0, by omega, ?_, ?_⟩
      · rw [Nat.pow_succ, ← Nat.mul_assoc]; omega
      · rw [Nat.pow_succ, ← Nat.mul_assoc]; omega
    · rw [if_neg hc]; exact ⟨bl b - bl a, 0, by omega, by omega, by omega⟩

theorem rnd_big {a b n : Nat} (ha : a ≠ 0) (hb : b ≠ 0) (hn : 1024 ≤ n) (h : b * 2 ^ n ≤ a) : rnd a b = 9218868437227405312 := by
  obtain ⟨i, j, e, h1, h2⟩ := plog_key ha hb
  have := power_unique (i := 0) (j := n) (by simpa using h) h2
  unfold rnd
  rw [if_pos (by omega)]

theorem rnd_tiny {a b n : Nat} (ha : a ≠ 0) (hb : b ≠ 0) (hn : 1076 ≤ n) (h : a * 2 ^ n < b) : rnd a b = 0 := by
  obtain ⟨i, j, e, h1, h2⟩ := plog_key ha hb
  have := power_unique (i' := n + 1) (j' := 0) h1 (by rw [Nat.pow_succ, ← Nat.mul_assoc]; omega)
  exact rnd_low ha hb h1 h2 (by omega)

/-- The number that digits tell. -/
def dval (l : List UInt8) : Nat := l.foldl (fun n c => n * 10 + (c.toNat - 48)) 0

def isDig (c : UInt8) : Bool := 48 ≤ c.toNat && c.toNat ≤ 57

def Digs (l : List UInt8) : Prop := ∀ c ∈ l, isDig c = true

theorem dval_snoc (l : List UInt8) (c : UInt8) : dval (l ++ [c]) = dval l * 10 + (c.toNat - 48) := by simp [dval]

theorem isDig_bd {c : UInt8} (h : isDig c = true) : 48 ≤ c.toNat ∧ c.toNat ≤ 57 := by simpa [isDig] using h

theorem digs_snoc {l : List UInt8} {c : UInt8} (h : Digs (l ++ [c])) : Digs l ∧ isDig c = true := ⟨fun x hx => h x (by simp [hx]), h c (by simp)⟩

theorem list_snoc_ind {α : Type} {P : List α → Prop} (h0 : P []) (h1 : ∀ l x, P l → P (l ++ [x])) (l : List α) : P l := by
  generalize hn : l.length = n
  induction n generalizing l with
  | zero => rw [List.length_eq_zero_iff.1 hn]; exact h0
  | succ n ih =>
    have hne : l ≠ [] := by intro e; simp [e] at hn
    rw [← List.dropLast_concat_getLast hne]
    exact h1 _ _ (ih _ (by simp; omega))

theorem dval_lt {l : List UInt8} (h : Digs l) : dval l < 10 ^ l.length := by
  induction l using list_snoc_ind with
  | h0 => simp [dval]
  | h1 l c ih =>
    obtain ⟨h1, h2⟩ := digs_snoc h
    have := ih h1
    have := isDig_bd h2
    rw [dval_snoc, List.length_append, List.length_singleton, Nat.pow_succ]
    omega

theorem dval_ge {l : List UInt8} (h : Digs l) {c : UInt8} {r : List UInt8} (hl : l = c :: r) (hc : c.toNat ≠ 48) : 10 ^ (l.length - 1) ≤ dval l := by
  subst hl
  have hcd := isDig_bd (h c (by simp))
  have key : ∀ r : List UInt8, 10 ^ r.length ≤ dval (c :: r) := by
    intro r
    induction r using list_snoc_ind with
    | h0 => simp [dval]; omega
    | h1 r d ih => rw [← List.cons_append, dval_snoc, List.length_append, List.length_singleton, Nat.pow_succ]; omega
  simpa using key r

/-- Digits times ten to the power k, rounded. -/
def decRnd (D : Nat) (k : Int) : Nat := if D = 0 then 0 else if 0 ≤ k then rnd (D * 10 ^ k.toNat) 1 else rnd D (10 ^ (-k).toNat)

def powLe (c m : Nat) : Bool := Nat.ble (2 ^ c) (10 ^ m)
theorem powLe_le {c m : Nat} (h : powLe c m = true) : 2 ^ c ≤ 10 ^ m := Nat.le_of_ble_eq_true h
theorem two_ten_big : powLe 1024 309 = true := by kernel_rfl
theorem two_ten_tiny : powLe 1076 324 = true := by kernel_rfl

theorem ten_pow_pos (n : Nat) : 0 < 10 ^ n := Nat.pow_pos (by omega)

theorem decRnd_big_aux {D m c : Nat} {k : Int} {n : Nat} (hc : 1024 ≤ c) (hm : powLe c m = true) (hD : 10 ^ n ≤ D) (h : (m : Int) ≤ (n : Int) + k) (hk : 0 ≤ k) : decRnd D k = 9218868437227405312 := by
  have p1 := ten_pow_pos n
  unfold decRnd
  rw [if_neg (by omega), if_pos hk]
  have p2 := ten_pow_pos k.toNat
  refine rnd_big (n := c) (Nat.ne_of_gt (Nat.mul_pos (by omega) p2)) (by omega) hc ?_
  have h1 : 10 ^ (n + k.toNat) ≤ D * 10 ^ k.toNat := by rw [Nat.pow_add]; exact Nat.mul_le_mul_right _ hD
  have h2 : 10 ^ m ≤ 10 ^ (n + k.toNat) := Nat.pow_le_pow_right (by omega) (by omega)
  rw [Nat.one_mul]
  exact Nat.le_trans (powLe_le hm) (Nat.le_trans h2 h1)

theorem decRnd_big {D : Nat} {k : Int} {n : Nat} (hD : 10 ^ n ≤ D) (h : 309 ≤ (n : Int) + k) (hk : 0 ≤ k) : decRnd D k = 9218868437227405312 :=
  decRnd_big_aux (m := 309) (c := 1024) (Nat.le_refl _) two_ten_big hD h hk

theorem decRnd_tiny_aux {D m c : Nat} {k : Int} {n : Nat} (hc : 1076 ≤ c) (hm : powLe c m = true) (hD : D < 10 ^ n) (hD0 : D ≠ 0) (h : (n : Int) + k ≤ -(m : Int)) (hk : ¬ 0 ≤ k) : decRnd D k = 0 := by
  unfold decRnd
  rw [if_neg hD0, if_neg hk]
  refine rnd_tiny (n := c) hD0 (Nat.ne_of_gt (ten_pow_pos _)) hc ?_
  have h1 : 10 ^ (n + m) ≤ 10 ^ (-k).toNat := Nat.pow_le_pow_right (by omega) (by omega)
  rw [Nat.pow_add] at h1
  have h2 := powLe_le hm
  have h3 : D * 2 ^ c ≤ D * 10 ^ m := Nat.mul_le_mul_left _ h2
  have h4 : D * 10 ^ m < 10 ^ n * 10 ^ m := (Nat.mul_lt_mul_right (ten_pow_pos m)).2 hD
  exact Nat.lt_of_le_of_lt h3 (Nat.lt_of_lt_of_le h4 h1)

theorem decRnd_tiny {D : Nat} {k : Int} {n : Nat} (hD : D < 10 ^ n) (hD0 : D ≠ 0) (h : (n : Int) + k ≤ -324) : decRnd D k = 0 :=
  decRnd_tiny_aux (m := 324) (c := 1076) (Nat.le_refl _) two_ten_tiny hD hD0 h (by omega)

end Go.Proofs.YthdcceackfdbbabGreatDoor
/- Walks: tenTo, round. Own text. -/
namespace Go.Proofs.YthdcceackfdbbabGreatDoor
open Go.RowKit

theorem ten_bl (n : Nat) : bl (10 ^ n) ≤ 4 * n + 1 := by
  refine bl_le (Nat.lt_of_le_of_lt (Nat.pow_le_pow_left (by decide : 10 ≤ 16) n) ?_)
  rw [show (16 : Nat) = 2 ^ 4 from rfl, ← Nat.pow_mul]
  exact Nat.pow_lt_pow_right (by omega) (by omega)

theorem ten_small {n : Nat} (h : n ≤ 4000) : Small (10 ^ n) := small_of_bl (k := 16001) (Nat.le_trans (ten_bl n) (by omega)) (by omega)

set_option maxHeartbeats 400000 in
theorem tenTo_any (w : World) (n : Nat) (m : Int) (hn : n ≤ 4000) (hm : m = (n : Int)) :
    Calls Tryz.prog 83 #[.int .i64 m] w fun e w' => ∃ v', e = .returned v' ∧ Rep w' w.heap.size v' (10 ^ n) ∧ Below w.heap.size w w' := by
  subst hm
  go_enter Tryz.func83, Tryz.ntmps83
  go_wp2_with fail
  refine (power_any _ 10 n (by omega) (by omega) (by omega) (ten_small hn)).mono ?_
  rintro e w1 ⟨v1, rfl, r1, b1⟩
  go_wp2
  go_ret
  exact ⟨v1, rfl, r1, b1⟩

theorem dval_small {l : List UInt8} (h : Digs l) (hl : l.length ≤ 100) : Small (dval l) := (ten_small (n := l.length) (by omega)).le (Nat.le_of_lt (dval_lt h))

theorem take_get {s : ByteArray} {k : Nat} (h : k < s.size) : s.data.toList[k]? = some s[k] := by
  have h' : k < s.data.toList.length := by simpa using h
  rw [List.getElem?_eq_getElem h']
  simp
  rfl

theorem mulAdd_repI (w : World) (v : Value) (a f mm : Nat) (m : Int) (h : Rep w 0 v a) (ha : Small a) (hf : f < 4294967296) (hm : mm < 4294967296) (e : m = (mm : Int)) :
    Calls Tryz.prog 80 #[v, .int .u32 f, .int .u32 m] w fun e w' => ∃ v', e = .returned v' ∧ Rep w' w.heap.size v' (a * f + mm) ∧ Below w.heap.size w w' := by
  subst e; exact mulAdd_rep w v a f mm h ha hf hm

theorem bcell {W w1 : World} (hb : Below W.heap.size W w1) : (∀ b o, b < W.heap.size → w1.cell? ⟨b, o, none⟩ = W.cell? ⟨b, o, none⟩) ∧ (∀ b o, b < W.heap.size → w1.frozen? ⟨b, o, none⟩ = W.frozen? ⟨b, o, none⟩) :=
  ⟨fun b o h => hb.cell (p := ⟨b, o, none⟩) h, fun b o h => hb.frozen (p := ⟨b, o, none⟩) h⟩

theorem bl_mono {a b : Nat} (h : a ≤ b) : bl a ≤ bl b := bl_le (Nat.lt_of_le_of_lt h (bl_hi b))

theorem bl_mul (a b : Nat) : bl (a * b) ≤ bl a + bl b := by
  refine bl_le ?_
  rw [Nat.pow_add]
  exact Nat.mul_lt_mul_of_lt_of_le (bl_hi a) (Nat.le_of_lt (bl_hi b)) (Nat.pow_pos (by omega))

theorem bytes_toList (s : ByteArray) : s.toList = s.data.toList := ByteArray.toList_eq s

set_option maxHeartbeats 800000 in
theorem round_any (w : World) (s : ByteArray) (p : Int) (hd : Digs s.data.toList) (hl : s.size ≤ 60) (hz : ∀ c r, s.data.toList = c :: r → c.toNat ≠ 48) (hp1 : -100000 ≤ p) (hp2 : p ≤ 100000) :
    Calls Tryz.prog 75 #[.agg #[.string s, .int .i64 p]] w fun e w' => e = .returned (.int .u64 ((decRnd (dval s.data.toList) p : Nat) : Int)) ∧ Below w.heap.size w w' := by
  have HZ : Hid (∀ c r, s.data.toList = c :: r → c.toNat ≠ 48) := hz
  have hsz : s.data.toList.length = s.size := by simp
  have HSZ : Hid (s.data.toList.length = s.size) := hsz
  clear hz hsz
  by_cases h0 : s.size = 0
  · have he : s.toList.isEmpty = true := by rw [bytes_toList]; rw [List.isEmpty_iff, ← List.length_eq_zero_iff, HSZ.out, h0]
    have hn : s.data.toList = [] := by rw [← List.length_eq_zero_iff, HSZ.out, h0]
    have HN : Hid (s.data.toList = []) := hn
    clear hn
    go_enter Tryz.func75, Tryz.ntmps75
    go_wp2
    go_ret
    exact ⟨by rw [HN.out]; rfl, (Below.refl _ _).alloc (Nat.le_refl _) _⟩
  · have he : s.toList.isEmpty = false := by
      rw [bytes_toList]
      cases hh : s.data.toList with
      | nil => have := HSZ.out; rw [hh] at this; simp at this; omega
      | cons c r => rfl
    obtain ⟨c, r, hcr⟩ : ∃ c r, s.data.toList = c :: r := by
      cases hh : s.data.toList with
      | nil => have := HSZ.out; rw [hh] at this; simp at this; omega
      | cons c r => exact ⟨c, r, rfl⟩
    have hge := dval_ge hd hcr (HZ.out c r hcr)
    have hlt := dval_lt hd
    rw [HSZ.out] at hge hlt
    have hpos : dval s.data.toList ≠ 0 := by have := ten_pow_pos (s.size - 1); omega
    have HGE : Hid (10 ^ (s.size - 1) ≤ dval s.data.toList) := hge
    have HLT : Hid (dval s.data.toList < 10 ^ s.size) := hlt
    have HPOS : Hid (dval s.data.toList ≠ 0) := hpos
    clear hge hlt hpos hcr HZ
    by_cases c1 : 309 < p + s.size
    · have c1b : decide (309 < p + (s.size : Int)) = true := by simpa using c1
      go_enter Tryz.func75, Tryz.ntmps75
      go_wp2
      go_ret
      refine ⟨ret_int ?_, (Below.refl _ _).alloc (Nat.le_refl _) _⟩
      rw [decRnd_big HGE.out (by omega) (by omega)]
      rfl
    · have c1b : decide (309 < p + (s.size : Int)) = false := by simp; omega
      by_cases c2 : p + s.size < -323
      · have c2b : decide (p + (s.size : Int) < -323) = true := by simpa using c2
        go_enter Tryz.func75, Tryz.ntmps75
        go_wp2
        go_ret
        refine ⟨ret_int ?_, (Below.refl _ _).alloc (Nat.le_refl _) _⟩
        rw [decRnd_tiny HLT.out HPOS.out (by omega)]
        rfl
      · have c2b : decide (p + (s.size : Int) < -323) = false := by simp; omega
        go_enter Tryz.func75, Tryz.ntmps75
        go_wp2_with fail
        go_loopw [4, 24] (fun v i wr => ∃ (k : Nat), k ≤ s.size ∧ i = .int .i64 k ∧ Rep wr w.heap.size v (dval (s.data.toList.take k)) ∧ wr.cell? ⟨w.heap.size, 0, none⟩ = some (.string s) ∧ wr.cell? ⟨w.heap.size, 1, none⟩ = some (.int .i64 p) ∧ w.heap.size < wr.heap.size ∧ Below w.heap.size w wr) (fun _ i _ => s.size - (intOf i).toNat)
        case atStart => exact ⟨0, Nat.zero_le _, rfl, ⟨[], ⟨World.ownsRow_nil _ _ _ _, by intro y hy; simp at hy⟩, canon_nil, rfl⟩, by simp, by simp, by simp, (Below.refl _ _).alloc (Nat.le_refl _) _⟩
        case round =>
          obtain ⟨k, hk, rfl, hr, hc0, hc1, hsz, hbel⟩ := hrel
          have hdk : Digs (s.data.toList.take k) := fun x hx => hd x (List.mem_of_mem_take hx)
          have hdl : (s.data.toList.take k).length ≤ 100 := by rw [List.length_take, HSZ.out]; omega
          by_cases hlt : k < s.size
          · have hg := take_get hlt
            have hb := isDig_bd (hd _ (List.mem_of_getElem? hg))
            have hts := take_snoc_get hg
            have HTS : Hid (s.data.toList.take (k + 1) = s.data.toList.take k ++ [s[k]]) := hts
            have HB : Hid (48 ≤ s[k].toNat ∧ s[k].toNat ≤ 57) := hb
            clear hg hb hts
            go_wp2_with fail
            refine (mulAdd_repI _ u4 _ 10 (s[k].toNat - 48) ((((s[k]'hlt).toNat : Int) - 48) % 256) (hr.base (Nat.zero_le _)) (dval_small hdk hdl) (by omega) (by have := HB.out; omega) (by have := HB.out; omega)).mono ?_
            rintro e w2 ⟨v2, rfl, r2, b2⟩
            obtain ⟨hcl, hfr⟩ := bcell b2
            have e0 := hcl w.heap.size 0 hsz
            have e1 := hcl w.heap.size 1 hsz
            rw [hc0] at e0
            rw [hc1] at e1
            clear hcl hfr
            go_wp2
            go_roundw
            case rel =>
              refine ⟨k + 1, by omega, by go_num, ?_, e0, e1, Nat.lt_of_lt_of_le hsz b2.size, hbel.trans (b2.mono hbel.size)⟩
              rw [HTS.out, dval_snoc]
              exact r2.base (Nat.le_of_lt hsz)
            case measure => simp [intOf]; omega
          · have hkk : s.data.toList.take k = s.data.toList := List.take_of_length_le (by rw [HSZ.out]; omega)
            have hr' := hr
            rw [hkk] at hr' hdk hdl
            have hsm := dval_small hdk hdl
            have hbl : bl (dval s.data.toList) ≤ 241 := Nat.le_trans (bl_le (Nat.lt_of_lt_of_le (bl_hi (dval s.data.toList)) (Nat.pow_le_pow_right (by omega) (Nat.le_refl _)))) (Nat.le_trans (bl_mono (Nat.le_of_lt HLT.out)) (Nat.le_trans (ten_bl s.size) (by omega)))
            generalize hD : dval s.data.toList = D at *
            have HD : Hid (dval s.data.toList = D) := hD
            have HBL : Hid (bl D ≤ 241) := hbl
            clear hr hkk hbl hD
            by_cases hp : 0 ≤ p
            · have hpb : decide (0 ≤ p) = true := by simpa using hp
              obtain ⟨n, rfl⟩ := Int.eq_ofNat_of_zero_le hp
              go_wp2_with fail
              refine (tenTo_any _ n _ (by omega) rfl).mono ?_
              rintro e w2 ⟨v2, rfl, r2, b2⟩
              go_wp2_with fail
              refine (mul_rep _ u4 v2 _ _ ((hr'.base (Nat.zero_le _)).below b2) (r2.base (Nat.zero_le _)) hsm (ten_small (by omega))).mono ?_
              rintro e w3 ⟨v3, rfl, r3, b3⟩
              go_wp2_with fail
              refine (of_any _ 1 (by omega)).mono ?_
              rintro e w4 ⟨v4, rfl, r4, b4⟩
              go_wp2_with fail
              refine (roundQ_any _ v3 v4 _ 1 ((r3.base (Nat.zero_le _)).below b4) (r4.base (Nat.zero_le _)) (Nat.ne_of_gt (Nat.mul_pos (Nat.pos_of_ne_zero HPOS.out) (ten_pow_pos _))) (by omega) ?_ (by decide)).mono ?_
              · exact Nat.le_trans (bl_mul D (10 ^ n)) (by have := HBL.out; have := ten_bl n; omega)
              rintro e w5 ⟨rfl, b5⟩
              go_wp2
              go_ret
              refine ⟨ret_int ?_, hbel.trans ((b2.mono hbel.size).trans ((b3.mono (Nat.le_trans hbel.size b2.size)).trans ((b4.mono (Nat.le_trans hbel.size (Nat.le_trans b2.size b3.size))).trans (b5.mono (Nat.le_trans hbel.size (Nat.le_trans b2.size (Nat.le_trans b3.size b4.size)))))))⟩
              rw [HD.out]
              unfold decRnd
              rw [if_neg HPOS.out, if_pos (by omega)]
              rfl
            · have hpb : decide (0 ≤ p) = false := by simpa using hp
              obtain ⟨n, hn⟩ : ∃ n : Nat, -p = (n : Int) := ⟨(-p).toNat, by omega⟩
              have hn2 : n ≤ 400 := by omega
              have HN : Hid (-p = (n : Int)) := hn
              clear hn
              go_wp2_with fail
              refine (tenTo_any _ n (-p) (by omega) HN.out).mono ?_
              rintro e w2 ⟨v2, rfl, r2, b2⟩
              go_wp2_with fail
              refine (roundQ_any _ u4 v2 _ _ ((hr'.base (Nat.zero_le _)).below b2) (r2.base (Nat.zero_le _)) HPOS.out (Nat.ne_of_gt (ten_pow_pos _)) (by have := HBL.out; omega) (Nat.le_trans (ten_bl n) (by omega))).mono ?_
              rintro e w3 ⟨rfl, b3⟩
              go_wp2
              go_ret
              refine ⟨ret_int ?_, hbel.trans ((b2.mono hbel.size).trans (b3.mono (Nat.le_trans hbel.size b2.size)))⟩
              rw [HD.out]
              unfold decRnd
              rw [if_neg HPOS.out, if_neg (by omega), HN.out]
              rfl

end Go.Proofs.YthdcceackfdbbabGreatDoor
/- Plain mathematics: a number's text taken apart. Own text. -/
namespace Go.Proofs.YthdcceackfdbbabGreatDoor

theorem takeWhile_at {α : Type} {p : α → Bool} {l : List α} {k : Nat} (h1 : ∀ x ∈ l.take k, p x = true) (h2 : ∀ x, l[k]? = some x → p x = false) : l.takeWhile p = l.take k ∧ l.dropWhile p = l.drop k := by
  induction l generalizing k with
  | nil => simp
  | cons a r ih =>
    cases k with
    | zero =>
      have := h2 a (by simp)
      simp [this]
    | succ k =>
      have ha := h1 a (by simp)
      obtain ⟨e1, e2⟩ := ih (k := k) (fun x hx => h1 x (by simp [hx])) (fun x hx => h2 x (by simpa using hx))
      simp [ha, e1, e2]

/-- A sign ahead. -/
def signL : List UInt8 → Bool × List UInt8
  | [] => (false, [])
  | c :: r => if c = 43 then (false, r) else if c = 45 then (true, r) else (false, c :: r)

/-- What small powers tell, and of great ones some thousands. -/
def smallW (l : List UInt8) : Nat := l.foldl (fun v c => if v < 1000 then v * 10 + (c.toNat - 48) else v) 0

theorem smallW_snoc (l : List UInt8) (c : UInt8) : smallW (l ++ [c]) = if smallW l < 1000 then smallW l * 10 + (c.toNat - 48) else smallW l := by unfold smallW; rw [List.foldl_append]; rfl

theorem smallW_le {l : List UInt8} (h : Digs l) : smallW l ≤ 10000 := by
  induction l using list_snoc_ind with
  | h0 => simp [smallW]
  | h1 l c ih =>
    obtain ⟨h1, h2⟩ := digs_snoc h
    have := ih h1
    have := isDig_bd h2
    rw [smallW_snoc]
    split <;> omega

theorem smallW_stay (l r : List UInt8) (h : 1000 ≤ smallW l) : smallW (l ++ r) = smallW l := by
  induction r using list_snoc_ind with
  | h0 => simp
  | h1 r c ih => rw [← List.append_assoc, smallW_snoc, ih, if_neg (by omega)]

/-- What stands behind the digits. -/
def powL : List UInt8 → Option Int
  | [] => some 0
  | c :: r =>
    if c = 101 ∨ c = 69 then
      (if (signL r).2.takeWhile isDig = [] ∨ (signL r).2.dropWhile isDig ≠ [] then none
       else some (if (signL r).1 then -(smallW ((signL r).2.takeWhile isDig) : Int) else (smallW ((signL r).2.takeWhile isDig) : Int)))
    else none

/-- The digits behind a point, and what stands behind them. -/
def fracL : List UInt8 → List UInt8 × List UInt8
  | [] => ([], [])
  | c :: r => if c = 46 then (r.takeWhile isDig, r.dropWhile isDig) else ([], c :: r)

/-- Digits without noughts ahead, and the power of ten. -/
def decL (l : List UInt8) : Option (List UInt8 × Int) :=
  if l.takeWhile isDig ++ (fracL (l.dropWhile isDig)).1 = [] then none
  else (powL (fracL (l.dropWhile isDig)).2).map fun p => ((l.takeWhile isDig ++ (fracL (l.dropWhile isDig)).1).dropWhile (· == 48), p - (fracL (l.dropWhile isDig)).1.length)

/-- The answer, out of the digits and the sign. -/
def finL : Option (List UInt8 × Int) → Bool → Nat × Nat
  | none, _ => (0, 1)
  | some dp, m => (decRnd (dval dp.1) dp.2 + (if m then 9223372036854775808 else 0), 0)

/-- The number that a text tells, and the error. -/
def scanL (l : List UInt8) : Nat × Nat :=
  if 60 < l.length then (0, 1)
  else if l = [105, 110, 102] ∨ l = [43, 105, 110, 102] then (9218868437227405312, 0)
  else if l = [45, 105, 110, 102] then (18442240474082181120, 0)
  else if l = [110, 97, 110] then (9221120237041090560, 0)
  else finL (decL (signL l).2) (signL l).1

end Go.Proofs.YthdcceackfdbbabGreatDoor
/- Walks: cutSign, cutDigits, smallWhole. Own text. -/
namespace Go.Proofs.YthdcceackfdbbabGreatDoor
open Go.RowKit

theorem extract_take (s : ByteArray) (n : Nat) : (s.extract 0 n).data.toList = s.data.toList.take n := by
  rw [Lib.extract_data]; simp
theorem extract_drop (s : ByteArray) (n : Nat) : (s.extract n s.size).data.toList = s.data.toList.drop n := by
  rw [Lib.extract_data, List.take_of_length_le]
  simp

set_option maxHeartbeats 400000 in
theorem cutDigits_any (w : World) (s : ByteArray) (hs : s.size ≤ 1000) :
    Calls Tryz.prog 76 #[.string s] w fun e w' => ∃ d r : ByteArray, e = .returned (.tuple #[.string d, .string r]) ∧ d.data.toList = s.data.toList.takeWhile isDig ∧ r.data.toList = s.data.toList.dropWhile isDig ∧ ∃ n, w' = w.drewN n := by
  have hsz : s.data.toList.length = s.size := by simp
  have HSZ : Hid (s.data.toList.length = s.size) := hsz
  clear hsz
  go_enter Tryz.func76, Tryz.ntmps76
  go_wp2
  go_loop [4] (fun i => ∃ k : Nat, k ≤ s.size ∧ i = .int .i64 k ∧ ∀ x ∈ s.data.toList.take k, isDig x = true) (fun i => s.size - (intOf i).toNat)
  case atStart => exact ⟨0, Nat.zero_le _, rfl, by simp⟩
  case round =>
    obtain ⟨k, hk, rfl, hall⟩ := hrel
    have HALL : Hid (∀ x ∈ s.data.toList.take k, isDig x = true) := hall
    clear hall
    by_cases hlt : k < s.size
    · have hg := take_get hlt
      have HG : Hid (s.data.toList[k]? = some s[k]) := hg
      clear hg
      by_cases hdg : 48 ≤ s[k].toNat ∧ s[k].toNat ≤ 57
      · obtain ⟨h1, h2⟩ := hdg
        go_wp2
        go_round
        case rel =>
          refine ⟨k + 1, by omega, by go_num, ?_⟩
          intro x hx
          rw [take_snoc_get HG.out] at hx
          rcases List.mem_append.1 hx with h | h
          · exact HALL.out x h
          · simp at h; subst h; simp [isDig]; omega
        case measure => simp [intOf]; omega
      · have HD : Hid (¬ (48 ≤ s[k].toNat ∧ s[k].toNat ≤ 57)) := hdg
        have fin := takeWhile_at (p := isDig) (l := s.data.toList) (k := k) HALL.out (fun x hx => by
          rw [HG.out] at hx; cases hx; simp only [isDig]; have := HD.out; simp; omega)
        have HF : Hid (s.data.toList.takeWhile isDig = s.data.toList.take k ∧ s.data.toList.dropWhile isDig = s.data.toList.drop k) := fin
        clear fin hdg
        by_cases h1 : 48 ≤ s[k].toNat
        · have h2 : 57 < s[k].toNat := by have := HD.out; omega
          go_wp2
          go_quiet (fail)
          go_wp2
          go_ret2
          exact ⟨_, _, rfl, by rw [HF.out.1]; exact extract_take _ _, by rw [HF.out.2]; exact extract_drop _ _, _, rfl⟩
        · go_wp2
          go_quiet (fail)
          go_wp2
          go_ret2
          exact ⟨_, _, rfl, by rw [HF.out.1]; exact extract_take _ _, by rw [HF.out.2]; exact extract_drop _ _, _, rfl⟩
    · have fin := takeWhile_at (p := isDig) (l := s.data.toList) (k := k) HALL.out (fun x hx => by
          have := (List.getElem?_eq_some_iff.1 hx).1; have := HSZ.out; omega)
      have HF : Hid (s.data.toList.takeWhile isDig = s.data.toList.take k ∧ s.data.toList.dropWhile isDig = s.data.toList.drop k) := fin
      clear fin
      go_wp2
      go_quiet (fail)
      go_wp2
      go_ret2
      exact ⟨_, _, rfl, by rw [HF.out.1]; exact extract_take _ _, by rw [HF.out.2]; exact extract_drop _ _, _, rfl⟩

set_option maxRecDepth 5000 in
set_option maxHeartbeats 400000 in
theorem smallWhole_any (w : World) (s : ByteArray) (hd : Digs s.data.toList) (hs : s.size ≤ 1000) :
    Calls Tryz.prog 86 #[.string s] w fun e w' => e = .returned (.int .i64 ((smallW s.data.toList : Nat) : Int)) ∧ w' = w := by
  have hsz : s.data.toList.length = s.size := by simp
  have HSZ : Hid (s.data.toList.length = s.size) := hsz
  clear hsz
  go_enter Tryz.func86, Tryz.ntmps86
  go_wp2
  go_loop [3, 4] (fun v i => ∃ k : Nat, k ≤ s.size ∧ i = .int .i64 k ∧ v = .int .i64 ((smallW (s.data.toList.take k) : Nat) : Int)) (fun _ i => s.size - (intOf i).toNat)
  case atStart => exact ⟨0, Nat.zero_le _, rfl, rfl⟩
  case round =>
    obtain ⟨k, hk, rfl, rfl⟩ := hrel
    have hle := smallW_le (l := s.data.toList.take k) (fun x hx => hd x (List.mem_of_mem_take hx))
    generalize hV : smallW (s.data.toList.take k) = V at *
    have HV : Hid (smallW (s.data.toList.take k) = V) := hV
    clear hV
    by_cases hlt : k < s.size
    · have hg := take_get hlt
      have hb := isDig_bd (hd _ (List.mem_of_getElem? hg))
      have HG : Hid (s.data.toList[k]? = some s[k]) := hg
      have HB : Hid (48 ≤ s[k].toNat ∧ s[k].toNat ≤ 57) := hb
      clear hg hb
      by_cases hv : V < 1000
      · go_wp2
        go_round
        case rel =>
          refine ⟨k + 1, by omega, by go_num, ?_⟩
          rw [take_snoc_get HG.out, smallW_snoc, HV.out, if_pos hv]
          have := HB.out
          go_num
        case measure => simp [intOf]; omega
      · go_wp2
        go_ret
        refine ⟨ret_int ?_, rfl⟩
        have := smallW_stay (s.data.toList.take k) (s.data.toList.drop k) (by rw [HV.out]; omega)
        rw [List.take_append_drop, HV.out] at this
        rw [this]
    · go_wp2
      go_ret
      refine ⟨ret_int ?_, rfl⟩
      have e := HV.out
      rw [List.take_of_length_le (by rw [HSZ.out]; omega)] at e
      rw [e]

end Go.Proofs.YthdcceackfdbbabGreatDoor
/- Walks: cutSign, scanPower. Own text. -/
namespace Go.Proofs.YthdcceackfdbbabGreatDoor
open Go.RowKit

theorem bytes_ne {s : ByteArray} {c : UInt8} {r : List UInt8} (h : s.data.toList = c :: r) : s.toList.isEmpty = false := by rw [bytes_toList, h]; rfl
theorem bytes_nil {s : ByteArray} (h : s.data.toList = []) : s.toList.isEmpty = true := by rw [bytes_toList, h]; rfl
theorem bytes_size {s : ByteArray} {l : List UInt8} (h : s.data.toList = l) : s.size = l.length := by subst h; simp
theorem bytes_head {s : ByteArray} {c : UInt8} {r : List UInt8} (h : s.data.toList = c :: r) (hp : 0 < s.size) : s[0] = c := by
  have := take_get hp
  rw [h] at this
  simpa using this.symm
theorem drop_one {s : ByteArray} {c : UInt8} {r : List UInt8} (h : s.data.toList = c :: r) : (s.extract 1 s.size).data.toList = r := by rw [extract_drop, h]; rfl

set_option maxRecDepth 5000 in
set_option maxHeartbeats 400000 in
theorem cutSign_any (w : World) (s : ByteArray) (hs : s.size ≤ 1000) :
    Calls Tryz.prog 73 #[.string s] w fun e w' => ∃ r : ByteArray, e = .returned (.tuple #[.bool (signL s.data.toList).1, .string r]) ∧ r.data.toList = (signL s.data.toList).2 ∧ ∃ n, w' = w.drewN n := by
  cases hl : s.data.toList with
  | nil =>
    have he := bytes_nil hl
    have HL : Hid (s.data.toList = []) := hl
    clear hl
    go_enter Tryz.func73, Tryz.ntmps73
    go_wp2
    go_ret2
    exact ⟨s, rfl, HL.out, 0, rfl⟩
  | cons c r =>
    have he := bytes_ne hl
    have hsz := bytes_size hl
    have hp : 0 < s.size := by simp at hsz; omega
    have hh := bytes_head hl hp
    have HH : Hid (s[0] = c) := hh
    have HD : Hid ((s.extract 1 s.size).data.toList = r) := drop_one hl
    have HL : Hid (s.data.toList = c :: r) := hl
    clear hl hsz hh
    by_cases c1 : c = 43
    · have b1 : ((s[0].toNat : Int) != 43) = false := by rw [HH.out, c1]; rfl
      have b2 : ((s[0].toNat : Int) == 45) = false := by rw [HH.out, c1]; rfl
      go_enter Tryz.func73, Tryz.ntmps73
      go_wp2
      go_quiet (fail)
      go_wp2
      go_ret2
      exact ⟨s.extract 1 s.size, by simp [signL, c1], by rw [HD.out]; simp [signL, c1], _, rfl⟩
    · by_cases c2 : c = 45
      · have b1 : ((s[0].toNat : Int) != 43) = true := by rw [HH.out, c2]; rfl
        have b2 : ((s[0].toNat : Int) != 45) = false := by rw [HH.out, c2]; rfl
        have b3 : ((s[0].toNat : Int) == 45) = true := by rw [HH.out, c2]; rfl
        go_enter Tryz.func73, Tryz.ntmps73
        go_wp2
        go_quiet (fail)
        go_wp2
        go_ret2
        exact ⟨s.extract 1 s.size, by simp [signL, c2], by rw [HD.out]; simp [signL, c2], _, rfl⟩
      · have b1 : ((s[0].toNat : Int) != 43) = true := by
          rw [HH.out]; simp; intro h; exact c1 (UInt8.toNat_inj.1 (by rw [show (43 : UInt8).toNat = 43 from rfl]; omega))
        have b2 : ((s[0].toNat : Int) != 45) = true := by
          rw [HH.out]; simp; intro h; exact c2 (UInt8.toNat_inj.1 (by rw [show (45 : UInt8).toNat = 45 from rfl]; omega))
        go_enter Tryz.func73, Tryz.ntmps73
        go_wp2
        go_ret2
        exact ⟨s, by simp [signL, c1, c2], by rw [HL.out]; simp [signL, c1, c2], 0, rfl⟩

theorem digs_takeWhile (l : List UInt8) : Digs (l.takeWhile isDig) := fun x hx => by
  have := List.all_takeWhile (p := isDig) (l := l)
  exact List.all_eq_true.1 this x hx

theorem signL_len (l : List UInt8) : (signL l).2.length ≤ l.length := by
  cases l with
  | nil => simp [signL]
  | cons c r => simp only [signL]; split <;> (try split) <;> simp

theorem takeWhile_len (l : List UInt8) : (l.takeWhile isDig).length ≤ l.length := (List.takeWhile_sublist isDig).length_le
theorem dropWhile_len (l : List UInt8) : (l.dropWhile isDig).length ≤ l.length := (List.dropWhile_sublist isDig).length_le

/-- What scanPower answers. -/
def powV (l : List UInt8) : Array Value := match powL l with
  | some p => #[.int .i64 p, .bool true]
  | none => #[.int .i64 0, .bool false]

set_option maxRecDepth 5000 in
set_option maxHeartbeats 800000 in
theorem scanPower_any (w : World) (s : ByteArray) (hs : s.size ≤ 1000) :
    Calls Tryz.prog 78 #[.string s] w fun e w' => e = .returned (.tuple (powV s.data.toList)) ∧ ∃ n, w' = w.drewN n := by
  cases hl : s.data.toList with
  | nil =>
    have he := bytes_nil hl
    clear hl
    go_enter Tryz.func78, Tryz.ntmps78
    go_wp2
    go_ret2
    exact ⟨rfl, 0, rfl⟩
  | cons c r =>
    have he := bytes_ne hl
    have hsz := bytes_size hl
    have hp : 0 < s.size := by simp at hsz; omega
    have hh := bytes_head hl hp
    have HH : Hid (s[0] = c) := hh
    have HD : Hid ((s.extract 1 s.size).data.toList = r) := drop_one hl
    have HSZ : Hid (s.size = r.length + 1) := by unfold Hid; simpa using hsz
    clear hl hsz hh
    by_cases cc : c = 101 ∨ c = 69
    · have key : (((s[0].toNat : Int) != 101) = false) ∨ (((s[0].toNat : Int) != 101) = true ∧ ((s[0].toNat : Int) != 69) = false) := by
        rw [HH.out]; rcases cc with h | h
        · left; rw [h]; rfl
        · right; rw [h]; exact ⟨rfl, rfl⟩
      have CC : Hid (c = 101 ∨ c = 69) := cc
      clear cc
      have HPW : Hid (powV (c :: r) = match (if (signL r).2.takeWhile isDig = [] ∨ (signL r).2.dropWhile isDig ≠ [] then none
       else some (if (signL r).1 then -(smallW ((signL r).2.takeWhile isDig) : Int) else (smallW ((signL r).2.takeWhile isDig) : Int))) with
          | some p => #[.int .i64 p, .bool true]
          | none => #[.int .i64 0, .bool false]) := by unfold Hid powV; simp only [powL]; rw [if_pos CC.out]
      have hsl := signL_len r
      rcases key with b1 | ⟨b1, b2⟩
      all_goals
        go_enter Tryz.func78, Tryz.ntmps78
        go_wp2_with fail
        refine (cutSign_any _ (s.extract 1 s.size) (by rw [bytes_size HD.out]; have := HSZ.out; omega)).mono ?_
        rintro e w1 ⟨r1, rfl, hr1, n1, rfl⟩
        rw [HD.out] at hr1 ⊢
        generalize signL r = sg at *
        obtain ⟨m, sr⟩ := sg
        have HR1 : Hid (r1.data.toList = sr) := hr1
        clear hr1
        go_wp2_with fail
        refine (cutDigits_any _ r1 (by rw [bytes_size HR1.out]; have := HSZ.out; omega)).mono ?_
        rintro e w2 ⟨d, r2, rfl, hd, hr2, n2, rfl⟩
        rw [HR1.out] at hd hr2
        have hdl := takeWhile_len sr
        have hdg := digs_takeWhile sr
        generalize hds : sr.takeWhile isDig = ds at *
        generalize hrs : sr.dropWhile isDig = rs at *
        have HDD : Hid (d.data.toList = ds) := hd
        have HR2 : Hid (r2.data.toList = rs) := hr2
        clear hds hrs hd hr2
        by_cases e1 : ds = []
        · have he1 := bytes_nil (HDD.out.trans e1)
          go_wp2
          go_ret2
          refine ⟨?_, _, by first | rfl | rw [World.drewN_drewN]⟩
          rw [HPW.out, if_pos (.inl e1)]
          rfl
        · have he1 : d.toList.isEmpty = false := by rw [bytes_toList, HDD.out]; cases ds with | nil => exact absurd rfl e1 | cons _ _ => rfl
          by_cases e2 : rs = []
          · have he2 := bytes_nil (HR2.out.trans e2)
            have hdg2 : Digs d.data.toList := by rw [HDD.out]; exact hdg
            have hsw := smallW_le hdg
            have HPV := HPW.out
            rw [if_neg (by rintro (h | h); exact e1 h; exact h e2)] at HPV
            have HPV2 : Hid (powV (c :: r) = #[.int .i64 (if m = true then -(smallW ds : Int) else (smallW ds : Int)), .bool true]) := HPV
            clear HPV HPW e1 e2
            go_wp2_with fail
            refine (smallWhole_any _ d hdg2 (by rw [bytes_size HDD.out]; have := HSZ.out; omega)).mono ?_
            rintro e w3 ⟨rfl, rfl⟩
            rw [HDD.out]
            generalize smallW ds = sw at *
            cases m with
            | true =>
              go_wp2
              go_ret2
              exact ⟨by rw [HPV2.out]; rfl, _, by first | rfl | rw [World.drewN_drewN]⟩
            | false =>
              go_wp2
              go_ret2
              exact ⟨by rw [HPV2.out]; rfl, _, by first | rfl | rw [World.drewN_drewN]⟩
          · have he2 : r2.toList.isEmpty = false := by rw [bytes_toList, HR2.out]; cases rs with | nil => exact absurd rfl e2 | cons _ _ => rfl
            go_wp2
            go_ret2
            refine ⟨?_, _, by first | rfl | rw [World.drewN_drewN]⟩
            rw [HPW.out, if_pos (.inr e2)]
            rfl
    · have hne : c.toNat ≠ 101 ∧ c.toNat ≠ 69 := ⟨fun h => cc (.inl (UInt8.toNat_inj.1 h)), fun h => cc (.inr (UInt8.toNat_inj.1 h))⟩
      have b1 : ((s[0].toNat : Int) != 101) = true := by rw [HH.out]; simp; omega
      have b2 : ((s[0].toNat : Int) != 69) = true := by rw [HH.out]; simp; omega
      have HPW : Hid (powV (c :: r) = #[.int .i64 0, .bool false]) := by unfold Hid powV; simp only [powL]; rw [if_neg cc]
      clear cc hne
      go_enter Tryz.func78, Tryz.ntmps78
      go_wp2
      go_ret2
      exact ⟨by rw [HPW.out]; rfl, 0, rfl⟩

end Go.Proofs.YthdcceackfdbbabGreatDoor
