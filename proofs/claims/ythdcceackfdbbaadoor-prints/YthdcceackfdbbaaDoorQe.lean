/- Walks over the reference: decimals, count. Own text. -/
import Derived.Test.YthdcceackfdbbaaDoorQa
import Derived.Lib.ConvBytes
namespace Go.Proofs.YthdcceackfdbbaaDoor
open Go.RowKit
attribute [local go_sem ↓] Go.wp_at_zero Go.wp_at_succ

def strSz : Value → Nat
  | .string b => b.size
  | _ => 0

theorem dval_one (c : UInt8) : dval [c] = c.toNat - 48 := by simp [dval]

theorem dig_front {P : List UInt8} {k m x : Nat} (hd : Digs P) (hl : P.length = k) (hv : dval P + 10 ^ k * m = x) :
    Digs (UInt8.ofNat (48 + m % 10) :: P) ∧ (UInt8.ofNat (48 + m % 10) :: P).length = k + 1 ∧ dval (UInt8.ofNat (48 + m % 10) :: P) + 10 ^ (k + 1) * (m / 10) = x := by
  have hm : m % 10 < 10 := Nat.mod_lt _ (by omega)
  refine ⟨?_, by simp [hl], ?_⟩
  · intro c hc
    rcases List.mem_cons.1 hc with rfl | hc
    · exact isDig_of hm
    · exact hd c hc
  · have e := dval_append [UInt8.ofNat (48 + m % 10)] P
    simp only [List.cons_append, List.nil_append] at e
    rw [e, dval_one, u8_dig hm, hl, show 48 + m % 10 - 48 = m % 10 by omega, Nat.pow_succ, ← hv]
    have h2 : m = 10 * (m / 10) + m % 10 := (Nat.div_add_mod m 10).symm
    have h3 : 10 ^ k * m = 10 ^ k * 10 * (m / 10) + m % 10 * 10 ^ k := by
      conv => lhs; rw [h2, Nat.mul_add]
      rw [Nat.mul_assoc, Nat.mul_comm (m % 10)]
    omega

theorem place_front {P L : List UInt8} {l : List Nat} {i m x : Nat} (hP : Digs P) (hL : Digs L) (hl : P.length = 9) (hv : dval P + 10 ^ 9 * m = x) (hx : l[i]? = some x) (hw : x < 1000000000) (hLl : L.length = 9 * i) (hLv : dval L = valB (l.take i)) :
    Digs (P ++ L) ∧ (P ++ L).length = 9 * (i + 1) ∧ dval (P ++ L) = valB (l.take (i + 1)) := by
  refine ⟨digs_append hP hL, by simp [hl, hLl]; omega, ?_⟩
  have hm : m = 0 := by
    rcases Nat.eq_zero_or_pos m with h | h
    · exact h
    · have : 10 ^ 9 * 1 ≤ 10 ^ 9 * m := Nat.mul_le_mul_left _ h
      omega
  subst hm
  rw [dval_append, hLl, hLv, val_take_succB (.inl hx), Nat.pow_mul, show (10 : Nat) ^ 9 = 1000000000 from rfl]
  have : dval P = x := by simpa using hv
  rw [this, Nat.mul_comm x]
  omega

/-- What is left behind noughts ahead. -/
theorem drop_end {R : List UInt8} (h : ∀ c r, R = c :: r → (c == 48) = false) : R.dropWhile (· == 48) = R := by
  cases R with
  | nil => rfl
  | cons c r => rw [List.dropWhile_cons_of_neg (by simp [h c r rfl])]

theorem one_conv (w : World) (m : Nat) :
    (convert 48 9 (.slice (some ⟨w.heap.size, 0, none⟩) 1 1)).run Tryd.prog (w.alloc (.cells #[.int .u8 (48 + (m : Int) % 10)] 5)) = .ok (.string ⟨#[UInt8.ofNat (48 + m % 10)]⟩) (w.alloc (.cells #[.int .u8 (48 + (m : Int) % 10)] 5)) := by
  refine run_convert_bytes_back (w.alloc (.cells #[.int .u8 (48 + (m : Int) % 10)] 5)) 48 9 5 ⟨w.heap.size, 0, none⟩ 1 [UInt8.ofNat (48 + m % 10)] Tryd.underlying48 Tryd.underlying5 Tryd.underlying9 ?_
  intro j hj
  have : j = 0 := by simpa using hj
  subst this
  have e := u8_dig (d := m % 10) (Nat.mod_lt _ (by omega))
  have e2 : (48 + (m : Int) % 10) = (((UInt8.ofNat (48 + m % 10)).toNat : Nat) : Int) := by rw [e]; omega
  rw [Lib.add_plain, e2]
  simp

set_option maxRecDepth 20000 in
set_option maxHeartbeats 3200000 in
theorem decimals_any (w : World) (v : Value) (n : Nat) (h : RepB w 0 v n) (hs : SmallB n) (hn0 : n ≠ 0) :
    Calls Tryd.prog 39 #[v] w fun e w' => ∃ t : ByteArray, e = .returned (.string t) ∧ t.data.toList = Lib.decDigits n ∧ Below w.heap.size w w' := by
  obtain ⟨l, ho, hcan, hval, hlen⟩ := h.own hs
  obtain ⟨ao, cap, rfl, hlc, hcap, hcell⟩ := ho.shape1
  have HA : Hid (∀ (i x : Nat), l[i]? = some x → x < 1000000000 ∧ ∃ g, ao = some ⟨g, 0, none⟩ ∧ 0 ≤ g ∧ g < w.heap.size ∧ w.cell? ⟨g, i, none⟩ = some (.int .i64 (x : Int))) := hcell
  have HV : Hid (valB l = n) := hval
  have HN : Hid (n ≠ 0) := hn0
  clear hcell hcap hval h hs ho hcan hn0
  go_enter Tryd.func39, Tryd.ntmps39
  go_wp2
  go_loopw [3, 4] (fun q i wr => ∃ (k : Nat) (t : ByteArray), k ≤ l.length ∧ i = .int .i64 k ∧ q = .string t ∧ Digs t.data.toList ∧ t.data.toList.length = 9 * k ∧ dval t.data.toList = valB (l.take k) ∧ Below w.heap.size w wr) (fun _ i _ => l.length - (intOf i).toNat)
  case atStart => exact ⟨0, ⟨#[]⟩, Nat.zero_le _, rfl, rfl, by intro c hc; simp at hc, by simp, by simp [dval, valB], Below.refl _ _⟩
  case round =>
    obtain ⟨k, t, hk, rfl, rfl, hd, htl, hdv, hbel⟩ := hrel
    by_cases hlt : k < l.length
    · obtain ⟨x, hx⟩ : ∃ x, l[k]? = some x := ⟨l[k], by simp [*]⟩
      obtain ⟨hxb, g, rfl, _, hg, hc⟩ := HA.out k x hx
      have hcr := hbel.cell (p := ⟨g, k, none⟩) hg
      rw [hc] at hcr
      have HX : Hid (l[k]? = some x) := hx
      have HT : Hid (Digs t.data.toList ∧ t.data.toList.length = 9 * k ∧ dval t.data.toList = valB (l.take k)) := ⟨hd, htl, hdv⟩
      have hts : t.size = 9 * k := by rw [bytes_size rfl]; exact htl
      clear hx hc hd htl hdv
      go_wp2
      go_loopw [3, 5, 6] (fun q y i wx => ∃ (j m : Nat) (P : List UInt8) (u : ByteArray), j ≤ 9 ∧ i = .int .i64 j ∧ y = .int .i64 m ∧ q = .string u ∧ u.data.toList = P ++ t.data.toList ∧ Digs P ∧ P.length = j ∧ dval P + 10 ^ j * m = x ∧ m ≤ x ∧ Below w.heap.size w wx) (fun _ _ i _ => 9 - (intOf i).toNat)
      case atStart => exact ⟨0, x, [], t, by omega, rfl, rfl, rfl, rfl, by intro c hc; simp at hc, rfl, by simp [dval], Nat.le_refl _, hbel⟩
      case round =>
        clear hbel hcr
        obtain ⟨j, m, P, u, hj, rfl, rfl, rfl, hu, hP, hPl, hPv, hmx, hbel⟩ := hrel
        have hus : u.size ≤ 9 * k + 9 := by rw [bytes_size hu]; simp; rw [hPl]; have := HT.out.2.1; omega
        have HU : Hid (u.data.toList = P ++ t.data.toList) := hu
        have HP : Hid (Digs P ∧ P.length = j ∧ dval P + 10 ^ j * m = x) := ⟨hP, hPl, hPv⟩
        clear hu hP hPl hPv
        by_cases hj9 : j < 9
        · have hsz := hbel.size
          have hcv := one_conv wr m
          go_wp2
          go_roundw
          case rel =>
            obtain ⟨p1, p2, p3⟩ := HP.out
            obtain ⟨z1, z2, z3⟩ := dig_front p1 p2 p3
            refine ⟨j + 1, m / 10, _, _, by omega, by go_num, by go_num, rfl, ?_, z1, z2, z3, by omega, hbel.alloc hsz _⟩
            rw [bytes_append_list, HU.out]
            simp
          case measure => simp [intOf]; omega
        · have hj0 : j = 9 := by omega
          subst hj0
          go_wp2
          go_roundw
          case rel =>
            obtain ⟨p1, p2, p3⟩ := HP.out
            obtain ⟨t1, t2, t3⟩ := HT.out
            obtain ⟨z1, z2, z3⟩ := place_front p1 t1 p2 p3 HX.out hxb t2 t3
            exact ⟨k + 1, u, by omega, by go_num, rfl, by rw [HU.out]; exact z1, by rw [HU.out]; exact z2, by rw [HU.out]; exact z3, hbel⟩
          case measure => simp [intOf]; omega
    · have hkk : k = l.length := by omega
      subst hkk
      rw [List.take_length, HV.out] at hdv
      have hts : t.size ≤ 2700 := by rw [bytes_size rfl, htl]; omega
      have HT : Hid (Digs t.data.toList ∧ dval t.data.toList = n) := ⟨hd, hdv⟩
      clear hd htl hdv
      go_wp2
      go_loop [3] (fun q => ∃ u : ByteArray, q = .string u ∧ u.size ≤ 2700 ∧ u.data.toList.dropWhile (· == 48) = t.data.toList.dropWhile (· == 48)) (fun q => strSz q)
      case atStart => exact ⟨t, rfl, hts, rfl⟩
      case round =>
        obtain ⟨u, rfl, hus, hud⟩ := hrel
        have HUD : Hid (u.data.toList.dropWhile (· == 48) = t.data.toList.dropWhile (· == 48)) := hud
        clear hud
        by_cases hz : 0 < u.size
        · by_cases hc : (u[0] == 48) = true
          · have hb : ((u[0].toNat : Int) == 48) = true := by rw [eq_of_beq hc]; rfl
            have hi1 : (1 : Int) ≤ (u.size : Int) := by omega
            obtain ⟨c, r, hcr⟩ : ∃ c r, u.data.toList = c :: r := by
              cases hl : u.data.toList with
              | nil => have := bytes_size hl; rw [List.length_nil] at this; omega
              | cons c r => exact ⟨c, r, rfl⟩
            have hc0 := bytes_head hcr hz
            have HE : Hid ((u.extract 1 u.size).data.toList = r ∧ (u.extract 1 u.size).size = u.size - 1 ∧ r.dropWhile (· == 48) = t.data.toList.dropWhile (· == 48)) := by
              have e1 := drop_one hcr
              refine ⟨e1, by rw [bytes_size e1, bytes_size hcr]; simp, ?_⟩
              rw [← HUD.out, hcr, List.dropWhile_cons_of_pos (by rw [← hc0]; exact hc)]
            clear hcr hc0 hc
            go_wp2
            go_round
            case rel => exact ⟨_, rfl, by rw [HE.out.2.1]; omega, by rw [HE.out.1]; exact HE.out.2.2⟩
            case measure => simp [strSz]; omega
          · have hc' : (u[0] == 48) = false := by simpa using hc
            have hb : ((u[0].toNat : Int) == 48) = false := by simp; intro h; exact hc (by rw [show u[0] = 48 from UInt8.toNat_inj.1 (by rw [show (48 : UInt8).toNat = 48 from rfl]; omega)]; rfl)
            go_wp2
            go_ret
            refine ⟨u, rfl, ?_, hbel⟩
            have e1 : u.data.toList = t.data.toList.dropWhile (· == 48) := by
              rw [← HUD.out]
              refine (drop_end ?_).symm
              intro c r hcr
              rw [← bytes_head hcr hz]
              exact hc'
            rw [e1]
            exact dd_unique (digs_drop HT.out.1 _) (drop_zero _) (by rw [dval_drop]; exact HT.out.2) HN.out
        · have hz0 : u.size = 0 := by omega
          exfalso
          have e1 : t.data.toList.dropWhile (· == 48) = [] := by
            rw [← HUD.out]
            cases hl : u.data.toList with
            | nil => rfl
            | cons c r => have := bytes_size hl; rw [List.length_cons] at this; omega
          have e2 := dval_drop t.data.toList
          rw [e1, HT.out.2] at e2
          exact HN.out (by simpa [dval] using e2.symm)

theorem smallB_int {n : Nat} (h : n < 9223372036854775808) : SmallB n := SmallB.of_lt (k := 63) (by omega) (by omega)

set_option maxRecDepth 20000 in
set_option maxHeartbeats 1600000 in
theorem count_pos (w : World) (n : Nat) (h1 : 1 ≤ n) (h2 : n ≤ 100000) :
    Calls Tryd.prog 21 #[.int .i64 (n : Int)] w fun e w' => ∃ t : ByteArray, e = .returned (.string t) ∧ t.data.toList = Lib.decDigits n ∧ Below w.heap.size w w' := by
  have hb : ((n : Int) == 0) = false := by simp; omega
  go_enter Tryd.func21, Tryd.ntmps21
  go_wp2_with fail
  refine (small_form _ n (by omega)).mono ?_
  rintro e w1 ⟨a, k, p, rfl, r1, b1⟩
  go_wp2_with fail
  refine (decimals_any _ _ n (r1.base (Nat.zero_le _)) (smallB_int (by omega)) (by omega)).mono ?_
  rintro e w2 ⟨t, rfl, ht, b2⟩
  go_wp2
  go_ret
  exact ⟨t, rfl, ht, b1.trans (b2.mono b1.size)⟩

theorem itoa_pos {n : Nat} : Lib.itoa (n : Int) = Lib.decDigits n := by
  unfold Lib.itoa
  rw [if_neg (by omega)]
  rfl

theorem itoa_neg {n : Nat} (h : 1 ≤ n) : Lib.itoa (-(n : Int)) = 45 :: Lib.decDigits n := by
  unfold Lib.itoa
  rw [if_pos (by omega)]
  simp

set_option maxRecDepth 20000 in
set_option maxHeartbeats 1600000 in
theorem count_any (w : World) (n : Int) (h1 : -100000 ≤ n) (h2 : n ≤ 100000) :
    Calls Tryd.prog 21 #[.int .i64 n] w fun e w' => ∃ t : ByteArray, e = .returned (.string t) ∧ t.data.toList = Lib.itoa n ∧ Below w.heap.size w w' := by
  by_cases hneg : n < 0
  · obtain ⟨m, hm⟩ : ∃ m : Nat, n = -(m : Int) := ⟨(-n).toNat, by omega⟩
    have hm1 : 1 ≤ m := by omega
    have hm2 : m ≤ 100000 := by omega
    subst hm
    have hlen : (Lib.decDigits m).length ≤ 6 := dd_len (by omega) (by omega)
    have HI := itoa_neg hm1
    go_enter Tryd.func21, Tryd.ntmps21
    go_wp2_with fail
    first
      | refine (count_pos _ m hm1 hm2).mono ?_
      | (rw [show - -(m : Int) = (m : Int) by omega]; refine (count_pos _ m hm1 hm2).mono ?_)
    rintro e w1 ⟨t, rfl, ht, b1⟩
    have hts : t.size ≤ 6 := by rw [bytes_size ht]; exact hlen
    go_wp2
    go_ret
    refine ⟨_, rfl, ?_, b1⟩
    rw [bytes_append_list, ht, HI]
    rfl
  · obtain ⟨m, hm⟩ : ∃ m : Nat, n = (m : Int) := ⟨n.toNat, by omega⟩
    subst hm
    by_cases hz : m = 0
    · subst hz
      go_enter Tryd.func21, Tryd.ntmps21
      go_wp2
      go_ret
      refine ⟨_, rfl, ?_, Below.refl _ _⟩
      have e := itoa_pos (n := 0)
      rw [Lib.decDigits] at e
      simpa using e.symm
    · rw [itoa_pos]
      exact count_pos w m (by omega) (by omega)

end Go.Proofs.YthdcceackfdbbaaDoor
