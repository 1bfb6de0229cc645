/- Walks: whole, taken. Own text. -/
import Derived.Test.YthdcceackfdbbaaDoorMc
namespace Go.Proofs.YthdcceackfdbbaaDoor
open Go.RowKit

theorem dval_take_lt {l : List UInt8} (h : Digs l) {k n : Nat} (hk : k ≤ n) (hn : n ≤ 6) : dval (l.take k) < 1000000 := by
  have h1 : Digs (l.take k) := fun x hx => h x (List.mem_of_mem_take hx)
  have h2 := dval_lt h1
  have h3 : (l.take k).length ≤ 6 := by rw [List.length_take]; omega
  exact Nat.lt_of_lt_of_le h2 (Nat.le_trans (Nat.pow_le_pow_right (by omega) h3) (by decide))

theorem dd_form {u : Nat} (h : u < 1000) : Digs (Lib.decDigits u) ∧ dval (Lib.decDigits u) = u ∧ 1 ≤ (Lib.decDigits u).length ∧ (Lib.decDigits u).length ≤ 3 := by
  obtain ⟨d1, d2, _, d4⟩ := dd_all u
  refine ⟨d1, d2, ?_, dd_len (by omega) (by omega)⟩
  cases hc : Lib.decDigits u with
  | nil => exact absurd hc d4
  | cons c r => simp

theorem tupB {a b : Int} {c : Bool} (h1 : a = b) (h2 : c = true) : Ending.returned (.tuple #[.int .i64 a, .bool c]) = .returned (.tuple #[.int .i64 b, .bool true]) := by rw [h1, h2]

set_option maxRecDepth 5000 in
set_option maxHeartbeats 800000 in
theorem whole_any (w : World) (s : ByteArray) (q : Int) (h : s.data.toList = Lib.itoa q) (h1 : -1000 < q) (h2 : q < 1000) :
    Calls Tryd.prog 28 #[.string s] w fun e w' => e = .returned (.tuple #[.int .i64 q, .bool true]) ∧ w' = w := by
  obtain ⟨u, hu, hq⟩ := itoa_form h1 h2
  obtain ⟨d1, d2, d3, d4⟩ := dd_form hu
  have HD1 := Hid.mk' d1
  have HD2 := Hid.mk' d2
  rcases hq with ⟨hq, e, hi⟩ | ⟨hq, e, hi⟩
  · rw [hi] at h
    have hsz := bytes_size h
    rw [List.length_cons] at hsz
    have hp : 0 < s.size := by omega
    have hh := bytes_head h hp
    have hb : ((s[0].toNat : Int) == 45) = true := by rw [hh]; rfl
    have hd := drop_one h
    obtain ⟨t, ht⟩ : ∃ t, s.extract 1 s.size = t := ⟨_, rfl⟩
    rw [ht] at hd
    have HTL := Hid.mk' hd
    have hts := bytes_size hd
    have hsI : (1 : Int) ≤ (s.size : Int) := by omega
    have HQ := Hid.mk' e
    have hl : t.data.toList.length = t.size := by simp
    have HL := Hid.mk' hl
    have hu2 : (u : Int) < 1000 := by omega
    clear h hh hd d1 d2 hi hsz e hl
    go_enter Tryd.func28, Tryd.ntmps28
    go_wp2
    first | go_quiet (fail) | skip
    go_loop [5, 6] (fun v i => ∃ k : Nat, k ≤ t.size ∧ i = .int .i64 k ∧ v = .int .i64 ((dval (t.data.toList.take k) : Nat) : Int)) (fun _ i => t.size - (intOf i).toNat)
    case atStart => exact ⟨0, Nat.zero_le _, rfl, rfl⟩
    case round =>
      obtain ⟨k, hk, rfl, rfl⟩ := hrel
      have hdT : Digs t.data.toList := by rw [HTL.out]; exact HD1.out
      have hle := dval_take_lt hdT (show k ≤ k from Nat.le_refl _) (show k ≤ 6 by omega)
      have HDX := Hid.mk' hdT
      clear hdT
      generalize hV : dval (t.data.toList.take k) = V at *
      have HV : Hid (dval (t.data.toList.take k) = V) := hV
      clear hV
      by_cases hlt : k < t.size
      · have hg := take_get hlt
        have hb2 := isDig_bd (HDX.out _ (List.mem_of_getElem? hg))
        have HG : Hid (t.data.toList[k]? = some t[k]) := hg
        have hc1 : 48 ≤ t[k].toNat := hb2.1
        have hc2 : t[k].toNat ≤ 57 := hb2.2
        clear hg hb2
        go_wp2
        go_round
        case rel =>
          refine ⟨k + 1, by omega, by go_num, ?_⟩
          rw [take_snoc_get HG.out, dval_snoc, HV.out]
          go_num
        case measure => simp [intOf]; omega
      · have hVu : V = u := by
          have e := HV.out
          rw [List.take_of_length_le (by rw [HL.out]; omega), HTL.out, HD2.out] at e
          exact e.symm
        clear HV
        go_wp2
        go_ret2
        exact ⟨tupB (by rw [HQ.out, ← hVu]) (by simp; omega), rfl⟩
  · rw [hi] at h
    have hts := bytes_size h
    have hp : 0 < s.size := by omega
    obtain ⟨c, r, hcr⟩ : ∃ c r, s.data.toList = c :: r := by
      cases hh : s.data.toList with
      | nil => rw [hh] at h; rw [← h] at d3; simp at d3
      | cons c r => exact ⟨c, r, rfl⟩
    have hh := bytes_head hcr hp
    have hcd : isDig c = true := d1 c (by rw [← h, hcr]; simp)
    have hcb := isDig_bd hcd
    have hb : ((s[0].toNat : Int) == 45) = false := by rw [hh]; simp; omega
    have HTL := Hid.mk' h
    have HQ := Hid.mk' e
    have hl : s.data.toList.length = s.size := by simp
    have HL := Hid.mk' hl
    have hu2 : (u : Int) < 1000 := by omega
    clear h hh d1 d2 hi e hl hcr hcd hcb
    go_enter Tryd.func28, Tryd.ntmps28
    go_wp2
    go_loop [5, 6] (fun v i => ∃ k : Nat, k ≤ s.size ∧ i = .int .i64 k ∧ v = .int .i64 ((dval (s.data.toList.take k) : Nat) : Int)) (fun _ i => s.size - (intOf i).toNat)
    case atStart => exact ⟨0, Nat.zero_le _, rfl, rfl⟩
    case round =>
      obtain ⟨k, hk, rfl, rfl⟩ := hrel
      have hdT : Digs s.data.toList := by rw [HTL.out]; exact HD1.out
      have hle := dval_take_lt hdT (show k ≤ k from Nat.le_refl _) (show k ≤ 6 by omega)
      have HDX := Hid.mk' hdT
      clear hdT
      generalize hV : dval (s.data.toList.take k) = V at *
      have HV : Hid (dval (s.data.toList.take k) = V) := hV
      clear hV
      by_cases hlt : k < s.size
      · have hg := take_get hlt
        have hb2 := isDig_bd (HDX.out _ (List.mem_of_getElem? hg))
        have HG : Hid (s.data.toList[k]? = some s[k]) := hg
        have hc1 : 48 ≤ s[k].toNat := hb2.1
        have hc2 : s[k].toNat ≤ 57 := hb2.2
        clear hg hb2
        go_wp2
        go_round
        case rel =>
          refine ⟨k + 1, by omega, by go_num, ?_⟩
          rw [take_snoc_get HG.out, dval_snoc, HV.out]
          go_num
        case measure => simp [intOf]; omega
      · have hVu : V = u := by
          have e := HV.out
          rw [List.take_of_length_le (by rw [HL.out]; omega), HTL.out, HD2.out] at e
          exact e.symm
        clear HV
        go_wp2
        go_ret2
        exact ⟨tupB (by rw [HQ.out, ← hVu]) (by simp; omega), rfl⟩

end Go.Proofs.YthdcceackfdbbaaDoor
