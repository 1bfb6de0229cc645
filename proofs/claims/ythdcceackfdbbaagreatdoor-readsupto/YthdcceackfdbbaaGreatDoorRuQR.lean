import Derived.Test.YthdcceackfdbbaaGreatDoorM20R
import Derived.Test.YthdcceackfdbbaaGreatDoorM10R
import Derived.Test.YthdcceackfdbbaaGreatDoorM05R

namespace Go.Proofs.YthdcceackfdbbaaGreatDoor
open Go.RowKit
theorem mid_snoc {l : List UInt8} {lo q : Nat} {x : UInt8} (hq : lo ≤ q) (hx : l[q]? = some x) : (l.drop lo).take (q + 1 - lo) = (l.drop lo).take (q - lo) ++ [x] := by
  rw [show q + 1 - lo = q - lo + 1 from by omega]
  refine take_snoc_get ?_
  rw [List.getElem?_drop, show lo + (q - lo) = q from by omega]; exact hx
theorem digs_mid {l : List UInt8} (h : Digs l) (lo n : Nat) : Digs ((l.drop lo).take n) := fun x hx => h x (List.mem_of_mem_drop (List.mem_of_mem_take hx))
theorem chunk_val {l : List UInt8} {lo en : Nat} (h : lo ≤ en) : dval (l.drop lo) = dval ((l.drop lo).take (en - lo)) * 10 ^ (l.length - en) + dval (l.drop en) := by
  have e : l.drop lo = (l.drop lo).take (en - lo) ++ l.drop en := by
    have := (List.take_append_drop (en - lo) (l.drop lo)).symm
    rw [List.drop_drop, show lo + (en - lo) = en from by omega] at this
    exact this
  have := congrArg dval e
  rw [dval_append] at this
  rw [List.length_drop] at this
  exact this
theorem chunk_step {l : List UInt8} {b : List Nat} {en lo m : Nat} (hm : l.length - en = 9 * m) (hb : b.length = m) (hlo : lo = en - 9) (h : valB b = dval (l.drop en)) :
    valB (b ++ [dval ((l.drop lo).take (en - lo))]) = dval (l.drop lo) := by
  rw [val_snocB, chunk_val (by omega : lo ≤ en), h, hb, hm]
  rw [show (1000000000 : Nat) = 10 ^ 9 from rfl, ← Nat.pow_mul]
  rw [Nat.mul_comm]
  omega
set_option maxRecDepth 20000 in
set_option maxHeartbeats 3200000 in
theorem digits_any (w : World) (s : ByteArray) (hd : Digs s.data.toList) (hs : s.size ≤ 100) :
    Calls Tryz.prog 89 #[.string s] w fun e w' => ∃ v', e = .returned v' ∧ RepB w' w.heap.size v' (dval s.data.toList) ∧ Below w.heap.size w w' := by
  have hszl : s.data.toList.length = s.size := by simp
  have HSZ : Hid (s.data.toList.length = s.size) := hszl
  clear hszl
  obtain ⟨i0, hi, hz0, hz1, hz2⟩ := info_parts Tryz.infoInt
  go_enter Tryz.func89, Tryz.ntmps89
  go_wp2
  go_loopw [3, 4] (fun v ve wr => ∃ (m : Nat) (b : List Nat) (E : Int), ve = .int .i64 E ∧ E = (s.size : Int) - 9 * m ∧ b.length = m ∧ OwnB wr w.heap.size v b ∧ -9 < E ∧ valB b = dval (s.data.toList.drop E.toNat) ∧ Below w.heap.size w wr) (fun _ ve _ => (intOf ve + 9).toNat)
  case atStart => exact ⟨0, [], s.size, rfl, by omega, rfl, ownB_nil _ _, by omega, by rw [List.drop_of_length_le (by simp)]; rfl, Below.refl _ _⟩
  case round =>
    obtain ⟨m, b, E, rfl, hE, hbm, hown, hE9, hval, hbel⟩ := hrel
    have HV : Hid (valB b = dval (s.data.toList.drop E.toNat)) := hval
    have HE : Hid (E = (s.size : Int) - 9 * m) := hE
    have HBM : Hid (b.length = m) := hbm
    have hsz := hbel.size
    have hbl : b.length ≤ 100 := by omega
    have hEs : E ≤ (s.size : Int) := by omega
    clear hval hE hbm
    by_cases hpos : 0 < E
    · obtain ⟨en, rfl⟩ := Int.eq_ofNat_of_zero_le (by omega : 0 ≤ E)
      simp only [Int.toNat_natCast] at HV
      go_wp2
      go_loop [5, 6] (fun vn vi => ∃ (I : Int) (N : Nat), vi = .int .i64 I ∧ vn = .int .i64 N ∧ (en : Int) - 9 ≤ I ∧ I ≤ en ∧ N = dval ((s.data.toList.drop (en - 9)).take (I.toNat - (en - 9)))) (fun _ vi => ((en : Int) - intOf vi).toNat)
      case atStart => exact ⟨(en : Int) - 9, 0, rfl, rfl, by omega, by omega, by rw [show ((en : Int) - 9).toNat - (en - 9) = 0 from by omega]; rfl⟩
      case round =>
        obtain ⟨I, N, rfl, rfl, hI1, hI2, hN⟩ := hrel
        have hNb : N < 1000000000 := by rw [hN]; exact Nat.lt_of_lt_of_le (dval_lt (digs_mid hd _ _)) (Nat.le_trans (Nat.pow_le_pow_right (by omega) (Nat.le_trans (List.length_take_le _ _) (by omega : I.toNat - (en - 9) ≤ 9))) (by decide))
        have HN : Hid (N = dval ((s.data.toList.drop (en - 9)).take (I.toNat - (en - 9)))) := hN
        clear hN
        by_cases hlt : I < (en : Int)
        · by_cases hI0 : 0 ≤ I
          · obtain ⟨q, rfl⟩ := Int.eq_ofNat_of_zero_le hI0
            have hqs : q < s.size := by omega
            have hg := take_get hqs
            have hbd := isDig_bd (hd _ (List.mem_of_getElem? hg))
            have HBD : Hid (48 ≤ s[q].toNat ∧ s[q].toNat ≤ 57) := hbd
            have HN2 : Hid (dval ((s.data.toList.drop (en - 9)).take (q + 1 - (en - 9))) = N * 10 + (s[q].toNat - 48)) := by
              unfold Hid; rw [mid_snoc (by omega) hg, dval_snoc]; have := HN.out; simp only [Int.toNat_natCast] at this; rw [← this]
            clear hg hbd
            go_wp2
            go_round
            case rel =>
              refine ⟨(q : Int) + 1, N * 10 + (s[q].toNat - 48), rfl, ?_, by omega, by omega, ?_⟩
              · have := HBD.out; go_num
              · rw [show ((q : Int) + 1).toNat = q + 1 from by omega, HN2.out]
            case measure => simp only [intOf]; omega
          · go_wp2
            go_round
            case rel =>
              refine ⟨I + 1, N, rfl, rfl, by omega, by omega, ?_⟩
              rw [HN.out]; congr 2; omega
            case measure => simp only [intOf]; omega
        · have hIe : I = (en : Int) := by omega
          have HN2 : Hid (N = dval ((s.data.toList.drop (en - 9)).take (en - (en - 9)))) := by
            have := HN.out; rw [hIe, Int.toNat_natCast] at this; exact this
          clear HN hIe
          go_wp2_with (at_builtin; refine wpList_append_own _ rfl _ _ 138 rfl w.heap.size 3 i0 (.int .i64 0) 1 8 Tryz.underlying138 hi hz0 hz1 hz2 rfl (by decide) _ _ _ rfl (hown.1.alloc _) ⟨wr.heap.size, 0, none⟩ 1 1 [.int .i64 (N : Int)] rfl rfl ?c1 ?c2 ?c3 ?c4 ?c5 ?_)
          case c3 => unfold maxLen; omega
          case c4 => omega
          case c5 => first | omega | (simp; omega)
          case c2 => first | rfl | (intro u hu; simp at hu; subst hu; rfl)
          intro v' w1 hown' hgrow hnil
          have hr : OwnB w1 w.heap.size v' (b ++ [N]) := OwnB.ofRow hown' (by simp [i64s]) (wds_snocB hown.2 hNb)
          have hb : Below w.heap.size w w1 := (hbel.alloc hsz _).grown hgrow (by simp; omega) (fun k hk => (hown.1.lt k hk).1)
          clear hown' hgrow hown hbel hnil
          go_wp2
          go_roundw
          case rel =>
            refine ⟨m + 1, b ++ [N], (en : Int) - 9, rfl, by have := HE.out; omega, by simp [HBM.out], hr, by omega, ?_, hb⟩
            rw [HN2.out, show ((en : Int) - 9).toNat = en - 9 from by omega]
            exact chunk_step (m := m) (by rw [HSZ.out]; have := HE.out; omega) HBM.out rfl HV.out
          case measure => simp only [intOf]; omega
    · have h0 : E.toNat = 0 := by omega
      have hv := HV.out
      rw [h0, List.drop_zero] at hv
      have HV2 : Hid (valB b = dval s.data.toList) := hv
      clear hv h0
      go_wp2_with fail
      refine (trimB_any _ _ _ _ hown).mono ?_
      rintro e w' ⟨v', rfl, hown3, rfl⟩
      go_wp2
      go_ret
      exact ⟨v', rfl, ⟨_, hown3, trimL_canon _, by rw [trimL_valB, HV2.out]⟩, hbel⟩
end Go.Proofs.YthdcceackfdbbaaGreatDoor
