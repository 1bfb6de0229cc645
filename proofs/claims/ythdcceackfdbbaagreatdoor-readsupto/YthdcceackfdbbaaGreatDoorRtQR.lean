import Derived.Test.YthdcceackfdbbaaGreatDoorM17R
import Derived.Test.YthdcceackfdbbaaGreatDoorM10R

namespace Go.Proofs.YthdcceackfdbbaaGreatDoor
open Go.RowKit
set_option maxHeartbeats 400000 in
theorem digitc_any (c : UInt8) (w : World) :
    Calls Tryz.prog 122 #[.int .u8 (c.toNat : Int)] w fun e w' => e = .returned (.bool (isDig c)) ∧ w = w' := by
  by_cases h1 : 48 ≤ c.toNat
  · by_cases h2 : c.toNat ≤ 57
    · have HD : Hid (isDig c = true) := by unfold Hid isDig; simp; omega
      go_enter Tryz.func122, Tryz.ntmps122
      go_wp2
      go_ret
      exact ⟨by rw [HD.out]; simp; omega, rfl⟩
    · have HD : Hid (isDig c = false) := by unfold Hid isDig; simp; omega
      go_enter Tryz.func122, Tryz.ntmps122
      go_wp2
      go_ret
      exact ⟨by rw [HD.out]; simp; omega, rfl⟩
  · have HD : Hid (isDig c = false) := by unfold Hid isDig; simp; omega
    go_enter Tryz.func122, Tryz.ntmps122
    go_wp2
    go_ret
    exact ⟨by rw [HD.out]; rfl, rfl⟩
def TokOk (o : Option (List UInt8 × Int)) (d : ByteArray) (p : Int) (ok : Bool) : Prop := match o with
  | some dq => ok = true ∧ d.data.toList = dq.1 ∧ p = dq.2
  | none => ok = false
def TokPost (l : List UInt8) (e : Ending) : Prop := ∃ (d : ByteArray) (p : Int) (ok : Bool), e = .returned (.tuple #[.string d, .int .i64 p, .bool ok]) ∧ TokOk (tokL l) d p ok
def TokAt (l : List UInt8) (k : Nat) (d : List UInt8) (e : Int) (pt : Bool) : Prop :=
  (pt = false ∧ d = l.take k ∧ e = 0 ∧ Digs (l.take k)) ∨ (pt = true ∧ ∃ A f : List UInt8, l.take k = A ++ 46 :: f ∧ d = A ++ f ∧ e = -(f.length : Int) ∧ Digs A ∧ Digs f)
theorem tokAt_digit {l d : List UInt8} {k : Nat} {e : Int} {pt : Bool} {x : UInt8} (h : TokAt l k d e pt) (hx : l[k]? = some x) (hd : isDig x = true) : TokAt l (k + 1) (d ++ [x]) (if pt then e - 1 else e) pt := by
  have hs : Digs [x] := by intro y hy; rw [List.mem_singleton] at hy; rw [hy]; exact hd
  rcases h with ⟨rfl, rfl, rfl, h4⟩ | ⟨rfl, A, f, h1, rfl, rfl, h4, h5⟩
  · refine .inl ⟨rfl, (take_snoc_get hx).symm, rfl, ?_⟩
    rw [take_snoc_get hx]; exact digs_append h4 hs
  · refine .inr ⟨rfl, A, f ++ [x], ?_, by simp, by simp; omega, h4, digs_append h5 hs⟩
    rw [take_snoc_get hx, h1]; simp
theorem tokAt_point {l d : List UInt8} {k : Nat} {e : Int} (h : TokAt l k d e false) (hx : l[k]? = some 46) : TokAt l (k + 1) d e true := by
  rcases h with ⟨_, rfl, rfl, h4⟩ | ⟨h, _⟩
  · refine .inr ⟨rfl, l.take k, [], by rw [take_snoc_get hx], by simp, by simp, h4, by intro y hy; simp at hy⟩
  · cases h
theorem tokAt_exit {l d : List UInt8} {k : Nat} {e : Int} {pt : Bool} (h : TokAt l k d e pt) (hx : ∀ x, l[k]? = some x → isDig x = false ∧ (x ≠ 46 ∨ pt = true)) :
    tokL l = if d = [] then none else (powT (l.drop k)).map fun p => (d, e + p) := by
  have hr : ∀ c t, l.drop k = c :: t → isDig c = false := by
    intro c t hc
    have : l[k]? = some c := by
      have := congrArg (fun l : List UInt8 => l[0]?) hc
      simpa using this
    exact (hx c this).1
  have hl := (List.take_append_drop k l).symm
  rcases h with ⟨rfl, rfl, rfl, h4⟩ | ⟨rfl, A, f, h1, rfl, rfl, h4, h5⟩
  · obtain ⟨e1, e2⟩ := takeWhile_all h4 (l.drop k) hr
    rw [← hl] at e1 e2
    have ef : fracL (l.drop k) = ([], l.drop k) := by
      cases hd : l.drop k with
      | nil => rfl
      | cons c t =>
        have : l[k]? = some c := by
          have := congrArg (fun l : List UInt8 => l[0]?) hd
          simpa using this
        have := (hx c this).2
        simp at this
        simp [fracL, this]
    unfold tokL
    rw [e1, e2, ef]
    simp
  · have hl2 : l = A ++ (46 :: (f ++ l.drop k)) := hl.trans (by rw [h1]; simp)
    obtain ⟨e1, e2⟩ := takeWhile_all h4 (46 :: (f ++ l.drop k)) (by intro c t hc; cases hc; rfl)
    rw [← hl2] at e1 e2
    obtain ⟨e3, e4⟩ := takeWhile_all h5 (l.drop k) hr
    have ef : fracL (46 :: (f ++ l.drop k)) = (f, l.drop k) := by simp [fracL, e3, e4]
    unfold tokL
    rw [e1, e2, ef]
theorem extract_one {s : ByteArray} {k : Nat} (h : k < s.size) : (s.extract k (k + 1)).data.toList = [s[k]] := by
  rw [Lib.extract_data, show k + 1 - k = 1 from by omega]
  rw [List.drop_eq_getElem_cons (by simpa using h)]
  simp
  rfl
set_option maxRecDepth 20000 in
set_option maxHeartbeats 6400000 in
theorem token_any (w : World) (s : ByteArray) (hs : s.size ≤ 100) :
    Calls Tryz.prog 88 #[.string s] w fun e w' => TokPost s.data.toList e ∧ w = w' := by
  have hszl : s.data.toList.length = s.size := by simp
  have HSZ : Hid (s.data.toList.length = s.size) := hszl
  clear hszl
  go_enter Tryz.func88, Tryz.ntmps88
  go_wp2
  go_loopw [5, 6, 7, 8] (fun vd ve vp vi wr => ∃ (k : Nat) (dB : ByteArray) (E : Int) (pt : Bool), k ≤ s.size ∧ vi = .int .i64 k ∧ vd = .string dB ∧ ve = .int .i64 E ∧ vp = .bool pt ∧ dB.size ≤ k ∧ -(k : Int) ≤ E ∧ E ≤ 0 ∧ TokAt s.data.toList k dB.data.toList E pt ∧ w = wr) (fun _ _ _ vi _ => s.size - (intOf vi).toNat)
  case atStart => exact ⟨0, ⟨#[]⟩, 0, false, Nat.zero_le _, rfl, rfl, rfl, rfl, Nat.le_refl _, by omega, by omega, .inl ⟨rfl, rfl, rfl, by intro y hy; simp at hy⟩, rfl⟩
  case round =>
    obtain ⟨k, dB, E, pt, hk, rfl, rfl, rfl, rfl, hdk, hE1, hE2, hat, rfl⟩ := hrel
    have HAT : Hid (TokAt s.data.toList k dB.data.toList E pt) := hat
    clear hat
    by_cases hlt : k < s.size
    · have hg := take_get hlt
      have HG : Hid (s.data.toList[k]? = some s[k]) := hg
      clear hg
      cases hdg : isDig s[k] with
      | true =>
        have hbd := isDig_bd hdg
        have q46 : ((s[k].toNat : Int) == 46) = false := by simp; omega
        have HN : Hid (TokAt s.data.toList (k + 1) (dB ++ s.extract k (k + 1)).data.toList (if pt then E - 1 else E) pt) := by
          unfold Hid; rw [bytes_append_list, extract_one hlt]; exact tokAt_digit HAT.out HG.out hdg
        have hsz1 : (s.extract k (k + 1)).size = 1 := by rw [bytes_size (extract_one hlt)]; rfl
        have hsz2 : (dB ++ s.extract k (k + 1)).size = dB.size + 1 := by rw [ByteArray.size_append, hsz1]
        have HS2 : Hid ((dB ++ s.extract k (k + 1)).size = dB.size + 1) := hsz2
        have hs1 : (s.extract k (k + 1)).size ≤ 1 := by omega
        clear hbd hsz1 hsz2
        cases pt with
        | true =>
          go_wp2_with (go_at_call 122; refine (digitc_any _ _).mono ?_; rintro e w' ⟨rfl, rfl⟩)
          go_roundw
          case rel => exact ⟨k + 1, dB ++ s.extract k (k + 1), E - 1, true, by omega, by go_num, rfl, rfl, rfl, by rw [HS2.out]; omega, by omega, by omega, HN.out, by trivial⟩
          case measure => simp [intOf]; omega
        | false =>
          go_wp2_with (go_at_call 122; refine (digitc_any _ _).mono ?_; rintro e w' ⟨rfl, rfl⟩)
          go_roundw
          case rel => exact ⟨k + 1, dB ++ s.extract k (k + 1), E, false, by omega, by go_num, rfl, rfl, rfl, by rw [HS2.out]; omega, by omega, by omega, HN.out, by trivial⟩
          case measure => simp [intOf]; omega
      | false =>
        by_cases hp : s[k] = 46
        · have q46 : ((s[k].toNat : Int) == 46) = true := by rw [hp]; rfl
          have q101 : ((s[k].toNat : Int) != 101) = true := by rw [hp]; rfl
          have q69 : ((s[k].toNat : Int) != 69) = true := by rw [hp]; rfl
          cases pt with
          | false =>
            have HN : Hid (TokAt s.data.toList (k + 1) dB.data.toList E true) := tokAt_point HAT.out (by rw [HG.out, hp])
            clear hp
            go_wp2_with (go_at_call 122; refine (digitc_any _ _).mono ?_; rintro e w' ⟨rfl, rfl⟩)
            go_roundw
            case rel => exact ⟨k + 1, dB, E, true, by omega, by go_num, rfl, rfl, rfl, by omega, by omega, by omega, HN.out, by trivial⟩
            case measure => simp [intOf]; omega
          | true =>
            have htk := tokAt_exit HAT.out (fun x hx => by rw [HG.out] at hx; cases hx; exact ⟨hdg, .inr rfl⟩)
            have hdr : s.data.toList.drop k = 46 :: s.data.toList.drop (k + 1) := by
              rw [List.drop_eq_getElem_cons (by simpa using hlt), ← hp]; simp; rfl
            have HNONE : Hid (tokL s.data.toList = none) := by
              unfold Hid; rw [htk, hdr]; simp [powT]
            have qk : ((k : Int) == (s.size : Int)) = false := by simp; omega
            clear htk hdr hp
            cases hde : dB.toList.isEmpty with
            | true =>
              go_wp2_with (go_at_call 122; refine (digitc_any _ _).mono ?_; rintro e w' ⟨rfl, rfl⟩)
              go_ret3
              exact ⟨⟨⟨#[]⟩, 0, false, rfl, by rw [HNONE.out]; rfl⟩, rfl⟩
            | false =>
              go_wp2_with (go_at_call 122; refine (digitc_any _ _).mono ?_; rintro e w' ⟨rfl, rfl⟩)
              go_ret3
              exact ⟨⟨⟨#[]⟩, 0, false, rfl, by rw [HNONE.out]; rfl⟩, rfl⟩
        · have q46 : ((s[k].toNat : Int) == 46) = false := by simp; intro h; exact hp (UInt8.toNat_inj.1 (by rw [show (46 : UInt8).toNat = 46 from rfl]; omega))
          have htk := tokAt_exit HAT.out (fun x hx => by rw [HG.out] at hx; cases hx; exact ⟨hdg, .inl hp⟩)
          have qk : ((k : Int) == (s.size : Int)) = false := by simp; omega
          have hdr : s.data.toList.drop k = s[k] :: s.data.toList.drop (k + 1) := by
            rw [List.drop_eq_getElem_cons (by simpa using hlt)]; simp; rfl
          have HDR : Hid (s.data.toList.drop k = s[k] :: s.data.toList.drop (k + 1)) := hdr
          generalize hTK : tokL s.data.toList = TK at *
          have HTK0 : Hid (tokL s.data.toList = TK) := hTK
          have HTK : Hid (TK = if dB.data.toList = [] then none else (powT (s.data.toList.drop k)).map fun p => (dB.data.toList, E + p)) := htk
          clear htk hdr hp hTK
          cases hde : dB.toList.isEmpty with
          | true =>
            have HNONE : Hid (TK = none) := by unfold Hid; rw [HTK.out, if_pos (by rw [bytes_toList] at hde; simpa using hde)]
            go_wp2_with (go_at_call 122; refine (digitc_any _ _).mono ?_; rintro e w' ⟨rfl, rfl⟩)
            go_ret3
            exact ⟨⟨⟨#[]⟩, 0, false, rfl, by rw [HTK0.out, HNONE.out]; rfl⟩, rfl⟩
          | false =>
            obtain ⟨DL, hDL⟩ : ∃ DL, dB.data.toList = DL := ⟨_, rfl⟩
            have HDL : Hid (¬ DL = []) := by unfold Hid; rw [← hDL]; rw [bytes_toList] at hde; simpa using hde
            have HDB : Hid (dB.data.toList = DL) := hDL
            have htk2 := HTK.out
            rw [hDL] at htk2
            clear HTK
            have HTK : Hid (TK = if DL = [] then none else (powT (s.data.toList.drop k)).map fun p => (DL, E + p)) := htk2
            clear htk2 hDL
            by_cases cc : s[k] = 101 ∨ s[k] = 69
            · have CC : Hid (s[k] = 101 ∨ s[k] = 69) := cc
              have key : (((s[k].toNat : Int) != 101) = false) ∨ (((s[k].toNat : Int) != 101) = true ∧ ((s[k].toNat : Int) != 69) = false) := by
                rcases cc with h | h
                · left; rw [h]; rfl
                · right; rw [h]; exact ⟨rfl, rfl⟩
              clear cc
              rcases key with b1 | ⟨b1, b2⟩
              all_goals
                have HT1 : Hid (TK = (if (signL (s.data.toList.drop (k + 1))).2.takeWhile isDig = [] ∨ (signL (s.data.toList.drop (k + 1))).2.dropWhile isDig ≠ [] then (none : Option Int)
                    else some (if (signL (s.data.toList.drop (k + 1))).1 then -(bigW ((signL (s.data.toList.drop (k + 1))).2.takeWhile isDig) : Int) else (bigW ((signL (s.data.toList.drop (k + 1))).2.takeWhile isDig) : Int))).map fun p => (DL, E + p)) := by
                  unfold Hid; rw [HTK.out, if_neg HDL.out, HDR.out]; simp only [powT]; rw [if_pos CC.out]
                clear HTK HDR CC
                by_cases k1 : k + 1 < s.size
                · have hsp : s.data.toList.drop (k + 1) = s[k + 1] :: s.data.toList.drop (k + 2) := by
                    rw [List.drop_eq_getElem_cons (by simpa using k1)]; simp; rfl
                  by_cases y1 : s[k + 1] = 45
                  · have q1 : ((s[k + 1].toNat : Int) == 45) = true := by rw [y1]; rfl
                    have hsg : signL (s.data.toList.drop (k + 1)) = (true, s.data.toList.drop (k + 2)) := by rw [hsp, y1]; rfl
                    have HTP : Hid (TK = (if (s.data.toList.drop (k + 1 + 1)).takeWhile isDig = [] ∨ (s.data.toList.drop (k + 1 + 1)).dropWhile isDig ≠ [] then (none : Option Int) else some (-(bigW ((s.data.toList.drop (k + 1 + 1)).takeWhile isDig) : Int))).map fun p => (DL, E + p)) := by
                      unfold Hid; rw [HT1.out, hsg]; rfl
                    clear HT1 hsg hsp y1
                    by_cases k2 : k + 1 + 1 = s.size
                    · have q2 : ((k : Int) + 1 + 1 == (s.size : Int)) = true := by simp; omega
                      have HNONE : Hid (TK = none) := by unfold Hid; rw [HTP.out, List.drop_of_length_le (by simp; omega), if_pos (.inl rfl)]; rfl
                      clear k2
                      go_wp2_with (go_at_call 122; refine (digitc_any _ _).mono ?_; rintro e w' ⟨rfl, rfl⟩)
                      go_ret3
                      refine ⟨⟨⟨#[]⟩, 0, false, rfl, ?_⟩, rfl⟩
                      rw [HTK0.out, HNONE.out]; rfl
                    · have q2 : ((k : Int) + 1 + 1 == (s.size : Int)) = false := by simp; omega
                      have hpb : k + 1 + 1 ≤ s.size := by omega
                      go_wp2_with (go_at_call 122; refine (digitc_any _ _).mono ?_; rintro e w' ⟨rfl, rfl⟩)
                      go_loopw [8, 10, 11] (fun vi vn _ wr => ∃ q : Nat, k + 1 + 1 ≤ q ∧ q ≤ s.size ∧ vi = .int .i64 q ∧ vn = .int .i64 ((bigW ((s.data.toList.drop (k + 1 + 1)).take (q - (k + 1 + 1))) : Nat) : Int) ∧ Digs ((s.data.toList.drop (k + 1 + 1)).take (q - (k + 1 + 1))) ∧ w = wr) (fun vi _ _ _ => s.size - (intOf vi).toNat)
                      case atStart => exact ⟨k + 1 + 1, Nat.le_refl _, hpb, by go_num, by simp [bigW], by intro x hx; simp at hx, rfl⟩
                      case round =>
                        obtain ⟨q, hq1, hq2, rfl, rfl, hqd, rfl⟩ := hrel
                        have hbw := bigW_le hqd
                        generalize hW : bigW ((s.data.toList.drop (k + 1 + 1)).take (q - (k + 1 + 1))) = Wv at *
                        have HW : Hid (bigW ((s.data.toList.drop (k + 1 + 1)).take (q - (k + 1 + 1))) = Wv) := hW
                        have HQD : Hid (Digs ((s.data.toList.drop (k + 1 + 1)).take (q - (k + 1 + 1)))) := hqd
                        clear hW hqd
                        by_cases hlt : q < s.size
                        · have hg := take_get hlt
                          have HG : Hid ((s.data.toList.drop (k + 1 + 1))[q - (k + 1 + 1)]? = some s[q]) := by unfold Hid; rw [List.getElem?_drop, show k + 1 + 1 + (q - (k + 1 + 1)) = q from by omega]; exact hg
                          clear hg
                          cases hdg : isDig s[q] with
                          | true =>
                            have hbd := isDig_bd hdg
                            have HBD : Hid (48 ≤ s[q].toNat ∧ s[q].toNat ≤ 57) := hbd
                            clear hbd
                            have HNX : Hid ((s.data.toList.drop (k + 1 + 1)).take (q + 1 - (k + 1 + 1)) = (s.data.toList.drop (k + 1 + 1)).take (q - (k + 1 + 1)) ++ [s[q]]) := by unfold Hid; rw [show q + 1 - (k + 1 + 1) = q - (k + 1 + 1) + 1 from by omega]; exact take_snoc_get HG.out
                            have HDN : Hid (Digs ((s.data.toList.drop (k + 1 + 1)).take (q + 1 - (k + 1 + 1)))) := by
                              unfold Hid; rw [HNX.out]; exact digs_append HQD.out (by intro x hx; rw [List.mem_singleton] at hx; rw [hx]; exact hdg)
                            by_cases hv : Wv < 100000
                            · have hvb : decide ((Wv : Int) < 100000) = true := by simp; omega
                              have HVV : Hid (Wv < 100000) := hv
                              clear hv
                              go_wp2_with (go_at_call 122; refine (digitc_any _ _).mono ?_; rintro e w' ⟨rfl, rfl⟩)
                              go_roundw
                              case rel =>
                                refine ⟨q + 1, by omega, by omega, by go_num, ?_, HDN.out, by trivial⟩
                                rw [HNX.out, bigW_snoc, HW.out, if_pos HVV.out]
                                have := HBD.out
                                go_num
                              case measure => simp [intOf]; omega
                            · have hvb : decide ((Wv : Int) < 100000) = false := by simp; omega
                              have HVV : Hid (¬ Wv < 100000) := hv
                              clear hv
                              go_wp2_with (go_at_call 122; refine (digitc_any _ _).mono ?_; rintro e w' ⟨rfl, rfl⟩)
                              go_roundw
                              case rel =>
                                refine ⟨q + 1, by omega, by omega, by go_num, ?_, HDN.out, by trivial⟩
                                rw [HNX.out, bigW_snoc, HW.out, if_neg HVV.out]
                              case measure => simp [intOf]; omega
                          | false =>
                            have hno := takeWhile_at (p := isDig) (l := s.data.toList.drop (k + 1 + 1)) (k := q - (k + 1 + 1)) HQD.out (fun x hx => by rw [HG.out] at hx; cases hx; exact hdg)
                            have hdne : (s.data.toList.drop (k + 1 + 1)).dropWhile isDig ≠ [] := by
                              rw [hno.2]; intro e
                              have := congrArg List.length e
                              simp at this
                              omega
                            have HNONE : Hid (TK = none) := by unfold Hid; rw [HTP.out, if_pos (.inr hdne)]; rfl
                            clear hno hdne
                            go_wp2_with (go_at_call 122; refine (digitc_any _ _).mono ?_; rintro e w' ⟨rfl, rfl⟩)
                            go_ret3
                            refine ⟨⟨⟨#[]⟩, 0, false, rfl, ?_⟩, rfl⟩
                            rw [HTK0.out, HNONE.out]; rfl
                        · have hqs : q = s.size := by omega
                          have hdd : (s.data.toList.drop (k + 1 + 1)).take (q - (k + 1 + 1)) = s.data.toList.drop (k + 1 + 1) := List.take_of_length_le (by simp; omega)
                          have hqd := HQD.out
                          rw [hdd] at hqd
                          have hw2 := HW.out
                          rw [hdd] at hw2
                          obtain ⟨t1, t2⟩ := takeWhile_all hqd [] (by simp)
                          rw [List.append_nil] at t1 t2
                          have hne : s.data.toList.drop (k + 1 + 1) ≠ [] := by
                            intro e
                            have := congrArg List.length e
                            simp at this
                            omega
                          have HSOME : Hid (TK = some (DL, E + (-(Wv : Int)))) := by
                            unfold Hid; rw [HTP.out, t1, t2, if_neg (by rintro (h | h); exact hne h; exact h rfl), hw2]; rfl
                          clear hqs hdd hqd hw2 t1 t2 hne
                          go_wp2
                          go_ret3
                          refine ⟨⟨dB, E + (-(Wv : Int)), true, ?_, ?_⟩, rfl⟩
                          · rfl
                          · rw [HTK0.out, HSOME.out]; exact ⟨rfl, HDB.out, rfl⟩
                  · have q1 : ((s[k + 1].toNat : Int) == 45) = false := by simp; intro h; exact y1 (UInt8.toNat_inj.1 (by rw [show (45 : UInt8).toNat = 45 from rfl]; omega))
                    by_cases y2 : s[k + 1] = 43
                    · have q3 : ((s[k + 1].toNat : Int) == 43) = true := by rw [y2]; rfl
                      have hsg : signL (s.data.toList.drop (k + 1)) = (false, s.data.toList.drop (k + 2)) := by rw [hsp, y2]; rfl
                      have HTP : Hid (TK = (if (s.data.toList.drop (k + 1 + 1)).takeWhile isDig = [] ∨ (s.data.toList.drop (k + 1 + 1)).dropWhile isDig ≠ [] then (none : Option Int) else some ((bigW ((s.data.toList.drop (k + 1 + 1)).takeWhile isDig) : Int))).map fun p => (DL, E + p)) := by
                        unfold Hid; rw [HT1.out, hsg]; rfl
                      clear HT1 hsg hsp y1 y2
                      by_cases k2 : k + 1 + 1 = s.size
                      · have q2 : ((k : Int) + 1 + 1 == (s.size : Int)) = true := by simp; omega
                        have HNONE : Hid (TK = none) := by unfold Hid; rw [HTP.out, List.drop_of_length_le (by simp; omega), if_pos (.inl rfl)]; rfl
                        clear k2
                        go_wp2_with (go_at_call 122; refine (digitc_any _ _).mono ?_; rintro e w' ⟨rfl, rfl⟩)
                        go_ret3
                        refine ⟨⟨⟨#[]⟩, 0, false, rfl, ?_⟩, rfl⟩
                        rw [HTK0.out, HNONE.out]; rfl
                      · have q2 : ((k : Int) + 1 + 1 == (s.size : Int)) = false := by simp; omega
                        have hpb : k + 1 + 1 ≤ s.size := by omega
                        go_wp2_with (go_at_call 122; refine (digitc_any _ _).mono ?_; rintro e w' ⟨rfl, rfl⟩)
                        go_loopw [8, 10, 11] (fun vi vn _ wr => ∃ q : Nat, k + 1 + 1 ≤ q ∧ q ≤ s.size ∧ vi = .int .i64 q ∧ vn = .int .i64 ((bigW ((s.data.toList.drop (k + 1 + 1)).take (q - (k + 1 + 1))) : Nat) : Int) ∧ Digs ((s.data.toList.drop (k + 1 + 1)).take (q - (k + 1 + 1))) ∧ w = wr) (fun vi _ _ _ => s.size - (intOf vi).toNat)
                        case atStart => exact ⟨k + 1 + 1, Nat.le_refl _, hpb, by go_num, by simp [bigW], by intro x hx; simp at hx, rfl⟩
                        case round =>
                          obtain ⟨q, hq1, hq2, rfl, rfl, hqd, rfl⟩ := hrel
                          have hbw := bigW_le hqd
                          generalize hW : bigW ((s.data.toList.drop (k + 1 + 1)).take (q - (k + 1 + 1))) = Wv at *
                          have HW : Hid (bigW ((s.data.toList.drop (k + 1 + 1)).take (q - (k + 1 + 1))) = Wv) := hW
                          have HQD : Hid (Digs ((s.data.toList.drop (k + 1 + 1)).take (q - (k + 1 + 1)))) := hqd
                          clear hW hqd
                          by_cases hlt : q < s.size
                          · have hg := take_get hlt
                            have HG : Hid ((s.data.toList.drop (k + 1 + 1))[q - (k + 1 + 1)]? = some s[q]) := by unfold Hid; rw [List.getElem?_drop, show k + 1 + 1 + (q - (k + 1 + 1)) = q from by omega]; exact hg
                            clear hg
                            cases hdg : isDig s[q] with
                            | true =>
                              have hbd := isDig_bd hdg
                              have HBD : Hid (48 ≤ s[q].toNat ∧ s[q].toNat ≤ 57) := hbd
                              clear hbd
                              have HNX : Hid ((s.data.toList.drop (k + 1 + 1)).take (q + 1 - (k + 1 + 1)) = (s.data.toList.drop (k + 1 + 1)).take (q - (k + 1 + 1)) ++ [s[q]]) := by unfold Hid; rw [show q + 1 - (k + 1 + 1) = q - (k + 1 + 1) + 1 from by omega]; exact take_snoc_get HG.out
                              have HDN : Hid (Digs ((s.data.toList.drop (k + 1 + 1)).take (q + 1 - (k + 1 + 1)))) := by
                                unfold Hid; rw [HNX.out]; exact digs_append HQD.out (by intro x hx; rw [List.mem_singleton] at hx; rw [hx]; exact hdg)
                              by_cases hv : Wv < 100000
                              · have hvb : decide ((Wv : Int) < 100000) = true := by simp; omega
                                have HVV : Hid (Wv < 100000) := hv
                                clear hv
                                go_wp2_with (go_at_call 122; refine (digitc_any _ _).mono ?_; rintro e w' ⟨rfl, rfl⟩)
                                go_roundw
                                case rel =>
                                  refine ⟨q + 1, by omega, by omega, by go_num, ?_, HDN.out, by trivial⟩
                                  rw [HNX.out, bigW_snoc, HW.out, if_pos HVV.out]
                                  have := HBD.out
                                  go_num
                                case measure => simp [intOf]; omega
                              · have hvb : decide ((Wv : Int) < 100000) = false := by simp; omega
                                have HVV : Hid (¬ Wv < 100000) := hv
                                clear hv
                                go_wp2_with (go_at_call 122; refine (digitc_any _ _).mono ?_; rintro e w' ⟨rfl, rfl⟩)
                                go_roundw
                                case rel =>
                                  refine ⟨q + 1, by omega, by omega, by go_num, ?_, HDN.out, by trivial⟩
                                  rw [HNX.out, bigW_snoc, HW.out, if_neg HVV.out]
                                case measure => simp [intOf]; omega
                            | false =>
                              have hno := takeWhile_at (p := isDig) (l := s.data.toList.drop (k + 1 + 1)) (k := q - (k + 1 + 1)) HQD.out (fun x hx => by rw [HG.out] at hx; cases hx; exact hdg)
                              have hdne : (s.data.toList.drop (k + 1 + 1)).dropWhile isDig ≠ [] := by
                                rw [hno.2]; intro e
                                have := congrArg List.length e
                                simp at this
                                omega
                              have HNONE : Hid (TK = none) := by unfold Hid; rw [HTP.out, if_pos (.inr hdne)]; rfl
                              clear hno hdne
                              go_wp2_with (go_at_call 122; refine (digitc_any _ _).mono ?_; rintro e w' ⟨rfl, rfl⟩)
                              go_ret3
                              refine ⟨⟨⟨#[]⟩, 0, false, rfl, ?_⟩, rfl⟩
                              rw [HTK0.out, HNONE.out]; rfl
                          · have hqs : q = s.size := by omega
                            have hdd : (s.data.toList.drop (k + 1 + 1)).take (q - (k + 1 + 1)) = s.data.toList.drop (k + 1 + 1) := List.take_of_length_le (by simp; omega)
                            have hqd := HQD.out
                            rw [hdd] at hqd
                            have hw2 := HW.out
                            rw [hdd] at hw2
                            obtain ⟨t1, t2⟩ := takeWhile_all hqd [] (by simp)
                            rw [List.append_nil] at t1 t2
                            have hne : s.data.toList.drop (k + 1 + 1) ≠ [] := by
                              intro e
                              have := congrArg List.length e
                              simp at this
                              omega
                            have HSOME : Hid (TK = some (DL, E + ((Wv : Int)))) := by
                              unfold Hid; rw [HTP.out, t1, t2, if_neg (by rintro (h | h); exact hne h; exact h rfl), hw2]; rfl
                            clear hqs hdd hqd hw2 t1 t2 hne
                            go_wp2
                            go_ret3
                            refine ⟨⟨dB, E + ((Wv : Int)), true, ?_, ?_⟩, rfl⟩
                            · rfl
                            · rw [HTK0.out, HSOME.out]; exact ⟨rfl, HDB.out, rfl⟩
                    · have q3 : ((s[k + 1].toNat : Int) == 43) = false := by simp; intro h; exact y2 (UInt8.toNat_inj.1 (by rw [show (43 : UInt8).toNat = 43 from rfl]; omega))
                      have hsg : signL (s.data.toList.drop (k + 1)) = (false, s.data.toList.drop (k + 1)) := by rw [hsp]; simp [signL, y1, y2]
                      have HTP : Hid (TK = (if (s.data.toList.drop (k + 1)).takeWhile isDig = [] ∨ (s.data.toList.drop (k + 1)).dropWhile isDig ≠ [] then (none : Option Int) else some ((bigW ((s.data.toList.drop (k + 1)).takeWhile isDig) : Int))).map fun p => (DL, E + p)) := by
                        unfold Hid; rw [HT1.out, hsg]; rfl
                      have q2 : ((k : Int) + 1 == (s.size : Int)) = false := by simp; omega
                      clear HT1 hsg hsp y1 y2
                      have hpb : k + 1 ≤ s.size := by omega
                      go_wp2_with (go_at_call 122; refine (digitc_any _ _).mono ?_; rintro e w' ⟨rfl, rfl⟩)
                      go_loopw [8, 10, 11] (fun vi vn _ wr => ∃ q : Nat, k + 1 ≤ q ∧ q ≤ s.size ∧ vi = .int .i64 q ∧ vn = .int .i64 ((bigW ((s.data.toList.drop (k + 1)).take (q - (k + 1))) : Nat) : Int) ∧ Digs ((s.data.toList.drop (k + 1)).take (q - (k + 1))) ∧ w = wr) (fun vi _ _ _ => s.size - (intOf vi).toNat)
                      case atStart => exact ⟨k + 1, Nat.le_refl _, hpb, by go_num, by simp [bigW], by intro x hx; simp at hx, rfl⟩
                      case round =>
                        obtain ⟨q, hq1, hq2, rfl, rfl, hqd, rfl⟩ := hrel
                        have hbw := bigW_le hqd
                        generalize hW : bigW ((s.data.toList.drop (k + 1)).take (q - (k + 1))) = Wv at *
                        have HW : Hid (bigW ((s.data.toList.drop (k + 1)).take (q - (k + 1))) = Wv) := hW
                        have HQD : Hid (Digs ((s.data.toList.drop (k + 1)).take (q - (k + 1)))) := hqd
                        clear hW hqd
                        by_cases hlt : q < s.size
                        · have hg := take_get hlt
                          have HG : Hid ((s.data.toList.drop (k + 1))[q - (k + 1)]? = some s[q]) := by unfold Hid; rw [List.getElem?_drop, show k + 1 + (q - (k + 1)) = q from by omega]; exact hg
                          clear hg
                          cases hdg : isDig s[q] with
                          | true =>
                            have hbd := isDig_bd hdg
                            have HBD : Hid (48 ≤ s[q].toNat ∧ s[q].toNat ≤ 57) := hbd
                            clear hbd
                            have HNX : Hid ((s.data.toList.drop (k + 1)).take (q + 1 - (k + 1)) = (s.data.toList.drop (k + 1)).take (q - (k + 1)) ++ [s[q]]) := by unfold Hid; rw [show q + 1 - (k + 1) = q - (k + 1) + 1 from by omega]; exact take_snoc_get HG.out
                            have HDN : Hid (Digs ((s.data.toList.drop (k + 1)).take (q + 1 - (k + 1)))) := by
                              unfold Hid; rw [HNX.out]; exact digs_append HQD.out (by intro x hx; rw [List.mem_singleton] at hx; rw [hx]; exact hdg)
                            by_cases hv : Wv < 100000
                            · have hvb : decide ((Wv : Int) < 100000) = true := by simp; omega
                              have HVV : Hid (Wv < 100000) := hv
                              clear hv
                              go_wp2_with (go_at_call 122; refine (digitc_any _ _).mono ?_; rintro e w' ⟨rfl, rfl⟩)
                              go_roundw
                              case rel =>
                                refine ⟨q + 1, by omega, by omega, by go_num, ?_, HDN.out, by trivial⟩
                                rw [HNX.out, bigW_snoc, HW.out, if_pos HVV.out]
                                have := HBD.out
                                go_num
                              case measure => simp [intOf]; omega
                            · have hvb : decide ((Wv : Int) < 100000) = false := by simp; omega
                              have HVV : Hid (¬ Wv < 100000) := hv
                              clear hv
                              go_wp2_with (go_at_call 122; refine (digitc_any _ _).mono ?_; rintro e w' ⟨rfl, rfl⟩)
                              go_roundw
                              case rel =>
                                refine ⟨q + 1, by omega, by omega, by go_num, ?_, HDN.out, by trivial⟩
                                rw [HNX.out, bigW_snoc, HW.out, if_neg HVV.out]
                              case measure => simp [intOf]; omega
                          | false =>
                            have hno := takeWhile_at (p := isDig) (l := s.data.toList.drop (k + 1)) (k := q - (k + 1)) HQD.out (fun x hx => by rw [HG.out] at hx; cases hx; exact hdg)
                            have hdne : (s.data.toList.drop (k + 1)).dropWhile isDig ≠ [] := by
                              rw [hno.2]; intro e
                              have := congrArg List.length e
                              simp at this
                              omega
                            have HNONE : Hid (TK = none) := by unfold Hid; rw [HTP.out, if_pos (.inr hdne)]; rfl
                            clear hno hdne
                            go_wp2_with (go_at_call 122; refine (digitc_any _ _).mono ?_; rintro e w' ⟨rfl, rfl⟩)
                            go_ret3
                            refine ⟨⟨⟨#[]⟩, 0, false, rfl, ?_⟩, rfl⟩
                            rw [HTK0.out, HNONE.out]; rfl
                        · have hqs : q = s.size := by omega
                          have hdd : (s.data.toList.drop (k + 1)).take (q - (k + 1)) = s.data.toList.drop (k + 1) := List.take_of_length_le (by simp; omega)
                          have hqd := HQD.out
                          rw [hdd] at hqd
                          have hw2 := HW.out
                          rw [hdd] at hw2
                          obtain ⟨t1, t2⟩ := takeWhile_all hqd [] (by simp)
                          rw [List.append_nil] at t1 t2
                          have hne : s.data.toList.drop (k + 1) ≠ [] := by
                            intro e
                            have := congrArg List.length e
                            simp at this
                            omega
                          have HSOME : Hid (TK = some (DL, E + ((Wv : Int)))) := by
                            unfold Hid; rw [HTP.out, t1, t2, if_neg (by rintro (h | h); exact hne h; exact h rfl), hw2]; rfl
                          clear hqs hdd hqd hw2 t1 t2 hne
                          go_wp2
                          go_ret3
                          refine ⟨⟨dB, E + ((Wv : Int)), true, ?_, ?_⟩, rfl⟩
                          · rfl
                          · rw [HTK0.out, HSOME.out]; exact ⟨rfl, HDB.out, rfl⟩
                · have q2 : ((k : Int) + 1 == (s.size : Int)) = true := by simp; omega
                  have HNONE : Hid (TK = none) := by
                    unfold Hid; rw [HT1.out, List.drop_of_length_le (by simp; omega)]; simp [signL]
                  go_wp2_with (go_at_call 122; refine (digitc_any _ _).mono ?_; rintro e w' ⟨rfl, rfl⟩)
                  go_ret3
                  refine ⟨⟨⟨#[]⟩, 0, false, rfl, ?_⟩, rfl⟩
                  rw [HTK0.out, HNONE.out]; rfl
            · have hne : s[k].toNat ≠ 101 ∧ s[k].toNat ≠ 69 := ⟨fun h => cc (.inl (UInt8.toNat_inj.1 h)), fun h => cc (.inr (UInt8.toNat_inj.1 h))⟩
              have b1 : ((s[k].toNat : Int) != 101) = true := by simp; omega
              have b2 : ((s[k].toNat : Int) != 69) = true := by simp; omega
              have HNONE : Hid (TK = none) := by unfold Hid; rw [HTK.out, if_neg HDL.out, HDR.out]; simp only [powT]; rw [if_neg cc]; rfl
              clear cc hne
              go_wp2_with (go_at_call 122; refine (digitc_any _ _).mono ?_; rintro e w' ⟨rfl, rfl⟩)
              go_ret3
              exact ⟨⟨⟨#[]⟩, 0, false, rfl, by rw [HTK0.out, HNONE.out]; rfl⟩, rfl⟩
    · have htk := tokAt_exit HAT.out (fun x hx => by have := (List.getElem?_eq_some_iff.1 hx).1; have := HSZ.out; omega)
      have qk : ((k : Int) == (s.size : Int)) = true := by simp; omega
      rw [List.drop_of_length_le (by rw [HSZ.out]; omega)] at htk
      cases hde : dB.toList.isEmpty with
      | true =>
        have HNONE : Hid (tokL s.data.toList = none) := by unfold Hid; rw [htk, if_pos (by rw [bytes_toList] at hde; simpa using hde)]
        clear htk
        go_wp2
        go_ret3
        exact ⟨⟨⟨#[]⟩, 0, false, rfl, by rw [HNONE.out]; rfl⟩, rfl⟩
      | false =>
        have HSOME : Hid (tokL s.data.toList = some (dB.data.toList, E)) := by unfold Hid; rw [htk, if_neg (by rw [bytes_toList] at hde; simpa using hde)]; simp [powT]
        clear htk
        go_wp2
        go_ret3
        exact ⟨⟨dB, E, true, rfl, by rw [HSOME.out]; exact ⟨rfl, rfl, rfl⟩⟩, rfl⟩
end Go.Proofs.YthdcceackfdbbaaGreatDoor
