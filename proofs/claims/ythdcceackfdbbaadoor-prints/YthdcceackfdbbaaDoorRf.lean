/- Walks over the reference: divided. Own text. -/
import Derived.Test.YthdcceackfdbbaaDoorRe
namespace Go.Proofs.YthdcceackfdbbaaDoor
open Go.RowKit

/-- append(v, vs...), v the call's own, vs any slice of places, nil or not. -/
theorem wpList_appendB {w : World} {ops : Array Oper} {rest : List Oper} {o : Oper} {a : Act} {Q : Exit → Act → World → Prop} (hgd : o.guard = none) (s x : Operand)
    (ho : o.op = .call { callee := .builtin .append, args := #[s, x], argTypes := #[41, 41] }) (base : Nat) (v vs : Value) (n : Nat) (xs : List Value) (ls : List Nat)
    (hs : a.eval s = v) (hx : a.eval x = vs) (hown : w.ownsRow base 3 1 v n xs) (hos : OwnB w 0 vs ls) (hn : n + ls.length ≤ 10000000) (hb : base ≤ w.heap.size)
    (h : ∀ v' w', w'.ownsRow base 3 1 v' (n + ls.length) (xs ++ i64s ls) → w.grownBy w' v.ownBlock → wpList Tryd.prog ops Q rest (a.put o.dst v') w') : wpList Tryd.prog ops Q (o :: rest) a w := by
  obtain ⟨i0, hi, hz0, hz1, hz2⟩ := info_parts Tryd.infoInt
  rcases hos.shape with ⟨rfl, rfl⟩ | ⟨g, cap, rfl, _, hg, hlc, hcp, _, _⟩
  · refine wpList_append_own_none hgd s x 41 ho base 3 i0 1 Tryd.underlying41 hi v n xs hs hown hx ?_
    exact h v w (by simpa [i64s] using hown) (grown_refl _ _)
  · refine wpList_append_own w hgd s x 41 ho base 3 i0 (.int .i64 0) 1 8 Tryd.underlying41 hi hz0 hz1 hz2 rfl (by decide) v n xs hs hown ⟨g, 0, none⟩ ls.length cap (i64s ls) hx ?_ ?_ ?_ ?_ ?_ ?_ ?_
    · simp [i64s]
    · exact cells_of hos
    · exact one_of ls
    · unfold maxLen; omega
    · omega
    · exact hb
    · intro v' w' h1 h2 _; exact h v' w' h1 h2


theorem RepB.own {w : World} {B : Nat} {v : Value} {n : Nat} (h : RepB w B v n) (hs : SmallB n) : ∃ l, OwnB w B v l ∧ Canon l ∧ valB l = n ∧ l.length ≤ 300 := by
  obtain ⟨l, h1, h2, h3⟩ := h; exact ⟨l, h1, h2, h3, RepB.len h1 h2 h3 hs⟩

theorem bis_mid {lo hi : Nat} (h : lo < hi) : lo < (lo + hi + 1) / 2 ∧ (lo + hi + 1) / 2 ≤ hi := by omega

theorem div_step {la lq : List Nat} {k x b r lo : Nat} (hx : la[k]? = some x) (h : valB (la.drop (k + 1)) = valB lq * b + r) (h1 : b * lo ≤ x + 1000000000 * r) :
    valB (la.drop k) = valB (lo :: lq) * b + (x + 1000000000 * r - b * lo) := by
  have e := List.drop_eq_getElem_cons (l := la) (i := k) (List.getElem?_eq_some_iff.1 hx).1
  rw [(List.getElem?_eq_some_iff.1 hx).2] at e
  rw [e]
  simp only [valB]
  rw [h, Nat.add_mul, Nat.mul_add, Nat.mul_assoc, Nat.mul_comm lo b]
  omega

set_option maxRecDepth 5000 in
set_option maxHeartbeats 3200000 in
theorem divided_any (w : World) (va vb : Value) (a b : Nat) (ha : RepB w 0 va a) (hb' : RepB w 0 vb b) (hb0 : b ≠ 0) (sa : SmallB a) (sb : SmallB (b * 1000000000)) :
    Calls Tryd.prog 35 #[va, vb] w fun e w' => ∃ v', e = .returned v' ∧ RepB w' w.heap.size v' (a / b) ∧ Below w.heap.size w w' := by
  obtain ⟨la, ha1, ca, hva, hla⟩ := ha.own sa
  obtain ⟨aa, capa, rfl, hlca, hcapa, hcella⟩ := ha1.shape1
  have HA : Hid (∀ (i x : Nat), la[i]? = some x → x < 1000000000 ∧ ∃ g, aa = some ⟨g, 0, none⟩ ∧ 0 ≤ g ∧ g < w.heap.size ∧ w.cell? ⟨g, i, none⟩ = some (.int .i64 (x : Int))) := hcella
  have HVA : Hid (valB la = a) := hva
  clear hcella hcapa hva
  obtain ⟨i0, hi, hz0, hz1, hz2⟩ := info_parts Tryd.infoInt
  go_enter Tryd.func35, Tryd.ntmps35
  go_wp2
  go_loopw [5, 6, 7] (fun vq vr i wr => ∃ (k : Nat) (lq : List Nat) (r : Nat), k ≤ la.length ∧ i = .int .i64 ((k : Int) - 1) ∧ OwnB wr w.heap.size vq lq ∧ RepB wr w.heap.size vr r ∧ r < b ∧ lq.length + k = la.length ∧ valB (la.drop k) = valB lq * b + r ∧ Below w.heap.size w wr) (fun _ _ i _ => (intOf i + 1).toNat)
  case atStart => exact ⟨la.length, [], 0, Nat.le_refl _, rfl, ownB_nil _ _, ⟨[], ownB_nil _ _, canon_nil, rfl⟩, by omega, by simp, by rw [List.drop_length]; simp [valB], Below.refl _ _⟩
  case round =>
    obtain ⟨k, lq, r, hk, rfl, hoq, hrr, hrb, hlq, hval, hbel⟩ := hrel
    have HV : Hid (valB (la.drop k) = valB lq * b + r) := hval
    have HRB : Hid (r < b) := hrb
    have HLQ : Hid (lq.length + k = la.length) := hlq
    have hlq2 : lq.length ≤ 300 := by omega
    have hsz := hbel.size
    clear hval hlq hrb
    cases k with
    | zero =>
      go_wp2_with fail
      refine (trimB_any _ _ _ _ hoq).mono ?_
      rintro e w' ⟨v', rfl, hown3, rfl⟩
      go_wp2
      go_ret
      refine ⟨v', rfl, ⟨_, hown3, trimL_canon _, ?_⟩, hbel⟩
      have hv := HV.out
      rw [List.drop_zero, HVA.out] at hv
      rw [trimL_valB]
      exact (div_of (d := valB lq) (by omega) HRB.out).1.symm
    | succ k =>
      have e : ((k + 1 : Nat) : Int) - 1 = (k : Int) := by omega
      rw [e]
      obtain ⟨x, hx⟩ : ∃ x, la[k]? = some x := ⟨la[k], by simp⟩
      obtain ⟨hxl, g, rfl, _, hg, hc⟩ := HA.out k x hx
      have hcr := hbel.cell (p := ⟨g, k, none⟩) hg
      rw [hc] at hcr
      have HX : Hid (la[k]? = some x) := hx
      obtain ⟨lr, hor, cr, hvr, hlr⟩ := hrr.own (sb.le (by have := HRB.out; omega))
      have HVR : Hid (valB lr = r) := hvr
      clear hx hc e hvr hrr
      go_wp2_with (at_builtin; refine wpList_append_own _ rfl _ _ 41 rfl wr.heap.size 3 i0 (.int .i64 0) 1 8 Tryd.underlying41 hi hz0 hz1 hz2 rfl (by decide) _ _ _ rfl ((World.ownsRow_nil wr wr.heap.size _ _).alloc _) ⟨wr.heap.size, 0, none⟩ 1 1 [.int .i64 (x : Int)] rfl rfl ?c1a ?c2a ?c3a ?c4a ?c5a ?_)
      case c1a => exact cell_one_new _ _ _
      case c2a => intro u hu; simp at hu; subst hu; rfl
      case c3a => unfold maxLen; omega
      case c4a => omega
      case c5a => simp
      intro v1 w1 hown1 hgrow hnil
      clear hnil
      have b1 : Below wr.heap.size wr w1 := ((Below.refl _ _).alloc (Nat.le_refl _) _).grown hgrow (by simp) (by intro q hq; simp [Value.ownBlock] at hq)
      have hsz1 := b1.size
      have hor1 := hor.below b1
      clear hgrow hor
      go_wp2_with (at_builtin; refine wpList_appendB rfl _ _ rfl wr.heap.size _ _ _ _ lr rfl rfl hown1 (hor1.base (Nat.zero_le _)) ?d1 ?d2 ?_)
      case d1 => omega
      case d2 => exact hsz1
      intro v2 w2 hown2 hgrow2
      have ho2 : OwnB w2 wr.heap.size v2 (x :: lr) := OwnB.ofRow hown2 (by simp [i64s]) (by intro z hz; rcases List.mem_cons.1 hz with h | h; omega; exact hor1.2 z h)
      have b2 : Below wr.heap.size wr w2 := b1.grown hgrow2 hsz1 (fun q hq => (hown1.lt q hq).1)
      have hR1 : x + 1000000000 * r < b * 1000000000 := by
        have h1 : 1000000000 * (r + 1) ≤ 1000000000 * b := Nat.mul_le_mul_left _ HRB.out
        rw [Nat.mul_add] at h1
        rw [Nat.mul_comm b]
        omega
      have sR : SmallB (x + 1000000000 * r) := sb.le (Nat.le_of_lt hR1)
      have sb1 : SmallB b := sb.le (by omega)
      have HR1 : Hid (x + 1000000000 * r < b * 1000000000) := hR1
      clear hown2 hgrow2 hown1 hor1 b1 hsz1 hR1
      go_wp2_with fail
      refine (trimB_any _ _ _ _ ho2).mono ?_
      rintro e w2' ⟨v3, rfl, ho3, rfl⟩
      have r3 : RepB w2' wr.heap.size v3 (x + 1000000000 * r) := ⟨_, ho3, trimL_canon _, by rw [trimL_valB]; simp only [valB]; rw [HVR.out]⟩
      generalize hRe : x + 1000000000 * r = R at *
      have HRE : Hid (x + 1000000000 * r = R) := hRe
      clear ho3 ho2 hRe
      go_wp2_with fail
      have bw2 : Below w.heap.size w w2' := hbel.trans (b2.mono hsz)
      refine (compareB_rep _ v3 vb R b (r3.base (Nat.zero_le _)) (hb'.below bw2) sR).mono ?_
      rintro e w3 ⟨rfl, nq, rfl⟩
      have key : ∃ (cm : Int) (h0 : Nat), cmpI (R : Int) (b : Int) = cm ∧ ((cm < 0 ∧ h0 = 0) ∨ (¬ cm < 0 ∧ h0 = 999999999)) ∧ h0 ≤ 999999999 ∧ R < b * (h0 + 1) := by
        by_cases hlt : R < b
        · exact ⟨-1, 0, cmpI_lt (by omega), .inl ⟨by omega, rfl⟩, by omega, by omega⟩
        · refine ⟨cmpI (R : Int) (b : Int), 999999999, rfl, .inr ⟨?_, rfl⟩, by omega, HR1.out⟩
          unfold cmpI; split <;> (try split) <;> omega
      obtain ⟨cm, h0, hcm, hcs, hh0, hRh⟩ := key
      rw [hcm]
      have HRH : Hid (R < b * (h0 + 1)) := hRh
      clear hcm hRh
      have r3n := (r3.drewN nq).base hsz
      have b2n : Below wr.heap.size wr (w2'.drewN nq) := below_drewN b2 nq
      have bwn : Below w.heap.size w (w2'.drewN nq) := below_drewN bw2 nq
      have hbn := hb'.below bwn
      have hoqn := hoq.below b2n
      clear r3 b2 bw2 hoq
      rcases hcs with ⟨hc1, rfl⟩ | ⟨hc1, rfl⟩
      all_goals
        go_wp2_with fail
        go_loopw [9, 10] (fun lo hg wx => ∃ l h : Nat, l ≤ h ∧ h ≤ 999999999 ∧ lo = .int .i64 l ∧ hg = .int .i64 h ∧ b * l ≤ R ∧ R < b * (h + 1) ∧ Below (w2'.drewN nq).heap.size (w2'.drewN nq) wx) (fun lo hg _ => (intOf hg).toNat - (intOf lo).toNat)
        case atStart => exact ⟨0, _, Nat.zero_le _, hh0, rfl, rfl, by simp, HRH.out, Below.refl _ _⟩
        case round =>
          obtain ⟨l, h, hlh, hh9, rfl, rfl, hl1, hl2, bx⟩ := hrel
          have HL1 : Hid (b * l ≤ R) := hl1
          have HL2 : Hid (R < b * (h + 1)) := hl2
          clear hl1 hl2
          by_cases hlt : l < h
          · have hm := bis_mid hlt
            obtain ⟨mid, hmid⟩ : ∃ mid : Nat, mid = (l + h + 1) / 2 := ⟨_, rfl⟩
            rw [← hmid] at hm
            obtain ⟨hm1, hm2⟩ := hm
            have HMID : Hid (mid = (l + h + 1) / 2) := hmid
            clear hmid
            go_wp2_with fail
            refine (times_rep _ vb b mid (((l : Int) + (h : Int) + 1) / 2) (hbn.below bx) sb1 (by omega) (by have := HMID.out; omega)).mono ?_
            rintro e w4 ⟨v4, rfl, r4, b4⟩
            have em : ((l : Int) + (h : Int) + 1) / 2 = (mid : Int) := by have := HMID.out; omega
            have EM : Hid (((l : Int) + (h : Int) + 1) / 2 = (mid : Int)) := em
            clear em
            have s4 : SmallB (b * mid) := sb.le (Nat.mul_le_mul_left _ (by omega))
            have bx4 : Below (w2'.drewN nq).heap.size (w2'.drewN nq) w4 := bx.trans (b4.mono bx.size)
            go_wp2_with fail
            refine (compareB_rep _ v4 v3 (b * mid) R (r4.base (Nat.zero_le _)) ((r3n.below bx4).base (Nat.zero_le _)) s4).mono ?_
            rintro e w5 ⟨rfl, nq2, rfl⟩
            by_cases hcx : b * mid ≤ R
            · have hcm : cmpI ((b * mid : Nat) : Int) (R : Int) ≤ 0 := by unfold cmpI; split <;> (try split) <;> omega
              generalize cmpI ((b * mid : Nat) : Int) (R : Int) = cq at hcm ⊢
              have HCX : Hid (b * mid ≤ R) := hcx
              clear hcx
              go_wp2
              go_roundw
              case rel => exact ⟨mid, h, hm2, hh9, by rw [EM.out], rfl, HCX.out, HL2.out, below_drewN bx4 nq2⟩
              case measure => simp only [intOf]; rw [EM.out]; omega
            · have hcm : 0 < cmpI ((b * mid : Nat) : Int) (R : Int) := by unfold cmpI; split <;> (try split) <;> omega
              generalize cmpI ((b * mid : Nat) : Int) (R : Int) = cq at hcm ⊢
              have HCX : Hid (¬ b * mid ≤ R) := hcx
              clear hcx
              go_wp2
              go_roundw
              case rel => exact ⟨l, mid - 1, by omega, by omega, rfl, by rw [EM.out]; go_num, HL1.out, by have := HCX.out; rw [show mid - 1 + 1 = mid from by omega]; omega, below_drewN bx4 nq2⟩
              case measure => simp only [intOf]; rw [EM.out]; omega
          · have hll : h = l := by omega
            subst hll
            go_wp2_with fail
            refine (times_rep _ vb b h (h : Int) (hbn.below bx) sb1 (by omega) rfl).mono ?_
            rintro e w4 ⟨v4, rfl, r4, b4⟩
            have bx4 : Below (w2'.drewN nq).heap.size (w2'.drewN nq) w4 := bx.trans (b4.mono bx.size)
            go_wp2_with fail
            refine (minus_rep _ v3 v4 R (b * h) ((r3n.below bx4).base (Nat.zero_le _)) (r4.base (Nat.zero_le _)) sR).mono ?_
            rintro e w5 ⟨v5, d5, rfl, r5, hd5, s5, b5⟩
            have HD5 : Hid (d5 = R - b * h) := hd5 HL1.out
            have bx5 : Below (w2'.drewN nq).heap.size (w2'.drewN nq) w5 := bx4.trans (b5.mono bx4.size)
            have bw5 : Below w.heap.size w w5 := bwn.trans (bx5.mono bwn.size)
            have hoq5 := hoqn.below bx5
            have r5w := r5.base (Nat.le_trans bwn.size bx4.size)
            clear hd5 b4 bx4 b5 r4 bx r5 r3n
            go_wp2_with (at_builtin; refine wpList_append_own _ rfl _ _ 41 rfl w5.heap.size 3 i0 (.int .i64 0) 1 8 Tryd.underlying41 hi hz0 hz1 hz2 rfl (by decide) _ _ _ rfl ((World.ownsRow_nil w5 w5.heap.size _ _).alloc _) ⟨w5.heap.size, 0, none⟩ 1 1 [.int .i64 (h : Int)] rfl rfl ?c1z ?c2z ?c3z ?c4z ?c5z ?_)
            case c1z => exact cell_one_new _ _ _
            case c2z => intro u hu; simp at hu; subst hu; rfl
            case c3z => unfold maxLen; omega
            case c4z => omega
            case c5z => simp
            intro v6 w6 hown6 hgrow6 hnil
            clear hnil
            have b6 : Below w5.heap.size w5 w6 := ((Below.refl _ _).alloc (Nat.le_refl _) _).grown hgrow6 (by simp) (by intro q hq; simp [Value.ownBlock] at hq)
            have hsz6 := b6.size
            have hoq6 := hoq5.below b6
            clear hgrow6
            go_wp2_with (at_builtin; refine wpList_appendB rfl _ _ rfl w5.heap.size _ _ _ _ lq rfl rfl hown6 (hoq6.base (Nat.zero_le _)) ?e1 ?e2 ?_)
            case e1 => omega
            case e2 => exact hsz6
            intro v7 w7 hown7 hgrow7
            have b7 : Below w5.heap.size w5 w7 := b6.grown hgrow7 hsz6 (fun q hq => (hown6.lt q hq).1)
            have ho7 : OwnB w7 w5.heap.size v7 (h :: lq) := OwnB.ofRow hown7 (by simp [i64s]) (by intro z hz; rcases List.mem_cons.1 hz with hz | hz; omega; exact hoq6.2 z hz)
            have hbf : Below w.heap.size w w7 := bw5.trans (b7.mono bw5.size)
            have rf := r5w.below b7
            have hof := ho7.base bw5.size
            clear hown7 hgrow7 hown6 hoq6 b6
            go_wp2
            go_roundw
            case rel =>
              refine ⟨k, h :: lq, d5, by omega, rfl, hof, rf, ?_, by have := HLQ.out; simp; omega, ?_, hbf⟩
              · have h1 := HL2.out
                rw [HD5.out]
                rw [Nat.mul_add] at h1
                omega
              · rw [HD5.out, ← HRE.out]
                exact div_step HX.out HV.out (by rw [HRE.out]; exact HL1.out)
            case measure => simp [intOf]

end Go.Proofs.YthdcceackfdbbaaDoor
