/- Walk of Shortest. Own text. -/
import Derived.Test.YthdcceackfdbbaaDoorSh
namespace Go.Proofs.YthdcceackfdbbaaDoor
open Go.RowKit

theorem str_eq {s : ByteArray} {l : List UInt8} (h : s.data.toList = l) : (s.toList == l) = true := list_eq_beq h

theorem print_nan {s : Nat} {l : List UInt8} (h0 : 9218868437227405312 < s) (hs : s < 9223372036854775808) (h : PrintOk s l) : l = [110, 97, 110] := by
  have e : s % 9223372036854775808 = s := by omega
  rcases h with ⟨_, h⟩ | ⟨h, _⟩ | ⟨h, _⟩ | ⟨_, h, _⟩
  · exact h
  · omega
  · omega
  · omega

theorem print_inf {l : List UInt8} (h : PrintOk 9218868437227405312 l) : l = [105, 110, 102] := by
  rcases h with ⟨h, _⟩ | ⟨_, h⟩ | ⟨h, _⟩ | ⟨_, h, _⟩
  · simp at h
  · exact h
  · simp at h
  · simp at h

theorem print_zeroS {l : List UInt8} (h : PrintOk 0 l) : l = [48] := by
  rcases h with ⟨h, _⟩ | ⟨h, _⟩ | ⟨_, rfl⟩ | ⟨h, _⟩
  · simp at h
  · simp at h
  · rfl
  · simp at h

theorem list_cons_of {l : List UInt8} (h : 1 ≤ l.length) : ∃ c f, l = c :: f := by
  cases l with
  | nil => simp at h
  | cons c f => exact ⟨c, f, rfl⟩

set_option maxRecDepth 20000 in
set_option maxHeartbeats 3200000 in
theorem shortest_law (w : World) (n : Int) (h1 : 0 ≤ n) (h2 : n ≤ 18446744073709551615) (htab : Lib.TabIs Tryd.prog w "internal/strconv.uint64pow10" .u64 Lib.pow10Tab) :
    Calls Tryd.prog 6 #[.int .u64 n] w fun e w' => e = .returned (.bool true) ∧ Below w.heap.size w w' := by
  obtain ⟨x, rfl⟩ := Int.eq_ofNat_of_zero_le h1
  have hx : x < 18446744073709551616 := by omega
  have HT : Hid (Lib.TabIs Tryd.prog w "internal/strconv.uint64pow10" .u64 Lib.pow10Tab) := htab
  clear htab
  have han := andNot_sign hx
  obtain ⟨s, hs⟩ : ∃ s, x % 9223372036854775808 = s := ⟨_, rfl⟩
  have hs2 : s < 9223372036854775808 := by omega
  rw [hs] at han
  clear hs h1 h2
  by_cases c1 : 9218868437227405312 < s
  · have c1a : decide ((9218868437227405312 : Int) ≤ (s : Int)) = true := by simp; omega
    have c1b : decide ((9218868437227405312 : Int) < (s : Int)) = true := by simp; omega
    go_enter Tryd.func6, Tryd.ntmps6
    go_wp2_with fail
    refine (print_any _ s (by omega) HT.out).mono ?_
    rintro e w1 ⟨ps, rfl, hp, hsz, b1⟩
    have hse := str_eq (print_nan c1 hs2 hp)
    clear hp
    go_wp2
    go_ret
    exact ⟨by simp, b1⟩
  · have c1b : decide ((9218868437227405312 : Int) < (s : Int)) = false := by simp; omega
    by_cases c2 : s = 9218868437227405312
    · have c2a : decide ((9218868437227405312 : Int) ≤ (s : Int)) = true := by simp; omega
      have c2b : ((s : Int) == 9218868437227405312) = true := by simp; omega
      have C2 := Hid.mk' c2
      clear c2
      go_enter Tryd.func6, Tryd.ntmps6
      go_wp2_with fail
      refine (print_any _ s (by omega) HT.out).mono ?_
      rintro e w1 ⟨ps, rfl, hp, hsz, b1⟩
      have hse := str_eq (print_inf (by rw [C2.out] at hp; exact hp))
      clear hp
      go_wp2
      go_ret
      exact ⟨by simp, b1⟩
    · have c2a : decide ((9218868437227405312 : Int) ≤ (s : Int)) = false := by simp; omega
      by_cases c3 : s = 0
      · have c3b : ((s : Int) == 0) = true := by simp; omega
        have c2b : ((s : Int) == 9218868437227405312) = false := by simp; omega
        have C3 := Hid.mk' c3
        clear c3
        go_enter Tryd.func6, Tryd.ntmps6
        go_wp2_with fail
        refine (print_any _ s (by omega) HT.out).mono ?_
        rintro e w1 ⟨ps, rfl, hp, hsz, b1⟩
        have hse := str_eq (print_zeroS (by rw [C3.out] at hp; exact hp))
        clear hp
        go_wp2
        go_ret
        exact ⟨by simp, b1⟩
      · have c3b : ((s : Int) == 0) = false := by simp; omega
        have hslt : s < 9218868437227405312 := by omega
        go_enter Tryd.func6, Tryd.ntmps6
        go_wp2_with fail
        refine (print_any _ s (by omega) HT.out).mono ?_
        rintro e w1 ⟨ps, rfl, hp, hsz, b1⟩
        obtain ⟨d, p, hsa, hl⟩ := print_pos c3 hslt hp
        obtain ⟨c, f, q, e1, e2, e3, e4, e5, e6, e7, e8, e9⟩ := short_parts hsa c3 hslt
        have HPS := Hid.mk' (hl.trans e1)
        have HF1 := Hid.mk' e2
        have HF2 := Hid.mk' e4
        have HE3 := Hid.mk' e3
        have HE8 := Hid.mk' e8
        have HT1 := Hid.mk' (tab_below HT.out b1)
        have HB1 := Hid.mk' b1
        clear hp hsz hsa hl e1 e2 e3 e4 e8 b1 HT
        go_wp2_with fail
        refine (taken_any _ ps c f q HPS.out HF1.out HF2.out (by omega) (by omega) (by omega)).mono ?_
        rintro e w2 ⟨t, rfl, ht, nq, rfl⟩
        have hts := bytes_size ht
        rw [List.length_cons] at hts
        have hp0 : 0 < t.size := by omega
        have hh := bytes_head ht hp0
        have hb0 : ((t[0].toNat : Int) == 48) = false := by rw [hh]; have := HE3.out; simp; omega
        have HTL := Hid.mk' ht
        have HT2 := Hid.mk' (tab_below HT1.out (below_drewN (Below.refl _ _) nq))
        have HB2 := Hid.mk' (below_drewN HB1.out nq)
        clear ht hh HB1 HT1
        generalize w1.drewN nq = w2 at *
        rcases e9 with rfl | ⟨g, y, rfl, g1, g2, g3⟩
        · have hts1 : t.size = 1 := by simpa using hts
          clear hts
          go_wp2_with fail
          refine (reads_any _ t c [] q s HTL.out HF1.out HF2.out (by simp) (by omega) (by omega) HT2.out).mono ?_
          rintro e w3 ⟨rfl, b3⟩
          rw [decide_eq_true HE8.out]
          go_wp2
          go_ret
          exact ⟨rfl, HB2.out.trans (b3.mono HB2.out.size)⟩
        · have hgl : (g ++ [y]).length = g.length + 1 := by simp
          rw [hgl] at hts e7
          have hlast : ∀ (h : g.length + 1 < t.size), t[g.length + 1] = y := by
            intro h
            have := take_get h
            rw [HTL.out] at this
            simpa using this.symm
          have hl2 := hlast (by omega)
          have hbl : ∀ (h : g.length + 1 < t.size), ((t[g.length + 1].toNat : Int) == 48) = false := by intro h; rw [hlast h]; simp; omega
          have hbl2 := hbl (by omega)
          clear hlast hl2 hbl
          go_wp2_with fail
          refine (reads_any _ t c (g ++ [y]) q s HTL.out HF1.out HF2.out (by rw [hgl]; omega) (by omega) (by omega) HT2.out).mono ?_
          rintro e w3 ⟨rfl, b3⟩
          rw [decide_eq_true HE8.out]
          have HB3 := Hid.mk' (HB2.out.trans (b3.mono HB2.out.size))
          have HT3 := Hid.mk' (tab_below HT2.out b3)
          clear HB2 HT2 b3
          have hcl : (t.extract 0 (g.length + 1)).data.toList = c :: g := by
            rw [extract_take, HTL.out]; simp
          obtain ⟨ct, hct⟩ : ∃ ct, t.extract 0 (g.length + 1) = ct := ⟨_, rfl⟩
          rw [hct] at hcl
          have hcs := bytes_size hcl
          rw [List.length_cons] at hcs
          have hgd : Digs (c :: g) := by
            intro z hz
            rcases List.mem_cons.1 hz with rfl | hz
            · exact HF1.out
            · exact HF2.out z (by simp [hz])
          have HCL := Hid.mk' hcl
          have HCS := Hid.mk' hcs
          have HGD := Hid.mk' hgd
          clear hcl hcs hgd
          go_wp2_with fail
          refine (upped_any _ ct (by rw [HCS.out]; omega) (by rw [HCL.out]; exact HGD.out)).mono ?_
          rintro e w4 ⟨ut, m, rfl, u1, u2, u3, u4, b4⟩
          rw [HCL.out] at u2
          rw [HCS.out] at u3
          obtain ⟨c', f', hut⟩ := list_cons_of (l := ut.data.toList) (by have : ut.data.toList.length = ut.size := by simp
                                                                         omega)
          have hful := congrArg List.length hut
          have hul : ut.data.toList.length = ut.size := by simp
          rw [hul, List.length_cons] at hful
          have hfl' : f'.length = g.length + m := by omega
          rw [hut] at u1 u2
          have HUT := Hid.mk' hut
          have HU1 := Hid.mk' (u1 c' (by simp))
          have HU2 : Hid (Digs f') := fun z hz => u1 z (by simp [hz])
          have HU3 := Hid.mk' u2
          have HB4 := Hid.mk' (HB3.out.trans (b4.mono HB3.out.size))
          have HT4 := Hid.mk' (tab_below HT3.out b4)
          clear u1 u2 u3 hut hul hful HB3 HT3 b4
          go_wp2_with fail
          refine (reads_any _ ct c g q s HCL.out HF1.out (fun z hz => HGD.out z (by simp [hz])) (by omega) (by omega) (by omega) HT4.out).mono ?_
          rintro e w5 ⟨rfl, b5⟩
          rw [decide_eq_false g2]
          have HB5 := Hid.mk' (HB4.out.trans (b5.mono HB4.out.size))
          have HT5 := Hid.mk' (tab_below HT4.out b5)
          clear HB4 HT4 b5
          go_wp2_with fail
          refine (reads_any _ ut c' f' (q + (m : Int)) s HUT.out HU1.out HU2.out (by omega) (by omega) (by omega) HT5.out).mono ?_
          rintro e w6 ⟨rfl, b6⟩
          have hne : decide (decRnd (dval (c' :: f')) (q + (m : Int) - (f'.length : Int)) = s) = false := by
            rw [HU3.out, show q + (m : Int) - (f'.length : Int) = q - (g.length : Int) by omega]
            exact decide_eq_false g3
          rw [hne]
          clear hne
          go_wp2
          go_ret
          exact ⟨rfl, HB5.out.trans (b6.mono HB5.out.size)⟩

end Go.Proofs.YthdcceackfdbbaaDoor
