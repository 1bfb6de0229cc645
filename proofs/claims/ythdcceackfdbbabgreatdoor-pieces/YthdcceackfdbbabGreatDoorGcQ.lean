import Derived.Test.YthdcceackfdbbabGreatDoorM23P
import Derived.Deep.QuietTactic
/- Own text: two readers; the law of Pieces. -/
namespace Go.Proofs.YthdcceackfdbbabGreatDoor
open Go Go.RowKit

/-- two readers, each with what is its own -/
structure TwoR (b : Nat) (w : World) (p : Nat) (S : Nat → Prop) (s : RSt) (q : Nat) (T : Nat → Prop) (t : RSt) : Prop where
  one : ReadIs w p S s
  two : ReadIs w q T t
  ne : p ≠ q
  rq : ¬ S q
  qr : ¬ T p
  dis : ∀ z, S z → ¬ T z
  bp : b ≤ p
  bq : b ≤ q
  bS : ∀ z, S z → b ≤ z
  bT : ∀ z, T z → b ≤ z

theorem TwoR.swap {b : Nat} {w : World} {p : Nat} {S : Nat → Prop} {s : RSt} {q : Nat} {T : Nat → Prop} {t : RSt} (h : TwoR b w p S s q T t) : TwoR b w q T t p S s :=
  ⟨h.two, h.one, Ne.symm h.ne, h.qr, h.rq, fun z hz hs => h.dis z hs hz, h.bq, h.bp, h.bT, h.bS⟩

theorem TwoR.below {b : Nat} {w w' : World} {p : Nat} {S : Nat → Prop} {s : RSt} {q : Nat} {T : Nat → Prop} {t : RSt} (h : TwoR b w p S s q T t) (k : Below w.heap.size w w') : TwoR b w' p S s q T t :=
  ⟨h.one.below k, h.two.below k, h.ne, h.rq, h.qr, h.dis, h.bp, h.bq, h.bS, h.bT⟩

/-- a call of the first -/
theorem TwoR.call {b : Nat} {w w' : World} {p : Nat} {S : Nat → Prop} {s s' : RSt} {q : Nat} {T : Nat → Prop} {t : RSt} (h : TwoR b w p S s q T t) (k : CallR w p S s' w') (hb : b ≤ w.heap.size) : ∃ S', TwoR b w' p S' s' q T t ∧ Below b w w' := by
  obtain ⟨hk, S', h1, h2⟩ := k
  have hq := h.two.ptr_lt
  refine ⟨S', ⟨h2, h.two.frame (fun z hz => hk.block z ?_ ?_) hk.size, h.ne, fun e => ?_, h.qr, fun z hz ht => ?_, h.bp, h.bq, fun z hz => ?_, h.bT⟩, hk.below (fun z hz => ?_) hb⟩
  · rcases hz with rfl | hz
    · exact hq
    · exact h.two.lt z hz
  · rintro (e | e)
    · rcases hz with rfl | hz
      · exact h.ne e.symm
      · rw [e] at hz; exact h.qr hz
    · rcases hz with rfl | hz
      · exact h.rq e
      · exact h.dis z e hz
  · rcases h1 q e with h1 | h1
    · exact h.rq h1
    · omega
  · rcases h1 z hz with h1 | h1
    · exact h.dis z h1 ht
    · have := h.two.lt z ht; omega
  · rcases h1 z hz with h1 | h1
    · exact h.bS z h1
    · omega
  · rcases hz with rfl | hz
    · exact h.bp
    · exact h.bS z hz

/-- what lies apart is as it was -/
theorem TwoR.kept {b : Nat} {w w' : World} {p : Nat} {S : Nat → Prop} {s : RSt} {q : Nat} {T : Nat → Prop} {t : RSt} {bb : Nat} (h : TwoR b w p S s q T t) (k : Kept (fun z => z = bb) w w') (h1 : bb ≠ p) (h2 : bb ≠ q) (h3 : ¬ S bb) (h4 : ¬ T bb) : TwoR b w' p S s q T t := by
  refine ⟨h.one.frame (fun z hz => k.block z ?_ ?_) k.size, h.two.frame (fun z hz => k.block z ?_ ?_) k.size, h.ne, h.rq, h.qr, h.dis, h.bp, h.bq, h.bS, h.bT⟩
  · rcases hz with rfl | hz
    · exact h.one.ptr_lt
    · exact h.one.lt z hz
  · intro e
    rcases hz with hz | hz
    · exact h1 (e.symm.trans hz)
    · exact h3 (e ▸ hz)
  · rcases hz with rfl | hz
    · exact h.two.ptr_lt
    · exact h.two.lt z hz
  · intro e
    rcases hz with hz | hz
    · exact h2 (e.symm.trans hz)
    · exact h4 (e ▸ hz)

theorem known_first : lineT .first [37, 37, 77, 97, 116, 114, 105, 120, 77, 97, 114, 107, 101, 116, 32, 109, 97, 116, 114, 105, 120, 32, 97, 114, 114, 97, 121, 32, 114, 101, 97, 108, 32, 103, 101, 110, 101, 114, 97, 108] = (0, .sizes 0) := by kernel_rfl
theorem known_sizes : lineT (.sizes 0) [49, 32, 49] = (0, .ent 0 1 1 1 [(0, 0)] (fun _ _ => 0)) := by kernel_rfl
theorem known_scan : (scanL [49, 101, 48]).2 = 0 := by decide
theorem known_entry : ∃ f, lineT (.ent 0 1 1 1 [(0, 0)] (fun _ _ => 0)) [49, 101, 48] = (0, .ent 0 1 1 0 [] f) := by
  have hw : wordsL [49, 101, 48] = [[49, 101, 48]] := by kernel_rfl
  unfold lineT
  rw [hw, if_neg (by simp)]
  simp only [stepT]
  rw [if_neg (by decide)]
  unfold arrE
  rw [if_neg (by decide), if_neg (by decide)]
  unfold putT
  simp only [List.getD_cons_zero]
  rw [if_neg (by rw [known_scan]; decide)]
  exact ⟨_, rfl⟩

theorem known_read : (feedS .begin [37, 37, 77, 97, 116, 114, 105, 120, 77, 97, 114, 107, 101, 116, 32, 109, 97, 116, 114, 105, 120, 32, 97, 114, 114, 97, 121, 32, 114, 101, 97, 108, 32, 103, 101, 110, 101, 114, 97, 108, 10, 49, 32, 49, 10, 49, 101, 48, 10]).1 = 0 ∧ ∃ f, endS (feedS .begin [37, 37, 77, 97, 116, 114, 105, 120, 77, 97, 114, 107, 101, 116, 32, 109, 97, 116, 114, 105, 120, 32, 97, 114, 114, 97, 121, 32, 114, 101, 97, 108, 32, 103, 101, 110, 101, 114, 97, 108, 10, 49, 32, 49, 10, 49, 101, 48, 10]).2 = ((1, 1, 0), 0, .ended 0 1 1 f) := by
  obtain ⟨f, h3⟩ := known_entry
  have e1 : bytesF (.text .first []) ([37, 37, 77, 97, 116, 114, 105, 120, 77, 97, 114, 107, 101, 116, 32, 109, 97, 116, 114, 105, 120, 32, 97, 114, 114, 97, 121, 32, 114, 101, 97, 108, 32, 103, 101, 110, 101, 114, 97, 108] ++ [10]) = (0, .text (.sizes 0) []) := by
    rw [bytesF_lineE (by decide) (by decide), known_first]; rfl
  have e2 : bytesF (.text (.sizes 0) []) ([49, 32, 49] ++ [10]) = (0, .text (.ent 0 1 1 1 [(0, 0)] (fun _ _ => 0)) []) := by
    rw [bytesF_lineE (by decide) (by decide), known_sizes]; rfl
  have e3 : bytesF (.text (.ent 0 1 1 1 [(0, 0)] (fun _ _ => 0)) []) ([49, 101, 48] ++ [10]) = (0, .text (.ent 0 1 1 0 [] f) []) := by
    rw [bytesF_lineE (by decide) (by decide), h3]; rfl
  have e : bytesF (.text .first []) [37, 37, 77, 97, 116, 114, 105, 120, 77, 97, 114, 107, 101, 116, 32, 109, 97, 116, 114, 105, 120, 32, 97, 114, 114, 97, 121, 32, 114, 101, 97, 108, 32, 103, 101, 110, 101, 114, 97, 108, 10, 49, 32, 49, 10, 49, 101, 48, 10] = (0, .text (.ent 0 1 1 0 [] f) []) := by
    have h : [37, 37, 77, 97, 116, 114, 105, 120, 77, 97, 114, 107, 101, 116, 32, 109, 97, 116, 114, 105, 120, 32, 97, 114, 114, 97, 121, 32, 114, 101, 97, 108, 32, 103, 101, 110, 101, 114, 97, 108, 10, 49, 32, 49, 10, 49, 101, 48, 10] = ([37, 37, 77, 97, 116, 114, 105, 120, 77, 97, 114, 107, 101, 116, 32, 109, 97, 116, 114, 105, 120, 32, 97, 114, 114, 97, 121, 32, 114, 101, 97, 108, 32, 103, 101, 110, 101, 114, 97, 108] ++ [10]) ++ (([49, 32, 49] ++ [10]) ++ ([49, 101, 48] ++ [10] : List UInt8)) := rfl
    rw [h, bytesF_app0 e1, bytesF_app0 e2, e3]
  have e0 : feedS .begin [37, 37, 77, 97, 116, 114, 105, 120, 77, 97, 114, 107, 101, 116, 32, 109, 97, 116, 114, 105, 120, 32, 97, 114, 114, 97, 121, 32, 114, 101, 97, 108, 32, 103, 101, 110, 101, 114, 97, 108, 10, 49, 32, 49, 10, 49, 101, 48, 10] = (0, .file (.text (.ent 0 1 1 0 [] f) [])) := by
    have h : feedS .begin [37, 37, 77, 97, 116, 114, 105, 120, 77, 97, 114, 107, 101, 116, 32, 109, 97, 116, 114, 105, 120, 32, 97, 114, 114, 97, 121, 32, 114, 101, 97, 108, 32, 103, 101, 110, 101, 114, 97, 108, 10, 49, 32, 49, 10, 49, 101, 48, 10] = filR (bytesF (.text .first []) [37, 37, 77, 97, 116, 114, 105, 120, 77, 97, 114, 107, 101, 116, 32, 109, 97, 116, 114, 105, 120, 32, 97, 114, 114, 97, 121, 32, 114, 101, 97, 108, 32, 103, 101, 110, 101, 114, 97, 108, 10, 49, 32, 49, 10, 49, 101, 48, 10]) := rfl
    rw [h, e]; rfl
  rw [e0]
  exact ⟨rfl, f, rfl⟩

theorem feed_pieceG {l : List UInt8} {k e : Nat} {f : Int} {s : RSt} (h : feedS .begin (l.take k) = (f, s)) (hk : k ≤ e) : feedS .begin (l.take e) = feedS s ((l.drop k).take (e - k)) := by
  have e1 : l.take e = l.take k ++ (l.drop k).take (e - k) := by
    have := List.take_add (l := l) (i := k) (j := e - k)
    rw [show k + (e - k) = e by omega] at this
    exact this
  rw [e1, feedS_app, h]

theorem feed_stays {l : List UInt8} {k e : Nat} {f g : Int} {s t : RSt} (h : feedS .begin (l.take k) = (f, s)) (hk : k ≤ e) (h2 : feedS .begin (l.take e) = (g, t)) (hf : f ≠ 0) : g = f := by
  have e1 : l.take e = l.take k ++ (l.drop k).take (e - k) := by
    have := List.take_add (l := l) (i := k) (j := e - k)
    rw [show k + (e - k) = e by omega] at this
    exact this
  rw [e1, feedS_begin_err (e := f) (by rw [h]) hf] at h2
  exact (congrArg Prod.fst h2).symm

set_option maxRecDepth 20000 in
set_option maxHeartbeats 8000000 in
theorem pieces_law (w : World) (x : ByteArray) (hx : x.size ≤ 140737488351232) (c : Int) (hc1 : -9223372036854775808 ≤ c) (hc2 : c ≤ 9223372036854775807) :
    Calls Tryz.prog 3 #[.string x, .int .i64 c] w fun e w' => e = .returned (.bool true) ∧ Below w.heap.size w w' := by
  obtain ⟨i0, hi, hz0, hz1, hz2⟩ := info_parts Tryz.infoU64
  obtain ⟨b, hb⟩ : ∃ b, w.heap.size = b := ⟨_, rfl⟩
  have hkn := kread_any w ⟨#[37, 37, 77, 97, 116, 114, 105, 120, 77, 97, 114, 107, 101, 116, 32, 109, 97, 116, 114, 105, 120, 32, 97, 114, 114, 97, 121, 32, 114, 101, 97, 108, 32, 103, 101, 110, 101, 114, 97, 108, 10, 49, 32, 49, 10, 49, 101, 48, 10]⟩ 49 3 (by rfl) (by omega) (by omega) (by omega)
  obtain ⟨kn1, kf, kn2⟩ := known_read
  have HKN : Hid (Calls Tryz.prog 4 #[.string ⟨#[37, 37, 77, 97, 116, 114, 105, 120, 77, 97, 114, 107, 101, 116, 32, 109, 97, 116, 114, 105, 120, 32, 97, 114, 114, 97, 121, 32, 114, 101, 97, 108, 32, 103, 101, 110, 101, 114, 97, 108, 10, 49, 32, 49, 10, 49, 101, 48, 10]⟩, .int .i64 3] w fun e w' => Below b w w' ∧ ∃ p : Nat, e = .returned (.tuple #[.pointer (some ⟨p, 0, none⟩), .agg #[.int .i64 1, .int .i64 1, .int .i64 0], .bool true])) := by
    refine hkn.mono ?_
    rintro e w' ⟨h1, h2 | ⟨_, p, Sf, h3, _⟩⟩
    · exact (h2.1 kn1).elim
    · rw [hb] at h1
      refine ⟨h1, p, ?_⟩
      rw [h3]
      have e2 : endS (feedS .begin ({ data := #[37, 37, 77, 97, 116, 114, 105, 120, 77, 97, 114, 107, 101, 116, 32, 109, 97, 116, 114, 105, 120, 32, 97, 114, 114, 97, 121, 32, 114, 101, 97, 108, 32, 103, 101, 110, 101, 114, 97, 108, 10, 49, 32, 49, 10, 49, 101, 48, 10] } : ByteArray).data.toList).2 = ((1, 1, 0), 0, .ended 0 1 1 kf) := kn2
      rw [e2]
      rfl
  clear hkn kn1 kn2 kf
  rw [hb]
  go_enter Tryz.func3, Tryz.ntmps3
  go_wp2_with fail
  refine HKN.out.mono ?_
  rintro e W1 ⟨b1, pk, rfl⟩
  clear HKN
  go_wp2_with fail
  have b2 : Below b w (W1.alloc (.cells #[.int .i64 1, .int .i64 1, .int .i64 0] 24)) := b1.alloc (by have := b1.size; omega) _
  generalize W1.alloc (.cells #[.int .i64 1, .int .i64 1, .int .i64 0] 24) = V at *
  have hbV : b ≤ V.heap.size := by have := b2.size; omega
  obtain ⟨pr, hpr⟩ : ∃ pr, V.heap.size = pr := ⟨_, rfl⟩
  have hnr := newReader_any V
  rw [hpr] at hnr hbV
  refine hnr.mono ?_
  rintro e W3 ⟨rfl, b3, r3⟩
  have HB3 : Hid (Below b w W3) := b2.trans (b3.mono hbV)
  have HR3 := hid r3
  clear hnr b2 b1 r3 b3 hpr V
  go_wp2_with fail
  obtain ⟨pq, hpq⟩ : ∃ pq, W3.heap.size = pq := ⟨_, rfl⟩
  have hnr := newReader_any W3
  rw [hpq] at hnr
  refine hnr.mono ?_
  rintro e W4 ⟨rfl, b4, r4⟩
  have hlt : pr < pq := by have := HR3.out.ptr_lt; omega
  have HB4 : Hid (Below b w W4) := HB3.out.trans (b4.mono (by omega))
  have HT : Hid (TwoR b W4 pr (fun _ => False) .begin pq (fun _ => False) .begin) :=
    ⟨HR3.out.below (by rw [hpq]; exact b4), r4, by omega, fun h => h, fun h => h, fun _ h => h.elim, hbV, by omega, fun _ h => h.elim, fun _ h => h.elim⟩
  have HBS : Hid (b ≤ W4.heap.size) := by show _ ≤ _; have := b4.size; omega
  clear hnr b4 r4 HR3 HB3 hpq W3
  go_wp2_with fail
  refine (kpick W4 c 40 hc1 hc2 (by omega) (by omega)).mono ?_
  rintro e W5 ⟨⟨k0, rfl, hk0⟩, rfl⟩
  go_wp2_with fail
  obtain ⟨n, hn⟩ : ∃ n : Nat, 1 + (k0 : Int) = (n : Int) := ⟨1 + k0, by omega⟩
  rw [hn]
  have hn1 : 1 ≤ n := by omega
  have hn2 : n ≤ 40 := by omega
  clear hn hk0 hc1 hc2
  have hxl : x.data.toList.length = x.size := (bytes_size rfl).symm
  have HXL := hid hxl
  clear hxl
  have hfr := feed_any W5 pr _ .begin x (by unfold maxLen; omega) HT.out.one
  obtain ⟨⟨er, sr⟩, hsr⟩ : ∃ r : Int × RSt, feedS .begin x.data.toList = r := ⟨_, rfl⟩
  rw [hsr] at hfr
  have HSR := hid hsr
  have HFR := hid hfr
  clear hfr hsr
  refine HFR.out.mono ?_
  rintro e W6 ⟨rfl, hcall⟩
  obtain ⟨Sr, hT6, hb6⟩ := HT.out.call hcall HBS.out
  have HT6 := hid hT6
  have HB6 : Hid (Below b w W6) := HB4.out.trans hb6
  have HS6 : Hid (b ≤ W6.heap.size) := by show _ ≤ _; have := hb6.size; have := HBS.out; omega
  clear hT6 hb6 hcall HFR HT HB4 HBS
  go_wp2_with fail
  go_loopw [12, 13] (fun f i wr => ∃ (k : Nat) (fk : Int) (sk : RSt) (Sq : Nat → Prop), k ≤ x.size + 40 ∧ f = .int .i64 fk ∧ i = .int .i64 (k : Int) ∧ Hid (feedS .begin (x.data.toList.take k) = (fk, sk)) ∧ Hid (TwoR b wr pr Sr sr pq Sq sk) ∧ Hid (Below b w wr) ∧ Hid (b ≤ wr.heap.size)) (fun _ i _ => x.size - (intOf i).toNat)
  case atStart => exact ⟨0, 0, .begin, fun _ => False, by omega, rfl, rfl, by show _ = _; rw [List.take_zero]; exact feedS_nil, HT6, HB6, HS6⟩
  case round =>
    obtain ⟨k, fk, sk, Sq, hk, rfl, rfl, HF, HTk, HWk, HBk⟩ := hrel
    clear HT6 HB6 HS6
    by_cases hlt : k < x.size
    · have hlt' : (k : Int) < (x.size : Int) := by omega
      have hkx : k ≤ x.size := by omega
      by_cases hen : x.size < k + n
      · have hen' : (x.size : Int) < (k : Int) + (n : Int) := by omega
        have hfd := feed_any wr pq Sq sk (x.extract k x.size) (by rw [bytes_size piece_list]; unfold maxLen; simp; omega) HTk.out.two
        rw [piece_list, ← feed_pieceG HF.out (by omega)] at hfd
        have HFD := hid hfd
        clear hfd
        go_wp2_with fail
        refine HFD.out.mono ?_
        rintro e W2 ⟨rfl, hcl⟩
        obtain ⟨S2, hT2, hb2⟩ := HTk.out.swap.call hcl HBk.out
        obtain ⟨⟨fg, s2⟩, hes⟩ : ∃ r : Int × RSt, feedS .begin (x.data.toList.take x.size) = r := ⟨_, rfl⟩
        rw [hes] at hT2 ⊢
        simp only at hT2 ⊢
        have HT2 := hid hT2.swap
        have HB2 : Hid (Below b w W2) := HWk.out.trans hb2
        have HS2 : Hid (b ≤ W2.heap.size) := by show _ ≤ _; have := hb2.size; have := HBk.out; omega
        have HST : Hid (fk ≠ 0 → fg = fk) := feed_stays HF.out (by omega) hes
        have HES : Hid (feedS .begin (x.data.toList.take (k + n)) = (fg, s2)) := by
          have h := hes; rw [List.take_of_length_le (by rw [HXL.out]; omega)] at h; show _ = _; rw [List.take_of_length_le (by rw [HXL.out]; omega)]; exact h
        clear hes hT2 hcl HFD hb2 HTk HWk HBk HF
        by_cases hf0 : fk = 0
        · subst hf0
          clear HST
          go_wp2
          go_round
          case rel => exact ⟨k + n, fg, s2, S2, by omega, rfl, by simp, HES, HT2, HB2, HS2⟩
          case measure => simp [intOf]; omega
        · obtain rfl := HST.out hf0
          clear HST
          go_wp2
          go_round
          case rel => exact ⟨k + n, fg, s2, S2, by omega, rfl, by simp, HES, HT2, HB2, HS2⟩
          case measure => simp [intOf]; omega
      · have hen' : ¬ (x.size : Int) < (k : Int) + (n : Int) := by omega
        have hfd := feed_any wr pq Sq sk (x.extract k (k + n)) (by rw [bytes_size piece_list]; unfold maxLen; simp; omega) HTk.out.two
        rw [piece_list, ← feed_pieceG HF.out (by omega)] at hfd
        have HFD := hid hfd
        clear hfd
        go_wp2_with fail
        refine HFD.out.mono ?_
        rintro e W2 ⟨rfl, hcl⟩
        obtain ⟨S2, hT2, hb2⟩ := HTk.out.swap.call hcl HBk.out
        obtain ⟨⟨fg, s2⟩, hes⟩ : ∃ r : Int × RSt, feedS .begin (x.data.toList.take (k + n)) = r := ⟨_, rfl⟩
        rw [hes] at hT2 ⊢
        simp only at hT2 ⊢
        have HT2 := hid hT2.swap
        have HB2 : Hid (Below b w W2) := HWk.out.trans hb2
        have HS2 : Hid (b ≤ W2.heap.size) := by show _ ≤ _; have := hb2.size; have := HBk.out; omega
        have HST : Hid (fk ≠ 0 → fg = fk) := feed_stays HF.out (by omega) hes
        have HES : Hid (feedS .begin (x.data.toList.take (k + n)) = (fg, s2)) := by
          exact hes
        clear hes hT2 hcl HFD hb2 HTk HWk HBk HF
        by_cases hf0 : fk = 0
        · subst hf0
          clear HST
          go_wp2
          go_round
          case rel => exact ⟨k + n, fg, s2, S2, by omega, rfl, by simp, HES, HT2, HB2, HS2⟩
          case measure => simp [intOf]; omega
        · obtain rfl := HST.out hf0
          clear HST
          go_wp2
          go_round
          case rel => exact ⟨k + n, fg, s2, S2, by omega, rfl, by simp, HES, HT2, HB2, HS2⟩
          case measure => simp [intOf]; omega
    · have hlt' : ¬ (k : Int) < (x.size : Int) := by omega
      obtain ⟨rfl, rfl⟩ : fk = er ∧ sk = sr := by
        have h := HF.out
        rw [List.take_of_length_le (by rw [HXL.out]; omega), HSR.out] at h
        cases h
        exact ⟨rfl, rfl⟩
      clear HF
      have hmk0 := fun w : World => run_make1 (P := Tryz.prog) 35 37 i0 (.int .u64 0) Tryz.underlying35 hi hz0 hz1 rfl 1600 (by rw [hz2]; omega) (by omega) w
      have HMK : Hid (∀ w : World, (Instr.makeSlice 35 (.int .i64 1600) (.int .i64 1600)).run Tryz.prog w = .ok (.slice (some ⟨w.heap.size, 0, none⟩) 1600 1600) (w.alloc (.cells (Array.replicate 1600 (.int .u64 0)) 37))) := hmk0
      clear hmk0 hi hz0 hz1 hz2
      have hend := end_of_feed x.data.toList
      rw [HSR.out] at hend
      simp only at hend
      obtain ⟨⟨⟨R, C, kd⟩, ae, s'⟩, hes⟩ : ∃ r, endS sk = r := ⟨_, rfl⟩
      rw [hes] at hend
      have HST : Hid (fk ≠ 0 → ae = fk) := by
        intro hf
        rcases hend with ⟨e, _, h2, h3⟩ | ⟨h, _⟩
        · cases h2; exact (h3 hf).symm
        · exact (hf h).elim
      have HCE : Hid ((ae ≠ 0 ∧ ∃ e, s' = .failed e) ∨ (ae = 0 ∧ ∃ f, s' = .ended kd R C f)) := by
        rcases hend with ⟨e, h1, h2, h3⟩ | ⟨_, k', R', C', f', h2⟩
        · cases h2; exact .inl ⟨h1, _, rfl⟩
        · cases h2; exact .inr ⟨rfl, _, rfl⟩
      have hen1 := rend_any wr pr Sr sk HTk.out.one
      rw [hes] at hen1
      have HEN1 := hid hen1
      have HES := hid hes
      clear hen1 hes hend
      go_wp2_with fail
      refine HEN1.out.mono ?_
      rintro e W7 ⟨rfl, hcl⟩
      simp only at hcl ⊢
      obtain ⟨S7, hT7, hb7⟩ := HTk.out.call hcl HBk.out
      have hB7 : b ≤ W7.heap.size := by have := hb7.size; have := HBk.out; omega
      obtain ⟨px, hpx⟩ : ∃ px, W7.heap.size = px := ⟨_, rfl⟩
      have aX : Arr (W7.alloc (.cells #[.int .i64 (R : Int), .int .i64 (C : Int), .int .i64 (kd : Int)] 24)) px 24 [.int .i64 (R : Int), .int .i64 (C : Int), .int .i64 (kd : Int)] := by rw [← hpx]; exact Arr.newL _ _ _
      have hbX := Below.refl' W7 (.cells #[.int .i64 (R : Int), .int .i64 (C : Int), .int .i64 (kd : Int)] 24)
      have hTX := hT7.below hbX
      have hqx := hT7.two.ptr_lt
      have hSqx := hT7.two.lt
      have HBX : Hid (Below b w (W7.alloc (.cells #[.int .i64 (R : Int), .int .i64 (C : Int), .int .i64 (kd : Int)] 24))) := (HWk.out.trans hb7).trans (hbX.mono hB7)
      have HSX : Hid (b ≤ (W7.alloc (.cells #[.int .i64 (R : Int), .int .i64 (C : Int), .int .i64 (kd : Int)] 24)).heap.size) := by show _ ≤ _; simp; omega
      have HAX := hid aX
      have HTX := hid hTX
      have HPX : Hid (W7.heap.size = px) := hpx
      have HQX : Hid (pq < px ∧ ∀ q, Sq q → q < px) := ⟨by omega, fun q hq => by have := hSqx q hq; omega⟩
      clear aX hbX hTX hT7 hb7 hcl hpx hqx hSqx HEN1 HTk HWk HBk hB7
      go_wp2_with fail
      rw [HPX.out]
      generalize W7.alloc (.cells #[.int .i64 (R : Int), .int .i64 (C : Int), .int .i64 (kd : Int)] 24) = V7 at *
      clear HPX W7
      have hen2 := rend_any V7 pq Sq sk HTX.out.two
      rw [HES.out] at hen2
      have HEN2 := hid hen2
      clear hen2
      refine HEN2.out.mono ?_
      rintro e W8 ⟨rfl, hcl⟩
      simp only at hcl ⊢
      have aX8 : Arr W8 px 24 [.int .i64 (R : Int), .int .i64 (C : Int), .int .i64 (kd : Int)] := hcl.1.arr HAX.out (fun h => by
        have := HQX.out.1
        rcases h with h | h
        · omega
        · have := HQX.out.2 px h; omega)
      obtain ⟨S8, hT8, hb8⟩ := HTX.out.swap.call hcl HSX.out
      have hB8 : b ≤ W8.heap.size := by have := hb8.size; have := HSX.out; omega
      obtain ⟨py, hpy⟩ : ∃ py, W8.heap.size = py := ⟨_, rfl⟩
      have aY : Arr (W8.alloc (.cells #[.int .i64 (R : Int), .int .i64 (C : Int), .int .i64 (kd : Int)] 24)) py 24 [.int .i64 (R : Int), .int .i64 (C : Int), .int .i64 (kd : Int)] := by rw [← hpy]; exact Arr.newL _ _ _
      have aX9 := aX8.alloc (.cells #[.int .i64 (R : Int), .int .i64 (C : Int), .int .i64 (kd : Int)] 24)
      have hbY := Below.refl' W8 (.cells #[.int .i64 (R : Int), .int .i64 (C : Int), .int .i64 (kd : Int)] 24)
      have HTY := hid (hT8.swap.below hbY)
      have HBY : Hid (Below b w (W8.alloc (.cells #[.int .i64 (R : Int), .int .i64 (C : Int), .int .i64 (kd : Int)] 24))) := (HBX.out.trans hb8).trans (hbY.mono hB8)
      have HSY : Hid (b ≤ (W8.alloc (.cells #[.int .i64 (R : Int), .int .i64 (C : Int), .int .i64 (kd : Int)] 24)).heap.size) := by show _ ≤ _; simp; omega
      have x0 := aX9.cell (i := 0) rfl
      have x1 := aX9.cell (i := 1) rfl
      have x2 := aX9.cell (i := 2) rfl
      have y0 := aY.cell (i := 0) rfl
      have y1 := aY.cell (i := 1) rfl
      have y2 := aY.cell (i := 2) rfl
      have HPY := hid hpy
      have hxs : ∀ j : Nat, px ≠ W8.heap.size ∧ j = j := fun j => ⟨by have := aX8.lt; omega, rfl⟩
      have HAX9 := hid aX9
      have HAY := hid aY
      clear aX8 aX9 aY hbY hT8 hb8 hcl hB8 HEN2 HTX HBX HSX HAX HQX HES hpy hxs y0 y1 y2
      -- TAIL
      have hmk := HMK.out
      clear HMK
      obtain ⟨A4, hA4⟩ : ∃ A4, ((((W8.alloc (.cells #[.int .i64 (R : Int), .int .i64 (C : Int), .int .i64 (kd : Int)] 24)).alloc (.cells #[.int .i64 (R : Int), .int .i64 (C : Int), .int .i64 0, .int .i64 (C : Int), .int .i64 1] 34)).alloc (.cells (Array.replicate 1600 (.int .u64 0)) 37)).alloc (.cells (Array.replicate 1600 (.int .u64 0)) 37)) = A4 := ⟨_, rfl⟩
      have z1 : (W8.alloc (.cells #[.int .i64 (R : Int), .int .i64 (C : Int), .int .i64 (kd : Int)] 24)).heap.size = py + 1 := by simp [HPY.out]
      have aV : Arr A4 (py + 1) 34 [.int .i64 (R : Int), .int .i64 (C : Int), .int .i64 0, .int .i64 (C : Int), .int .i64 1] := by
        rw [← hA4, ← z1]; exact ((Arr.newL _ _ _).alloc _).alloc _
      have aM : Arr A4 (py + 1 + 1) 37 (List.replicate 1600 (.int .u64 0)) := by
        have h := Arr.newL ((W8.alloc (.cells #[.int .i64 (R : Int), .int .i64 (C : Int), .int .i64 (kd : Int)] 24)).alloc (.cells #[.int .i64 (R : Int), .int .i64 (C : Int), .int .i64 0, .int .i64 (C : Int), .int .i64 1] 34)) 37 (List.replicate 1600 (.int .u64 0))
        rw [List.toArray_replicate, World.size_alloc, z1] at h
        rw [← hA4]; exact h.alloc _
      have aO : Arr A4 (py + 1 + 1 + 1) 37 (List.replicate 1600 (.int .u64 0)) := by
        have h := Arr.newL (((W8.alloc (.cells #[.int .i64 (R : Int), .int .i64 (C : Int), .int .i64 (kd : Int)] 24)).alloc (.cells #[.int .i64 (R : Int), .int .i64 (C : Int), .int .i64 0, .int .i64 (C : Int), .int .i64 1] 34)).alloc (.cells (Array.replicate 1600 (.int .u64 0)) 37)) 37 (List.replicate 1600 (.int .u64 0))
        rw [List.toArray_replicate, World.size_alloc, World.size_alloc, z1] at h
        rw [← hA4]; exact h
      have b4 : Below (py + 1) (W8.alloc (.cells #[.int .i64 (R : Int), .int .i64 (C : Int), .int .i64 (kd : Int)] 24)) A4 := by
        rw [← hA4, ← z1]; exact (((Below.refl _ _).alloc (Nat.le_refl _) _).alloc (by simp) _).alloc (by simp) _
      have hSY := HSY.out
      rw [z1] at hSY
      have hT4 := HTY.out.below (by rw [z1]; exact b4)
      have hB4 := HBY.out.trans (b4.mono hSY)
      have hpr := HTY.out.one.ptr_lt
      have hpq := HTY.out.two.ptr_lt
      have hSr := HTY.out.one.lt
      have hSq := HTY.out.two.lt
      rw [z1] at hpr hpq
      have n1 : ∀ j, py + 1 ≤ j → j ≠ pr ∧ j ≠ pq ∧ ¬ S7 j ∧ ¬ S8 j := fun j hj => ⟨by omega, by omega, fun h => by have := hSr j h; rw [z1] at this; omega, fun h => by have := hSq j h; rw [z1] at this; omega⟩
      obtain ⟨er, her⟩ : ∃ er, intoE s' R C 0 C 1 1600 = er := ⟨_, rfl⟩
      obtain ⟨l', hl'⟩ : ∃ l', intoL s' R C 0 C 1 1600 (List.replicate 1600 (.int .u64 0)) = l' := ⟨_, rfl⟩
      have hll : l'.length = 1600 := by rw [← hl', intoL_len]; exact List.length_replicate
      have hlu : ∀ v ∈ l', ∃ z : Int, v = .int .u64 z := by rw [← hl']; exact intoL_u64 _ _ _ _ _ _ _ (fun v hv => ⟨0, (List.mem_replicate.1 hv).2⟩)
      have hes : (er == 0) = (ae == 0) := by
        rw [← her]
        rcases HCE.out with ⟨h1, e, rfl⟩ | ⟨h1, f, rfl⟩
        · rw [intoE_failed]
          have : (ae == 0) = false := by simpa using h1
          rw [this]; rfl
        · rw [intoE_ended hT4.one, h1]
      have hi1 := into_any A4 pr S7 s' 1600 1600 (py + 1 + 1) (List.replicate 1600 (.int .u64 0)) R C 0 C 1 hT4.one aM (by rw [List.length_replicate]; omega) (by unfold maxLen; omega) (n1 _ (by omega)).1 (n1 _ (by omega)).2.2.1
      rw [her, hl'] at hi1
      unfold viewV at hi1
      have HI1 := hid hi1
      have HI2 : Hid (∀ W9, IntoR A4 pr S7 s' (py + 1 + 1) l' er (.returned (.int .i64 er)) W9 → Arr W9 (py + 1) 34 [.int .i64 (R : Int), .int .i64 (C : Int), .int .i64 0, .int .i64 (C : Int), .int .i64 1] ∧
          Calls Tryz.prog 9 #[.pointer (some ⟨pq, 0, none⟩), .slice (some ⟨py + 1 + 1 + 1, 0, none⟩) 1600 1600, .agg #[.int .i64 (R : Int), .int .i64 (C : Int), .int .i64 0, .int .i64 (C : Int), .int .i64 1]] W9 fun e W10 => e = .returned (.int .i64 er) ∧ Hid (Below b w W10 ∧ Arr W10 (py + 1 + 1) 37 l' ∧ Arr W10 (py + 1 + 1 + 1) 37 l')) := by
        rintro W9 ⟨_, k9, a9, _⟩
        have t9 := hT4.kept k9 (n1 _ (by omega)).1 (n1 _ (by omega)).2.1 (n1 _ (by omega)).2.2.1 (n1 _ (by omega)).2.2.2
        have o9 : Arr W9 (py + 1 + 1 + 1) 37 _ := k9.arr aO (by omega)
        refine ⟨k9.arr aV (by omega), ?_⟩
        have hi2 := into_any W9 pq S8 s' 1600 1600 (py + 1 + 1 + 1) (List.replicate 1600 (.int .u64 0)) R C 0 C 1 t9.two o9 (by rw [List.length_replicate]; omega) (by unfold maxLen; omega) (n1 _ (by omega)).2.1 (n1 _ (by omega)).2.2.2
        rw [her, hl'] at hi2
        refine hi2.mono ?_
        rintro e W10 ⟨rfl, k10, a10, _⟩
        have hzA : b ≤ A4.heap.size := by have := aO.lt; omega
        have hz9 : b ≤ W9.heap.size := by have := o9.lt; omega
        exact ⟨rfl, (hB4.trans (k9.below (fun z hz => by rw [hz]; omega) hzA)).trans (k10.below (fun z hz => by rw [hz]; omega) hz9), k10.arr a9 (by omega), a10⟩
      have HES := hid hes
      have HLU := hid hlu
      have HLL := hid hll
      have HA4 := hid hA4
      clear hi1 hA4 z1 aV aM aO b4 hSY hT4 hB4 hpr hpq hSr hSq n1 her hl' hll hlu hes HTY HBY HSY HAX9 HAY HCE
      by_cases hf0 : fk = 0
      · subst hf0
        clear HST
        go_wp2_with fail
        rw [HPY.out, HA4.out]
        refine HI1.out.mono ?_
        intro e W9 hi9
        obtain rfl := hi9.1
        obtain ⟨v9, HC9⟩ := HI2.out W9 hi9
        clear HI1 HI2 hi9 x0 x1 x2 hmk HA4
        have c0 := v9.cell (i := 0) rfl
        have c1 := v9.cell (i := 1) rfl
        have c2 := v9.cell (i := 2) rfl
        have c3 := v9.cell (i := 3) rfl
        have c4 := v9.cell (i := 4) rfl
        have HC := hid HC9
        clear v9 HC9
        go_wp2_with fail
        refine HC.out.mono ?_
        rintro e W10 ⟨rfl, H10⟩
        clear HC c0 c1 c2 c3 c4
        go_wp2_with fail
        go_loopw [25] (fun vi wx => ∃ i m : Nat, vi = .int .i64 (i : Int) ∧ i ≤ 1600 ∧ wx = W10.drewN m) (fun vi _ => 1600 - (intOf vi).toNat)
        case atStart => exact ⟨0, 0, rfl, by omega, (World.drewN_zero _).symm⟩
        case round =>
          obtain ⟨i, mq, rfl, hi, rfl⟩ := hrel
          by_cases hit : i < 1600
          · have hit' : (i : Int) < 1600 := by omega
            obtain ⟨v, hv⟩ : ∃ v, l'[i]? = some v := ⟨l'[i]'(by rw [HLL.out]; exact hit), by simp⟩
            obtain ⟨z, rfl⟩ := HLU.out v (List.mem_of_getElem? hv)
            have k1 : W10.cell? ⟨py + 1 + 1, i, none⟩ = some (.int .u64 z) := H10.out.2.1.cell hv
            have k2 : W10.cell? ⟨py + 1 + 1 + 1, i, none⟩ = some (.int .u64 z) := H10.out.2.2.cell hv
            clear hv
            go_wp2
            go_quiet (fail)
            go_wp2
            go_round
            case rel => exact ⟨i + 1, _, by simp, by omega, rfl⟩
            case measure => simp [intOf]; omega
          · have hit' : ¬ (i : Int) < 1600 := by omega
            go_wp2
            go_ret
            refine ⟨?_, below_dn H10.out.1 mq⟩
            have hes := HES.out
            generalize (er == 0) = x1 at *
            generalize (ae == 0) = x2 at *
            subst hes
            cases x1 <;> rfl
      · obtain rfl := HST.out hf0
        have hfb : (ae != 0) = true := by simpa using hf0
        clear HST
        go_wp2_with fail
        rw [HPY.out, HA4.out]
        refine HI1.out.mono ?_
        intro e W9 hi9
        obtain rfl := hi9.1
        obtain ⟨v9, HC9⟩ := HI2.out W9 hi9
        clear HI1 HI2 hi9 x0 x1 x2 hmk HA4
        have c0 := v9.cell (i := 0) rfl
        have c1 := v9.cell (i := 1) rfl
        have c2 := v9.cell (i := 2) rfl
        have c3 := v9.cell (i := 3) rfl
        have c4 := v9.cell (i := 4) rfl
        have HC := hid HC9
        clear v9 HC9
        go_wp2_with fail
        refine HC.out.mono ?_
        rintro e W10 ⟨rfl, H10⟩
        clear HC c0 c1 c2 c3 c4
        go_wp2_with fail
        go_loopw [25] (fun vi wx => ∃ i m : Nat, vi = .int .i64 (i : Int) ∧ i ≤ 1600 ∧ wx = W10.drewN m) (fun vi _ => 1600 - (intOf vi).toNat)
        case atStart => exact ⟨0, 0, rfl, by omega, (World.drewN_zero _).symm⟩
        case round =>
          obtain ⟨i, mq, rfl, hi, rfl⟩ := hrel
          by_cases hit : i < 1600
          · have hit' : (i : Int) < 1600 := by omega
            obtain ⟨v, hv⟩ : ∃ v, l'[i]? = some v := ⟨l'[i]'(by rw [HLL.out]; exact hit), by simp⟩
            obtain ⟨z, rfl⟩ := HLU.out v (List.mem_of_getElem? hv)
            have k1 : W10.cell? ⟨py + 1 + 1, i, none⟩ = some (.int .u64 z) := H10.out.2.1.cell hv
            have k2 : W10.cell? ⟨py + 1 + 1 + 1, i, none⟩ = some (.int .u64 z) := H10.out.2.2.cell hv
            clear hv
            go_wp2
            go_quiet (fail)
            go_wp2
            go_round
            case rel => exact ⟨i + 1, _, by simp, by omega, rfl⟩
            case measure => simp [intOf]; omega
          · have hit' : ¬ (i : Int) < 1600 := by omega
            go_wp2
            go_ret
            refine ⟨?_, below_dn H10.out.1 mq⟩
            have hes := HES.out
            generalize (er == 0) = x1 at *
            generalize (ae == 0) = x2 at *
            subst hes
            cases x1 <;> rfl

end Go.Proofs.YthdcceackfdbbabGreatDoor
