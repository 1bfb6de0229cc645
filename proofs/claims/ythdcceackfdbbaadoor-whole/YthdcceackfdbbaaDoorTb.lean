/- Walk: taken. Own text. -/
import Derived.Test.YthdcceackfdbbaaDoorTa
namespace Go.Proofs.YthdcceackfdbbaaDoor
open Go.RowKit

theorem ext_one (s : ByteArray) {k : Nat} (h : k < s.size) : (s.extract k (k + 1)).data.toList = [s[k]] := by
  have hg := take_get h
  have : (s.extract k (k + 1)).data.toList = (s.data.toList.drop k).take 1 := by simp [ByteArray.data_extract, List.extract_eq_take_drop]
  rw [this]
  obtain ⟨h1, h2⟩ := List.getElem?_eq_some_iff.1 hg
  rw [List.drop_eq_getElem_cons h1, h2]
  rfl

theorem pt_facts {c : UInt8} {f : List UInt8} (hc : isDig c = true) (hf : Digs f) : (∀ x ∈ ptL (c :: f), isDig x = true ∨ x = 46) ∧ (ptL (c :: f)).filter isDig = c :: f ∧ (ptL (c :: f)).length ≤ f.length + 2 ∧ 1 ≤ (ptL (c :: f)).length := by
  have hff : f.filter isDig = f := List.filter_eq_self.2 hf
  cases f with
  | nil => simp [ptL, hc]
  | cons b t =>
    have e : ptL (c :: b :: t) = c :: 46 :: b :: t := by simp [ptL]
    rw [e]
    refine ⟨?_, ?_, by simp, by simp⟩
    · intro x hx
      simp only [List.mem_cons] at hx
      rcases hx with rfl | rfl | hx
      · exact .inl hc
      · exact .inr rfl
      · exact .inl (hf x (by simpa using hx))
    · rw [List.filter_cons_of_pos hc, List.filter_cons_of_neg (by decide), hff]

theorem take_filter {P : List UInt8} {k : Nat} {x : UInt8} (h : P[k]? = some x) : (P.take (k + 1)).filter isDig = (P.take k).filter isDig ++ (if isDig x then [x] else []) := by
  rw [take_snoc_get h, List.filter_append]
  congr 1
  by_cases hx : isDig x = true <;> simp [hx]

theorem tupT {t : ByteArray} {a b : Int} {c : Bool} (h1 : a = b) (h2 : c = true) : Ending.returned (.tuple #[.string t, .int .i64 a, .bool c]) = .returned (.tuple #[.string t, .int .i64 b, .bool true]) := by rw [h1, h2]

set_option maxRecDepth 5000 in
set_option maxHeartbeats 1600000 in
theorem taken_any (w : World) (s : ByteArray) (c : UInt8) (f : List UInt8) (q : Int) (h : s.data.toList = ptL (c :: f) ++ 101 :: Lib.itoa q) (hc : isDig c = true) (hf : Digs f) (hfl : f.length ≤ 20) (h1 : -1000 < q) (h2 : q < 1000) :
    Calls Tryd.prog 14 #[.string s] w fun e w' => ∃ t : ByteArray, e = .returned (.tuple #[.string t, .int .i64 q, .bool true]) ∧ t.data.toList = c :: f ∧ ∃ n, w' = w.drewN n := by
  obtain ⟨p1, p2, p3, p4⟩ := pt_facts hc hf
  obtain ⟨l1, l2⟩ := itoa_len3 h1 h2
  obtain ⟨tt, htt, _⟩ := ptL_cons c f
  have hsz := bytes_size h
  rw [List.length_append, List.length_cons] at hsz
  have hp : 0 < s.size := by omega
  have hh := bytes_head (c := c) (r := tt ++ 101 :: Lib.itoa q) (by rw [h, htt]; rfl) hp
  have hcb := isDig_bd hc
  have hb : ((s[0].toNat : Int) == 45) = false := by rw [hh]; simp; omega
  generalize hP : ptL (c :: f) = P at *
  obtain ⟨n, hn⟩ : ∃ n, P.length = n := ⟨_, rfl⟩
  rw [hn] at hsz p3 p4
  have hget : ∀ k, k < n → ∀ (hk : k < s.size), P[k]? = some s[k] := by
    intro k hk hks
    have := take_get hks
    rw [h, List.getElem?_append_left (by omega)] at this
    exact this
  have hgetn : ∀ (hk : n < s.size), s[n] = 101 := by
    intro hk
    have := take_get hk
    rw [h, List.getElem?_append_right (by omega), hn, Nat.sub_self] at this
    simpa using this.symm
  have hdrop : (s.extract (n + 1) s.size).data.toList = Lib.itoa q := by
    rw [extract_drop, h, List.drop_append]
    rw [hn, List.drop_of_length_le (by omega), show n + 1 - n = 1 by omega]
    rfl
  have hns : n < s.size := by omega
  have hss : s.size ≤ 40 := by omega
  have HGET := Hid.mk' hget
  have HDROP := Hid.mk' hdrop
  have HP1 := Hid.mk' p1
  have HP2 := Hid.mk' p2
  have HN := Hid.mk' hn
  have h101 := hgetn hns
  have hbn : ((s[n].toNat : Int) != 101) = false := by rw [h101]; rfl
  clear hget hdrop p1 p2 hn hgetn h101 h hh htt hP hf hc hcb hsz
  go_enter Tryd.func14, Tryd.ntmps14
  go_wp2
  go_loop [5, 6] (fun v i => ∃ (k : Nat) (t : ByteArray), k ≤ n ∧ i = .int .i64 k ∧ v = .string t ∧ t.data.toList = (P.take k).filter isDig) (fun _ i => n - (intOf i).toNat)
  case atStart => exact ⟨0, ⟨#[]⟩, Nat.zero_le _, rfl, rfl, by simp⟩
  case round =>
    obtain ⟨k, t, hk, rfl, rfl, ht⟩ := hrel
    have hts := bytes_size ht
    have hts2 : t.size ≤ k := by
      have := List.length_filter_le isDig (P.take k)
      rw [List.length_take] at this
      omega
    have HT := Hid.mk' ht
    clear ht hts
    by_cases hlt : k < n
    · have hks : k < s.size := by omega
      have hg := HGET.out k hlt hks
      have hd := HP1.out _ (List.mem_of_getElem? hg)
      have HG := Hid.mk' hg
      clear hg
      rcases hd with hd | hd
      · have hb2 := isDig_bd hd
        have HD := Hid.mk' hd
        have hc1 : 48 ≤ s[k].toNat := hb2.1
        have hc2 : s[k].toNat ≤ 57 := hb2.2
        clear hd hb2
        go_wp2
        go_round
        case rel =>
          refine ⟨k + 1, _, by omega, by go_num, rfl, ?_⟩
          rw [bytes_append_list, HT.out, ext_one s hks, take_filter HG.out, if_pos HD.out]
        case measure => simp [intOf]; omega
      · have hx : s[k].toNat = 46 := by rw [hd]; rfl
        have HD := Hid.mk' hd
        clear hd
        go_wp2
        go_round
        case rel =>
          refine ⟨k + 1, _, by omega, by go_num, rfl, ?_⟩
          rw [HT.out, take_filter HG.out, if_neg (by rw [HD.out]; decide), List.append_nil]
        case measure => simp [intOf]; omega
    · have hkn : k = n := by omega
      subst hkn
      have htl : t.data.toList = c :: f := by
        rw [HT.out, List.take_of_length_le (by rw [HN.out]; omega), HP2.out]
      have hte : t.toList.isEmpty = false := bytes_ne htl
      have HTL := Hid.mk' htl
      clear htl HT
      have hI : (k : Int) + 1 ≤ (s.size : Int) := by omega
      go_wp2_with fail
      refine (whole_any _ _ q HDROP.out h1 h2).mono ?_
      rintro e w2 ⟨rfl, rfl⟩
      go_wp2
      go_ret3
      exact ⟨t, rfl, HTL.out, 0, rfl⟩

end Go.Proofs.YthdcceackfdbbaaDoor
