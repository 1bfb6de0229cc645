import Derived.Test.YthdcceackfdbbaaGreatDoorProg
import Derived.Test.YthdcceackfdbbaaGreatDoorM05R
import Derived.Test.YthdcceackfdbbaaGreatDoorM00R
import Derived.WalkKit
import Derived.Lib.FieldsP
import Derived.Lib.MapLaws
namespace Go.Proofs.YthdcceackfdbbaaGreatDoor
open Go Go.RowKit
def blankP (r : Nat) : Bool := decide (r = 32 ∨ r = 9 ∨ r = 13)
def wordsGo : List UInt8 → List UInt8 → List (List UInt8)
  | cur, [] => if cur = [] then [] else [cur]
  | cur, b :: r => if blankP b.toNat = true then (if cur = [] then wordsGo [] r else cur :: wordsGo [] r) else wordsGo (cur ++ [b]) r
def wordsL (l : List UInt8) : List (List UInt8) := wordsGo [] l
theorem wordsGo_skip : ∀ (chunk cur rest : List UInt8), (∀ b ∈ chunk, blankP b.toNat = false) → wordsGo cur (chunk ++ rest) = wordsGo (cur ++ chunk) rest
  | [], cur, rest, _ => by simp
  | b :: r, cur, rest, h => by
    rw [List.cons_append, wordsGo, if_neg (by rw [h b (by simp)]; simp), wordsGo_skip r (cur ++ [b]) rest (fun c hc => h c (by simp [hc]))]
    simp
theorem ext_list (s : ByteArray) (a b : Nat) : (s.extract a b).data.toList = (s.data.toList.drop a).take (b - a) := by
  simp
theorem get_bang {s : ByteArray} {i : Nat} (h : i < s.size) : s.data.toList[i]? = some (s.get! i) := by
  have hl : i < s.data.size := h
  simp only [ByteArray.get!, Array.getElem?_toList]
  rw [getElem!_pos s.data i hl, Array.getElem?_eq_getElem hl]
theorem decode_step (s : ByteArray) (pos : Nat) (h : pos < s.size) : 1 ≤ (Utf8.decode s pos).2 ∧ pos + (Utf8.decode s pos).2 ≤ s.size ∧
    (((Utf8.decode s pos).2 = 1 ∧ (Utf8.decode s pos).1 = (s.get! pos).toNat) ∨ (128 ≤ (Utf8.decode s pos).1 ∧ ∀ k, k < (Utf8.decode s pos).2 → 128 ≤ (s.get! (pos + k)).toNat)) := by
  rw [Lib.decode_at]
  have h0 := (s.get! pos).toNat_lt
  rcases Lib.decodeN_shape (s.size - pos) (s.get! pos).toNat (s.get! (pos + 1)).toNat (s.get! (pos + 2)).toNat (s.get! (pos + 3)).toNat with ⟨a1, a2⟩ | ⟨a1, a2, a3, a4, a5⟩ | ⟨a1, a2, a3, a4, a5, a6, a7⟩ | ⟨a1, a2, a3, a4, a5, a6, a7, a8⟩ | a1
  · rw [a2]; exact ⟨by simp, by simp only; omega, .inl ⟨rfl, rfl⟩⟩
  · rw [a5]
    refine ⟨by simp, by simp only; omega, .inr ⟨a4, fun k hk => ?_⟩⟩
    simp only at hk
    rcases (by omega : k = 0 ∨ k = 1) with rfl | rfl
    · rw [Nat.add_zero]; omega
    · omega
  · rw [a7]
    refine ⟨by simp, by simp only; omega, .inr ⟨by simp only; omega, fun k hk => ?_⟩⟩
    simp only at hk
    rcases (by omega : k = 0 ∨ k = 1 ∨ k = 2) with rfl | rfl | rfl
    · rw [Nat.add_zero]; omega
    · omega
    · omega
  · rw [a8]
    refine ⟨by simp, by simp only; omega, .inr ⟨by simp only; omega, fun k hk => ?_⟩⟩
    simp only at hk
    rcases (by omega : k = 0 ∨ k = 1 ∨ k = 2 ∨ k = 3) with rfl | rfl | rfl | rfl
    · rw [Nat.add_zero]; omega
    · omega
    · omega
    · omega
  · rw [a1]
    refine ⟨by simp, by simp only; omega, .inr ⟨by simp only; omega, fun k hk => ?_⟩⟩
    simp only at hk
    obtain rfl : k = 0 := by omega
    rw [Nat.add_zero]
    by_cases hb : (s.get! pos).toNat < 128
    · unfold Lib.decodeN at a1
      rw [if_pos hb] at a1
      have := congrArg Prod.fst a1
      simp only at this
      omega
    · omega
def extL (s : ByteArray) (x : Nat × Nat) : List UInt8 := (s.extract x.1 x.2).data.toList
def curL (s : ByteArray) (pos : Nat) : Option Nat → List UInt8
  | none => []
  | some a => (s.data.toList.drop a).take (pos - a)
theorem blank_ascii {r : Nat} (h : blankP r = true) : r < 128 := by
  unfold blankP at h
  have := of_decide_eq_true h
  omega
theorem spans_words (s : ByteArray) : ∀ (f pos : Nat) (st : Option Nat) (acc : List (Nat × Nat)), s.size ≤ pos + f → pos ≤ s.size → (∀ a, st = some a → a < pos) →
    (Lib.closeSpans s (Lib.spansFromP blankP s f pos st acc)).map (extL s) = acc.map (extL s) ++ wordsGo (curL s pos st) (s.data.toList.drop pos)
  | f, pos, st, acc, hf, hp, hst => by
    have hlen : s.data.toList.length = s.size := by simp
    by_cases hlt : pos < s.size
    · obtain ⟨f', rfl⟩ : ∃ f', f = f' + 1 := ⟨f - 1, by omega⟩
      obtain ⟨w1, w2, w3⟩ := decode_step s pos hlt
      unfold Lib.spansFromP
      rw [if_pos hlt]
      have hdrop : s.data.toList.drop pos = s.get! pos :: s.data.toList.drop (pos + 1) := by
        rw [List.drop_eq_getElem_cons (by omega)]
        have := get_bang hlt
        rw [List.getElem?_eq_getElem (by omega)] at this
        rw [Option.some.inj this]
      by_cases hb : blankP (Utf8.decode s pos).1 = true
      · rw [if_pos hb]
        have hr : (Utf8.decode s pos).2 = 1 ∧ (Utf8.decode s pos).1 = (s.get! pos).toNat := by
          rcases w3 with h | ⟨h, _⟩
          · exact h
          · have := blank_ascii hb; omega
        rw [hr.2] at hb
        rw [hr.1, hdrop]
        cases st with
        | none =>
          simp only
          rw [spans_words s f' (pos + 1) none acc (by omega) (by omega) (fun a h => by cases h)]
          simp only [curL]
          rw [wordsGo, if_pos hb, if_pos rfl]
        | some a =>
          simp only
          rw [spans_words s f' (pos + 1) none (acc ++ [(a, pos)]) (by omega) (by omega) (fun a h => by cases h)]
          have ha := hst a rfl
          have hne : curL s pos (some a) ≠ [] := by
            simp only [curL]
            intro h
            have := congrArg List.length h
            rw [List.length_take, List.length_drop, hlen] at this
            simp at this; omega
          rw [wordsGo, if_pos hb, if_neg hne, List.map_append, List.map_singleton, List.append_assoc]
          simp only [curL, List.singleton_append]
          rw [show extL s (a, pos) = (s.data.toList.drop a).take (pos - a) from ext_list s a pos]
      · rw [if_neg hb]
        have hchunk : ∀ b ∈ (s.data.toList.drop pos).take (Utf8.decode s pos).2, blankP b.toNat = false := by
          intro b hbm
          obtain ⟨k, hk, hke⟩ := List.getElem_of_mem hbm
          rw [List.length_take, List.length_drop, hlen] at hk
          have hk2 : ((s.data.toList.drop pos).take (Utf8.decode s pos).2)[k]? = some b := by rw [List.getElem?_eq_getElem (by rw [List.length_take, List.length_drop, hlen]; exact hk), hke]
          rw [List.getElem?_take, if_pos (by omega), List.getElem?_drop] at hk2
          rw [get_bang (by omega)] at hk2
          have hbe := Option.some.inj hk2
          rcases w3 with ⟨e1, e2⟩ | ⟨_, e2⟩
          · obtain rfl : k = 0 := by omega
            rw [Nat.add_zero] at hbe
            rw [← hbe, ← e2]; simpa using hb
          · have := e2 k (by omega)
            rw [hbe] at this
            cases hbb : blankP b.toNat with
            | false => rfl
            | true => have := blank_ascii hbb; omega
        have hsplit : s.data.toList.drop pos = (s.data.toList.drop pos).take (Utf8.decode s pos).2 ++ s.data.toList.drop (pos + (Utf8.decode s pos).2) := by
          rw [← List.drop_drop]; exact (List.take_append_drop _ _).symm
        cases st with
        | none =>
          simp only
          rw [spans_words s f' (pos + (Utf8.decode s pos).2) (some pos) acc (by omega) w2 (fun a h => by cases h; omega)]
          congr 1
          conv => rhs; rw [hsplit]
          rw [wordsGo_skip _ _ _ hchunk]
          simp only [curL, List.nil_append]
          rw [Nat.add_sub_cancel_left]
        | some a =>
          simp only
          have ha := hst a rfl
          rw [spans_words s f' (pos + (Utf8.decode s pos).2) (some a) acc (by omega) w2 (fun a' h => by cases h; omega)]
          congr 1
          conv => rhs; rw [hsplit]
          rw [wordsGo_skip _ _ _ hchunk]
          congr 1
          simp only [curL]
          rw [show pos + (Utf8.decode s pos).2 - a = (pos - a) + (Utf8.decode s pos).2 by omega, List.take_add, List.drop_drop, show a + (pos - a) = pos by omega]
    · obtain rfl : pos = s.size := by omega
      rw [Lib.spansFromP_end _ _ _ _ _ _ hlt, List.drop_of_length_le (by omega), wordsGo]
      cases st with
      | none => simp [Lib.closeSpans, curL]
      | some a =>
        have ha := hst a rfl
        have hne : curL s s.size (some a) ≠ [] := by
          simp only [curL]
          intro h
          have := congrArg List.length h
          rw [List.length_take, List.length_drop, hlen] at this
          simp at this; omega
        rw [if_neg hne]
        simp only [Lib.closeSpans, List.map_append, List.map_singleton, curL]
        rw [show extL s (a, s.size) = (s.data.toList.drop a).take (s.size - a) from ext_list s a s.size]
termination_by f => f
theorem fields_words (s : ByteArray) : (Lib.goFieldsP blankP s).map (·.data.toList) = wordsL s.data.toList := by
  unfold Lib.goFieldsP Lib.spansOfP wordsL
  rw [List.map_map]
  have := spans_words s s.size 0 none [] (by omega) (by omega) (fun a h => by cases h)
  rw [List.map_nil, List.nil_append, List.drop_zero] at this
  exact this
end Go.Proofs.YthdcceackfdbbaaGreatDoor
namespace Go.Proofs.YthdcceackfdbbaaGreatDoor
open Go Go.RowKit
theorem Tryz.infoText : (Tryz.prog.info? 9).map (fun i => (i.zero, i.size, i.bytes)) = some (some (.string ⟨#[]⟩), 1, 16) := by kernel_rfl
def strL (ws : List ByteArray) : List Value := ws.map Value.string
def WordsR (B : Nat) (l : List UInt8) (e : Ending) (w' : World) : Prop :=
  ∃ (v : Value) (ws : List ByteArray), e = .returned v ∧ ws.map (·.data.toList) = wordsL l ∧ w'.ownsRow B 9 1 v ws.length (strL ws)
theorem nil_of {u : ByteArray} (h : u.data.toList = []) : u = ⟨#[]⟩ := by
  cases u with
  | mk d => congr 1; exact Array.toList_eq_nil_iff.1 h
set_option maxRecDepth 20000 in
set_option maxHeartbeats 2000000 in
theorem rwords_any (w : World) (x : ByteArray) (n : Nat) (hn : x.size = n) (hn1 : n ≤ 1000000) :
    Calls Tryz.prog 116 #[.string x] w fun e w' => WordsR w.heap.size x.data.toList e w' ∧ Below w.heap.size w w' := by
  obtain ⟨b, hb⟩ : ∃ b, w.heap.size = b := ⟨_, rfl⟩
  obtain ⟨i0, hi, hz0, hz1, hz2⟩ := info_parts Tryz.infoText
  have HI := hid hi
  have hxl : x.data.toList.length = n := by rw [← hn]; exact (bytes_size rfl).symm
  have HXL := hid hxl
  clear hi hxl
  rw [hb]
  obtain ⟨l, hl⟩ : ∃ l, x.data.toList = l := ⟨_, rfl⟩
  rw [hl] at HXL ⊢
  have HL := hid hl
  clear hl
  have app : ∀ (wr w2 : World) (v v' : Value) (ws : List ByteArray) (u : ByteArray), Below b w wr → wr.ownsRow b 9 1 v ws.length (strL ws) → b ≤ wr.heap.size → w2.ownsRow b 9 1 v' (ws.length + 1) (strL ws ++ [.string u]) → (wr.alloc (.cells #[.string u] 9)).grownBy w2 v.ownBlock → Below b w w2 ∧ w2.ownsRow b 9 1 v' (ws ++ [u]).length (strL (ws ++ [u])) := by
    intro wr w2 v v' ws u hb1 ho hz hown' hgrow
    refine ⟨hb1.trans (((Below.refl _ wr).alloc hz _).grown hgrow (by simp; omega) (fun q hq => (ho.lt q hq).1)), ?_⟩
    rw [List.length_append, List.length_singleton, show strL (ws ++ [u]) = strL ws ++ [.string u] by simp [strL]]
    exact hown'
  have HAPP := hid app
  clear app
  go_enter Tryz.func116, Tryz.ntmps116
  go_wp2
  go_loopw [3, 4, 5] (fun v cu i wr => ∃ (k : Nat) (ws : List ByteArray) (u : ByteArray), k ≤ n ∧ i = .int .i64 (k : Int) ∧ cu = .string u ∧ ws.length ≤ k ∧ u.size ≤ k ∧ Hid (wordsL l = ws.map (·.data.toList) ++ wordsGo u.data.toList (l.drop k)) ∧ Hid (wr.ownsRow b 9 1 v ws.length (strL ws)) ∧ Hid (Below b w wr) ∧ b ≤ wr.heap.size) (fun _ _ i _ => n - (intOf i).toNat)
  case atStart => exact ⟨0, [], ⟨#[]⟩, Nat.zero_le _, rfl, rfl, by simp, Nat.le_refl _, by show _ = _; simp [wordsL], World.ownsRow_nil _ _ _ _, by rw [← hb]; exact Below.refl _ _, by omega⟩
  case round =>
    obtain ⟨k, ws, u, hk, rfl, rfl, hwk, huk, HW, HO, HB, hz⟩ := hrel
    by_cases hlt : k < n
    · have hlt' : (k : Int) < (x.size : Int) := by omega
      have hkx : k < x.size := by omega
      have hg : l[k]? = some x[k] := by rw [← HL.out]; exact take_get hkx
      have hd : l.drop k = x[k] :: l.drop (k + 1) := by
        rw [List.drop_eq_getElem_cons (by rw [HXL.out]; exact hlt)]
        congr 1
        exact Option.some.inj ((List.getElem?_eq_getElem (by rw [HXL.out]; exact hlt)).symm.trans hg)
      have HW2 : Hid (wordsL l = ws.map (·.data.toList) ++ wordsGo u.data.toList (x[k] :: l.drop (k + 1))) := by
        have := HW.out; rw [hd] at this; exact this
      clear HW hg hd
      by_cases hbl : blankP x[k].toNat = true
      · have hbl2 : x[k].toNat = 32 ∨ x[k].toNat = 9 ∨ x[k].toNat = 13 := by unfold blankP at hbl; simpa using hbl
        by_cases hu : u.data.toList = []
        · obtain rfl := nil_of hu
          have HW3 : Hid (wordsL l = ws.map (·.data.toList) ++ wordsGo (⟨#[]⟩ : ByteArray).data.toList (l.drop (k + 1))) := by
            have := HW2.out
            simp only [wordsGo] at this
            rw [if_pos hbl] at this
            exact this
          clear HW2 hbl hu
          rcases hbl2 with h | h | h
          · have h1 : (x[k].toNat : Int) = 32 := by omega
            go_wp2
            go_round
            case rel => exact ⟨k + 1, ws, _, by omega, by simp, rfl, by omega, Nat.zero_le _, HW3, HO, HB, hz⟩
            case measure => simp [intOf]; omega
          · have h1 : (x[k].toNat : Int) = 9 := by omega
            go_wp2
            go_round
            case rel => exact ⟨k + 1, ws, _, by omega, by simp, rfl, by omega, Nat.zero_le _, HW3, HO, HB, hz⟩
            case measure => simp [intOf]; omega
          · have h1 : (x[k].toNat : Int) = 13 := by omega
            go_wp2
            go_round
            case rel => exact ⟨k + 1, ws, _, by omega, by simp, rfl, by omega, Nat.zero_le _, HW3, HO, HB, hz⟩
            case measure => simp [intOf]; omega
        · have HW3 : Hid (wordsL l = (ws ++ [u]).map (·.data.toList) ++ wordsGo (⟨#[]⟩ : ByteArray).data.toList (l.drop (k + 1))) := by
            have := HW2.out
            simp only [wordsGo] at this
            rw [if_pos hbl, if_neg hu] at this
            rw [List.map_append, List.append_assoc]
            exact this
          have hune : u.toList.isEmpty = false := by
            rw [bytes_toList]
            cases h : u.data.toList with
            | nil => exact (hu h).elim
            | cons _ _ => rfl
          clear HW2 hbl hu
          rcases hbl2 with h | h | h
          · have h1 : (x[k].toNat : Int) = 32 := by omega
            go_wp2_with (at_builtin; refine wpList_append_own _ rfl _ _ 31 rfl b 9 i0 (.string ⟨#[]⟩) 1 16 Tryz.underlying31 HI.out hz0 hz1 hz2 rfl (by decide) _ _ _ rfl (HO.out.alloc _) ⟨wr.heap.size, 0, none⟩ 1 1 [.string u] rfl rfl ?_ ?_ ?_ ?_ ?_ ?_)
            all_goals (try first | exact cell_one_new _ _ _ | rfl | (unfold maxLen; omega) | omega | (simp; omega))
            · intro v' w2 hown' hgrow _
              obtain ⟨hbn, hon⟩ := HAPP.out wr w2 _ v' ws u HB.out HO.out hz hown' hgrow
              have hzn : b ≤ w2.heap.size := by have := hgrow.size; simp at this; omega
              have HBN := hid hbn
              have HON := hid hon
              clear hown' hgrow hbn hon
              go_wp2
              go_round
              case rel => exact ⟨k + 1, ws ++ [u], _, by omega, by simp, rfl, by simp; omega, Nat.zero_le _, HW3, HON, HBN, hzn⟩
              case measure => simp [intOf]; omega
          · have h1 : (x[k].toNat : Int) = 9 := by omega
            go_wp2_with (at_builtin; refine wpList_append_own _ rfl _ _ 31 rfl b 9 i0 (.string ⟨#[]⟩) 1 16 Tryz.underlying31 HI.out hz0 hz1 hz2 rfl (by decide) _ _ _ rfl (HO.out.alloc _) ⟨wr.heap.size, 0, none⟩ 1 1 [.string u] rfl rfl ?_ ?_ ?_ ?_ ?_ ?_)
            all_goals (try first | exact cell_one_new _ _ _ | rfl | (unfold maxLen; omega) | omega | (simp; omega))
            · intro v' w2 hown' hgrow _
              obtain ⟨hbn, hon⟩ := HAPP.out wr w2 _ v' ws u HB.out HO.out hz hown' hgrow
              have hzn : b ≤ w2.heap.size := by have := hgrow.size; simp at this; omega
              have HBN := hid hbn
              have HON := hid hon
              clear hown' hgrow hbn hon
              go_wp2
              go_round
              case rel => exact ⟨k + 1, ws ++ [u], _, by omega, by simp, rfl, by simp; omega, Nat.zero_le _, HW3, HON, HBN, hzn⟩
              case measure => simp [intOf]; omega
          · have h1 : (x[k].toNat : Int) = 13 := by omega
            go_wp2_with (at_builtin; refine wpList_append_own _ rfl _ _ 31 rfl b 9 i0 (.string ⟨#[]⟩) 1 16 Tryz.underlying31 HI.out hz0 hz1 hz2 rfl (by decide) _ _ _ rfl (HO.out.alloc _) ⟨wr.heap.size, 0, none⟩ 1 1 [.string u] rfl rfl ?_ ?_ ?_ ?_ ?_ ?_)
            all_goals (try first | exact cell_one_new _ _ _ | rfl | (unfold maxLen; omega) | omega | (simp; omega))
            · intro v' w2 hown' hgrow _
              obtain ⟨hbn, hon⟩ := HAPP.out wr w2 _ v' ws u HB.out HO.out hz hown' hgrow
              have hzn : b ≤ w2.heap.size := by have := hgrow.size; simp at this; omega
              have HBN := hid hbn
              have HON := hid hon
              clear hown' hgrow hbn hon
              go_wp2
              go_round
              case rel => exact ⟨k + 1, ws ++ [u], _, by omega, by simp, rfl, by simp; omega, Nat.zero_le _, HW3, HON, HBN, hzn⟩
              case measure => simp [intOf]; omega
      · have hbf : ¬ (x[k].toNat = 32 ∨ x[k].toNat = 9 ∨ x[k].toNat = 13) := by unfold blankP at hbl; simpa using hbl
        have h1 : ((x[k].toNat : Int) == 32) = false := by rw [beq_eq_false_iff_ne]; omega
        have h2 : ((x[k].toNat : Int) == 9) = false := by rw [beq_eq_false_iff_ne]; omega
        have h3 : ((x[k].toNat : Int) == 13) = false := by rw [beq_eq_false_iff_ne]; omega
        have hex : (x.extract k (k + 1)).data.toList = [x[k]] := by
          rw [ext_list, HL.out, show k + 1 - k = 1 by omega]
          have hgk : l[k]? = some x[k] := by rw [← HL.out]; exact take_get hkx
          rw [List.drop_eq_getElem_cons (by rw [HXL.out]; exact hlt)]
          have := Option.some.inj ((List.getElem?_eq_getElem (by rw [HXL.out]; exact hlt)).symm.trans hgk)
          simp [this]
        have HW3 : Hid (wordsL l = ws.map (·.data.toList) ++ wordsGo (u ++ x.extract k (k + 1)).data.toList (l.drop (k + 1))) := by
          have := HW2.out
          simp only [wordsGo] at this
          rw [if_neg hbl] at this
          show _ = _
          rw [this, ByteArray.data_append, Array.toList_append, hex]
        have hke : ¬ ((x.size : Int) < (k : Int) + 1) := by omega
        have hke2 : k + 1 ≤ x.size := by omega
        have hes : (u ++ x.extract k (k + 1)).size ≤ k + 1 := by rw [ByteArray.size_append, bytes_size hex]; simp; omega
        clear HW2 hbl hbf hex
        go_wp2
        go_round
        case rel => exact ⟨k + 1, ws, _, by omega, by simp, rfl, by omega, hes, HW3, HO, HB, hz⟩
        case measure => simp [intOf]; omega
    · have hlt' : ¬ (k : Int) < (x.size : Int) := by omega
      have HW2 : Hid (wordsL l = ws.map (·.data.toList) ++ wordsGo u.data.toList []) := by
        have := HW.out; rw [List.drop_of_length_le (by rw [HXL.out]; omega)] at this; exact this
      clear HW
      by_cases hu : u.data.toList = []
      · obtain rfl := nil_of hu
        have HW3 : Hid (ws.map (·.data.toList) = wordsL l) := by
          have := HW2.out
          simp [wordsGo] at this
          exact this.symm
        clear HW2 hu
        go_wp2
        go_ret
        exact ⟨⟨_, ws, rfl, HW3.out, HO.out⟩, HB.out⟩
      · have HW3 : Hid ((ws ++ [u]).map (·.data.toList) = wordsL l) := by
          have := HW2.out
          simp only [wordsGo] at this
          rw [if_neg hu] at this
          show _ = _
          rw [this, List.map_append]; rfl
        have hune : u.toList.isEmpty = false := by
          rw [bytes_toList]
          cases h : u.data.toList with
          | nil => exact (hu h).elim
          | cons _ _ => rfl
        clear HW2 hu
        go_wp2_with (at_builtin; refine wpList_append_own _ rfl _ _ 31 rfl b 9 i0 (.string ⟨#[]⟩) 1 16 Tryz.underlying31 HI.out hz0 hz1 hz2 rfl (by decide) _ _ _ rfl (HO.out.alloc _) ⟨wr.heap.size, 0, none⟩ 1 1 [.string u] rfl rfl ?_ ?_ ?_ ?_ ?_ ?_)
        all_goals (try first | exact cell_one_new _ _ _ | rfl | (unfold maxLen; omega) | omega | (simp; omega))
        · intro v' w2 hown' hgrow _
          obtain ⟨hbn, hon⟩ := HAPP.out wr w2 _ v' ws u HB.out HO.out hz hown' hgrow
          have hzn : b ≤ w2.heap.size := by have := hgrow.size; simp at this; omega
          have HBN := hid hbn
          have HON := hid hon
          clear hown' hgrow hbn hon
          go_wp2
          go_ret
          exact ⟨⟨_, ws ++ [u], rfl, HW3.out, HON.out⟩, HBN.out⟩
end Go.Proofs.YthdcceackfdbbaaGreatDoor
namespace Go.Proofs.YthdcceackfdbbaaGreatDoor
open Go Go.RowKit
theorem isPlace_b (w : World) (k n : Int) (b : Bool) (hb : decide (0 ≤ k ∧ k < n) = b) : Calls Tryz.prog 95 #[.int .i64 k, .int .i64 n] w fun e w' => e = .returned (.bool b) ∧ w' = w := by
  rw [← hb]; exact isPlace_any w k n
theorem leaves_b (w : World) (k s : Int) (b : Bool) (hb : decide (1 < k ∧ (s ≤ -100000 ∨ 100000 ≤ s)) = b) : Calls Tryz.prog 96 #[.int .i64 k, .int .i64 s] w fun e w' => e = .returned (.bool b) ∧ w' = w := by
  rw [← hb]; exact leaves_any w k s
theorem prod_small {i : Nat} {s : Int} (hi : i ≤ 40) (h : i = 0 ∨ (-100000 < s ∧ s < 100000)) : -1000000000 ≤ (i : Int) * s ∧ (i : Int) * s ≤ 1000000000 := by
  rcases h with rfl | ⟨h1, h2⟩
  · simp
  · have b := between s hi
    constructor <;> · simp at b; omega
set_option maxHeartbeats 1000000 in
theorem inside_any (w : World) (R C : Nat) (off rs cs : Int) (n : Nat) (hR : 1 ≤ R ∧ R ≤ 40) (hC : 1 ≤ C ∧ C ≤ 40) (hn : n ≤ 100000) :
    Calls Tryz.prog 61 #[viewV R C off rs cs, .int .i64 (n : Int)] w fun e w' => (∃ b, e = .returned (.bool b) ∧ (b = true ↔ Corner R C off rs cs n) ∧ (b = true → (R = 1 ∨ (-100000 < rs ∧ rs < 100000)) ∧ (C = 1 ∨ (-100000 < cs ∧ cs < 100000)))) ∧ Below w.heap.size w w' := by
  by_cases c0 : ¬ (0 ≤ off ∧ off < n)
  · have e0 : decide (0 ≤ off ∧ off < (n : Int)) = false := by simp only [decide_eq_false_iff_not]; exact c0
    have HN : Hid (¬ Corner R C off rs cs n) := fun h => c0 h.1
    unfold viewV
    clear c0
    go_enter Tryz.func61, Tryz.ntmps61
    go_wp2_with fail
    refine (isPlace_b _ _ _ false e0).mono ?_
    rintro e w1 ⟨rfl, rfl⟩
    clear e0
    go_wp2
    go_ret
    exact ⟨⟨_, rfl, ⟨fun h => (by cases h), fun h => absurd h HN.out⟩, fun h => (by cases h)⟩, (Below.refl _ _).alloc (Nat.le_refl _) _⟩
  replace c0 := Decidable.not_not.1 c0
  have e0 : decide (0 ≤ off ∧ off < (n : Int)) = true := by simp only [decide_eq_true_eq]; exact c0
  by_cases c1 : 1 < (R : Int) ∧ (rs ≤ -100000 ∨ 100000 ≤ rs)
  · have e1 : decide (1 < (R : Int) ∧ (rs ≤ -100000 ∨ 100000 ≤ rs)) = true := by simp only [decide_eq_true_eq]; exact c1
    have HN : Hid (¬ Corner R C off rs cs n) := fun h => by
      have := (corner_iff (by omega) (by omega)).1 h 1 0 (by omega) (by omega)
      simp at this; omega
    unfold viewV
    clear c0 c1
    go_enter Tryz.func61, Tryz.ntmps61
    go_wp2_with fail
    refine (isPlace_b _ _ _ true e0).mono ?_
    rintro e w1 ⟨rfl, rfl⟩
    clear e0
    go_wp2_with fail
    refine (leaves_b _ _ _ true e1).mono ?_
    rintro e w1 ⟨rfl, rfl⟩
    clear e1
    go_wp2
    go_ret
    exact ⟨⟨_, rfl, ⟨fun h => (by cases h), fun h => absurd h HN.out⟩, fun h => (by cases h)⟩, (Below.refl _ _).alloc (Nat.le_refl _) _⟩
  have e1 : decide (1 < (R : Int) ∧ (rs ≤ -100000 ∨ 100000 ≤ rs)) = false := by simp only [decide_eq_false_iff_not]; exact c1
  by_cases c2 : 1 < (C : Int) ∧ (cs ≤ -100000 ∨ 100000 ≤ cs)
  · have e2 : decide (1 < (C : Int) ∧ (cs ≤ -100000 ∨ 100000 ≤ cs)) = true := by simp only [decide_eq_true_eq]; exact c2
    have HN : Hid (¬ Corner R C off rs cs n) := fun h => by
      have := (corner_iff (by omega) (by omega)).1 h 0 1 (by omega) (by omega)
      simp at this; omega
    unfold viewV
    clear c0 c1 c2
    go_enter Tryz.func61, Tryz.ntmps61
    go_wp2_with fail
    refine (isPlace_b _ _ _ true e0).mono ?_
    rintro e w1 ⟨rfl, rfl⟩
    clear e0
    go_wp2_with fail
    refine (leaves_b _ _ _ false e1).mono ?_
    rintro e w1 ⟨rfl, rfl⟩
    clear e1
    go_wp2_with fail
    refine (leaves_b _ _ _ true e2).mono ?_
    rintro e w1 ⟨rfl, rfl⟩
    clear e2
    go_wp2
    go_ret
    exact ⟨⟨_, rfl, ⟨fun h => (by cases h), fun h => absurd h HN.out⟩, fun h => (by cases h)⟩, (Below.refl _ _).alloc (Nat.le_refl _) _⟩
  have e2 : decide (1 < (C : Int) ∧ (cs ≤ -100000 ∨ 100000 ≤ cs)) = false := by simp only [decide_eq_false_iff_not]; exact c2
  have HS : Hid ((R = 1 ∨ (-100000 < rs ∧ rs < 100000)) ∧ (C = 1 ∨ (-100000 < cs ∧ cs < 100000))) := ⟨by omega, by omega⟩
  have p1 : Hid _ := prod_small (i := R - 1) (s := rs) (by omega) (by omega)
  have p2 : Hid _ := prod_small (i := C - 1) (s := cs) (by omega) (by omega)
  have HC : Hid (Corner R C off rs cs n ↔ ((0 ≤ off + ((R - 1 : Nat) : Int) * rs ∧ off + ((R - 1 : Nat) : Int) * rs < n) ∧ (0 ≤ off + ((C - 1 : Nat) : Int) * cs ∧ off + ((C - 1 : Nat) : Int) * cs < n) ∧
    (0 ≤ off + ((R - 1 : Nat) : Int) * rs + ((C - 1 : Nat) : Int) * cs ∧ off + ((R - 1 : Nat) : Int) * rs + ((C - 1 : Nat) : Int) * cs < n))) := by
    show _ ↔ _
    unfold Corner; simp [c0]
  have HO : Hid (-4611686018427387904 ≤ off ∧ off ≤ 4611686018427387903) := ⟨by omega, by omega⟩
  have hr1 : (R : Int) - 1 = ((R - 1 : Nat) : Int) := by omega
  have hr2 : (C : Int) - 1 = ((C - 1 : Nat) : Int) := by omega
  clear c0 c1 c2
  have hq : Tryz.prog.follows .mixedOrders = true := by kernel_rfl
  unfold viewV
  go_enter Tryz.func61, Tryz.ntmps61
  go_wp2_with fail
  refine (isPlace_b _ _ _ true e0).mono ?_
  rintro e w1 ⟨rfl, rfl⟩
  clear e0
  go_wp2_with fail
  refine (leaves_b _ _ _ false e1).mono ?_
  rintro e w1 ⟨rfl, rfl⟩
  clear e1
  go_wp2_with fail
  refine (leaves_b _ _ _ false e2).mono ?_
  rintro e w1 ⟨rfl, rfl⟩
  clear e2
  go_wp2_with fail
  go_quiet (fail)
  have hb : ∀ x y z : Obj, Below w.heap.size w ((w.alloc x).drewN nq) ∧ Below w.heap.size w (((w.alloc x).drewN nq).alloc y) ∧ Below w.heap.size w ((((w.alloc x).drewN nq).alloc y).alloc y) ∧ Below w.heap.size w (((((w.alloc x).drewN nq).alloc y).alloc y).alloc z) := fun x y z => by
    have h0 : Below w.heap.size w ((w.alloc x).drewN nq) := below_dn ((Below.refl _ _).alloc (Nat.le_refl _) _) _
    have h1 := h0.alloc (by simp) y
    have h2 := h1.alloc (by simp; omega) y
    exact ⟨h0, h1, h2, h2.alloc (by simp; omega) z⟩
  have HB := hid hb
  clear hb
  by_cases d1 : 0 ≤ off + ((R - 1 : Nat) : Int) * rs ∧ off + ((R - 1 : Nat) : Int) * rs < n
  · have D1 : Hid (decide (0 ≤ off + ((R - 1 : Nat) : Int) * rs ∧ off + ((R - 1 : Nat) : Int) * rs < n) = true) := by simp only [Hid, decide_eq_true_eq]; exact d1
    have G1 := hid d1
    clear d1
    by_cases d2 : 0 ≤ off + ((C - 1 : Nat) : Int) * cs ∧ off + ((C - 1 : Nat) : Int) * cs < n
    · have D2 : Hid (decide (0 ≤ off + ((C - 1 : Nat) : Int) * cs ∧ off + ((C - 1 : Nat) : Int) * cs < n) = true) := by simp only [Hid, decide_eq_true_eq]; exact d2
      have G2 := hid d2
      clear d2
      obtain ⟨b3, hb3⟩ : ∃ b, decide (0 ≤ off + ((R - 1 : Nat) : Int) * rs + ((C - 1 : Nat) : Int) * cs ∧ off + ((R - 1 : Nat) : Int) * rs + ((C - 1 : Nat) : Int) * cs < n) = b := ⟨_, rfl⟩
      have D3 := hid hb3
      clear hb3
      go_wp2_with fail
      refine (at_any _ R C off rs cs ((R - 1 : Nat) : Int) 0 HO.out p1.out (by simp)).mono ?_
      rintro e w1 ⟨rfl, rfl⟩
      go_wp2_with fail
      refine (isPlace_b _ _ _ true D1.out).mono ?_
      rintro e w1 ⟨rfl, rfl⟩
      go_wp2_with fail
      refine (at_any _ R C off rs cs 0 ((C - 1 : Nat) : Int) HO.out (by simp) p2.out).mono ?_
      rintro e w1 ⟨rfl, rfl⟩
      go_wp2_with fail
      refine (isPlace_b _ _ _ true D2.out).mono ?_
      rintro e w1 ⟨rfl, rfl⟩
      go_wp2_with fail
      refine (at_any _ R C off rs cs ((R - 1 : Nat) : Int) ((C - 1 : Nat) : Int) HO.out p1.out p2.out).mono ?_
      rintro e w1 ⟨rfl, rfl⟩
      go_wp2_with fail
      refine (isPlace_b _ _ _ b3 D3.out).mono ?_
      rintro e w1 ⟨rfl, rfl⟩
      go_wp2
      go_ret
      exact ⟨⟨b3, rfl, by rw [HC.out, ← D3.out, decide_eq_true_eq]; exact ⟨fun h => ⟨G1.out, G2.out, h⟩, fun h => h.2.2⟩, fun _ => HS.out⟩, (HB.out _ _ _).2.2.2⟩
    · have D2 : Hid (decide (0 ≤ off + ((C - 1 : Nat) : Int) * cs ∧ off + ((C - 1 : Nat) : Int) * cs < n) = false) := by simp only [Hid, decide_eq_false_iff_not]; exact d2
      have G2 := hid d2
      clear d2
      go_wp2_with fail
      refine (at_any _ R C off rs cs ((R - 1 : Nat) : Int) 0 HO.out p1.out (by simp)).mono ?_
      rintro e w1 ⟨rfl, rfl⟩
      go_wp2_with fail
      refine (isPlace_b _ _ _ true D1.out).mono ?_
      rintro e w1 ⟨rfl, rfl⟩
      go_wp2_with fail
      refine (at_any _ R C off rs cs 0 ((C - 1 : Nat) : Int) HO.out (by simp) p2.out).mono ?_
      rintro e w1 ⟨rfl, rfl⟩
      go_wp2_with fail
      refine (isPlace_b _ _ _ false D2.out).mono ?_
      rintro e w1 ⟨rfl, rfl⟩
      go_wp2
      go_ret
      exact ⟨⟨_, rfl, ⟨fun h => (by cases h), fun h => absurd (HC.out.1 h).2.1 G2.out⟩, fun h => (by cases h)⟩, (HB.out _ _ (.deferred none)).2.2.1⟩
  · have D1 : Hid (decide (0 ≤ off + ((R - 1 : Nat) : Int) * rs ∧ off + ((R - 1 : Nat) : Int) * rs < n) = false) := by simp only [Hid, decide_eq_false_iff_not]; exact d1
    have G1 := hid d1
    clear d1
    go_wp2_with fail
    refine (at_any _ R C off rs cs ((R - 1 : Nat) : Int) 0 HO.out p1.out (by simp)).mono ?_
    rintro e w1 ⟨rfl, rfl⟩
    go_wp2_with fail
    refine (isPlace_b _ _ _ false D1.out).mono ?_
    rintro e w1 ⟨rfl, rfl⟩
    go_wp2
    go_ret
    exact ⟨⟨_, rfl, ⟨fun h => (by cases h), fun h => absurd (HC.out.1 h).1 G1.out⟩, fun h => (by cases h)⟩, (HB.out _ _ (.deferred none)).2.1⟩
end Go.Proofs.YthdcceackfdbbaaGreatDoor
namespace Go.Proofs.YthdcceackfdbbaaGreatDoor
open Go Go.RowKit
def BoolOk (p : Prop) (e : Ending) : Prop := ∃ b, e = .returned (.bool b) ∧ (b = true ↔ p)
theorem boolOk_t {p : Prop} (h : p) : BoolOk p (.returned (.bool true)) := ⟨true, rfl, fun _ => h, fun _ => rfl⟩
theorem boolOk_f {p : Prop} (h : ¬ p) : BoolOk p (.returned (.bool false)) := ⟨false, rfl, fun e => (by cases e), fun e => absurd e h⟩
def NoMeet (C : Nat) (rs cs : Int) (d : Nat) (r : Int) : Prop := -(C : Int) < r → r < C → (d ≠ 0 ∨ r ≠ 0) → (d : Int) * rs + r * cs ≠ 0
theorem prod_smallI {C : Nat} {r s : Int} (hC : C ≤ 40) (h1 : -(C : Int) < r) (h2 : r < C) (h : C = 1 ∨ (-100000 < s ∧ s < 100000)) : -1000000000 ≤ r * s ∧ r * s ≤ 1000000000 := by
  rcases h with rfl | h
  · have : r = 0 := by omega
    subst this; simp
  · by_cases hr : 0 ≤ r
    · obtain ⟨k, rfl⟩ := Int.eq_ofNat_of_zero_le hr
      exact prod_small (by omega) (.inr h)
    · obtain ⟨k, hk⟩ := Int.eq_ofNat_of_zero_le (show 0 ≤ -r by omega)
      have : r = -(k : Int) := by omega
      subst this
      have := prod_small (i := k) (s := s) (by omega) (.inr h)
      rw [Int.neg_mul]; omega
theorem nm_next {C : Nat} {rs cs : Int} {d : Nat} {r : Int} (h2 : ∀ r', r' < r → NoMeet C rs cs d r') (h : NoMeet C rs cs d r) : ∀ r', r' < r + 1 → NoMeet C rs cs d r' := fun r' hr => by
  by_cases e : r' = r
  · subst e; exact h
  · exact h2 r' (by omega)
set_option maxHeartbeats 1000000 in
theorem meets_any (w : World) (R C : Nat) (off rs cs : Int) (hR : 1 ≤ R ∧ R ≤ 40) (hC : 1 ≤ C ∧ C ≤ 40) (hr : R = 1 ∨ (-100000 < rs ∧ rs < 100000)) (hc : C = 1 ∨ (-100000 < cs ∧ cs < 100000)) :
    Calls Tryz.prog 62 #[viewV R C off rs cs] w fun e w' => BoolOk (Meets R C rs cs) e ∧ Below w.heap.size w w' := by
  have HRS : Hid _ := hid hr
  have HCS : Hid _ := hid hc
  clear hr hc
  unfold viewV
  go_enter Tryz.func62, Tryz.ntmps62
  go_wp2
  go_loop [8] (fun v => ∃ d : Nat, v = .int .i64 d ∧ d ≤ R ∧ ∀ d', d' < d → ∀ r, NoMeet C rs cs d' r) (fun v => R - (intOf v).toNat)
  case atStart => exact ⟨0, rfl, by omega, fun d' h => by omega⟩
  case round =>
    obtain ⟨d, rfl, hd, hno⟩ := hrel
    have HN := hid hno
    clear hno
    by_cases hdR : d < R
    · have hdR' : (d : Int) < R := by omega
      go_wp2
      go_loop [4] (fun v => ∃ r : Int, v = .int .i64 r ∧ -(C : Int) < r ∧ r ≤ C ∧ ∀ r', r' < r → NoMeet C rs cs d r') (fun v => ((C : Int) - intOf v).toNat)
      case atStart => exact ⟨1 - C, rfl, by omega, by omega, fun r' h h1 => by omega⟩
      case round =>
        obtain ⟨r, rfl, h1, h2, hno2⟩ := hrel
        have HN2 := hid hno2
        clear hno2
        by_cases hrC : r < C
        · have hp1 := prod_small (i := d) (s := rs) (by omega) (by have := HRS.out; omega)
          have hp2 := prod_smallI hC.2 h1 hrC HCS.out
          go_wp2
          · obtain rfl : d = 0 := by assumption
            obtain rfl : r = 0 := by assumption
            refine ⟨⟨by omega, by omega, nm_next HN2.out (fun _ _ h => by simp at h)⟩, by simp [intOf]; omega⟩
          · have ⟨h3, h4⟩ : (r != 0) = true ∧ (r * cs == 0) = true := by assumption
            obtain rfl : d = 0 := by assumption
            go_ret
            exact ⟨boolOk_t ⟨0, hdR, r, h1, hrC, .inr (by simpa using h3), by simpa using h4⟩, (Below.refl _ _).alloc (Nat.le_refl _) _⟩
          · have h3 : ¬ r = 0 := by assumption
            have h4 : (r != 0) = false ∨ (r * cs == 0) = false := by assumption
            have h5 : ¬ r * cs = 0 := by simpa [h3] using h4
            obtain rfl : d = 0 := by assumption
            refine ⟨⟨by omega, by omega, nm_next HN2.out (fun _ _ _ => by simpa using h5)⟩, by simp [intOf]; omega⟩
          · have h3 : ¬ d = 0 := by assumption
            have h4 : ((d : Int) * rs + r * cs == 0) = true := by assumption
            go_ret
            exact ⟨boolOk_t ⟨d, hdR, r, h1, hrC, .inl h3, by simpa using h4⟩, (Below.refl _ _).alloc (Nat.le_refl _) _⟩
          · have h4 : ((d : Int) * rs + r * cs == 0) = false := by assumption
            go_round
            case rel => exact ⟨r + 1, rfl, by omega, by omega, nm_next HN2.out (fun _ _ _ => by simpa using h4)⟩
            case measure => simp [intOf]; omega
        · go_wp2
          go_round
          case rel =>
            refine ⟨d + 1, by simp, by omega, fun d' hd' r' => ?_⟩
            by_cases e : d' = d
            · subst e; exact fun a b => HN2.out r' (by omega) a b
            · exact HN.out d' (by omega) r'
          case measure => simp [intOf]; omega
    · have hdR' : ¬ ((d : Int) < R) := by omega
      go_wp2
      go_ret
      refine ⟨boolOk_f ?_, (Below.refl _ _).alloc (Nat.le_refl _) _⟩
      rintro ⟨d', h1, r, h2, h3, h4, h5⟩
      exact absurd h5 (HN.out d' (by omega) r h2 h3 h4)
end Go.Proofs.YthdcceackfdbbaaGreatDoor
namespace Go.Proofs.YthdcceackfdbbaaGreatDoor
open Go Go.RowKit
def matV (R C g : Nat) : Value := .agg #[.int .i64 (R : Int), .int .i64 (C : Int), .slice (some ⟨g, 0, none⟩) (R * C) (R * C)]
def plcV (i j : Nat) : Value := .agg #[.int .i64 (i : Int), .int .i64 (j : Int)]
def matO (R C g : Nat) : Obj := .cells #[.int .i64 (R : Int), .int .i64 (C : Int), .slice (some ⟨g, 0, none⟩) (R * C) (R * C)] 88
def plcO (i j : Nat) : Obj := .cells #[.int .i64 (i : Int), .int .i64 (j : Int)] 117
theorem idx_int {R C i j : Nat} (hR : R ≤ 40) (hC : C ≤ 40) (hi : i < R) (hj : j < C) : ∃ k : Nat, (i : Int) * C + j = (k : Int) ∧ k = i * C + j ∧ k < R * C ∧ R * C ≤ 1600 ∧ (i : Int) * C ≤ 1600 ∧ 0 ≤ (i : Int) * C := by
  have h1 := idx_lt hi hj
  have h2 : R * C ≤ 40 * 40 := Nat.mul_le_mul hR hC
  refine ⟨i * C + j, by simp, rfl, h1, by omega, ?_, by rw [← Int.natCast_mul]; omega⟩
  rw [← Int.natCast_mul]; omega
theorem mat_at (w : World) (R C g i j x : Nat) (hR : R ≤ 40) (hC : C ≤ 40) (hi : i < R) (hj : j < C) (hx : w.cell? ⟨g, i * C + j, none⟩ = some (.int .u64 (x : Int))) (hg : g < w.heap.size) :
    Calls Tryz.prog 64 #[matV R C g, plcV i j] w fun e w' => e = .returned (.int .u64 (x : Int)) ∧ w' = (w.alloc (matO R C g)).alloc (plcO i j) := by
  obtain ⟨k, hk, hk2, hk3, hk4, hk5, hk6⟩ := idx_int hR hC hi hj
  rw [← hk2] at hx
  have hx2 : ∀ o o', ((w.alloc o).alloc o').cell? ⟨g, k, none⟩ = some (.int .u64 (x : Int)) := fun o o' => by
    have b := ((Below.refl _ w).alloc (Nat.le_refl _) o).alloc (by simp) o'
    exact (b.cell (p := ⟨g, k, none⟩) hg).trans hx
  have HX := hid hx
  clear hx hk2
  unfold matV plcV matO plcO
  generalize R * C = N at *
  go_enter Tryz.func64, Tryz.ntmps64
  go_wp2
  go_ret
  exact ⟨rfl, rfl⟩
theorem mirrored_any (w : World) (i j : Nat) : Calls Tryz.prog 103 #[plcV i j] w fun e w' => e = .returned (plcV j i) ∧ w' = (w.alloc (plcO i j)).alloc (plcO j i) := by
  unfold plcV plcO
  go_enter Tryz.func103, Tryz.ntmps103
  go_wp2
  exact bodyPost_ret (v := .agg #[.int .i64 (j : Int), .int .i64 (i : Int)]) (by simp [results, Tryz.results103, go_sem]) rfl ⟨rfl, rfl⟩
theorem mat_set (w : World) (R C g i j x : Nat) (l : List Value) (hR : R ≤ 40) (hC : C ≤ 40) (hi : i < R) (hj : j < C) (ha : Arr w g 65 l) (hl : l.length = R * C) :
    Calls Tryz.prog 101 #[matV R C g, plcV i j, .int .u64 (x : Int)] w fun e w' => (∃ v, e = .returned v) ∧ w' = ((w.setCell ⟨g, i * C + j, none⟩ (.int .u64 (x : Int))).alloc (matO R C g)).alloc (plcO i j) := by
  obtain ⟨k, hk, hk2, hk3, hk4, hk5, hk6⟩ := idx_int hR hC hi hj
  rw [← hk2]
  obtain ⟨v, hv⟩ : ∃ v, l[k]? = some v := ⟨l[k]'(by omega), by simp [hl, hk3]⟩
  have hx2 : ∀ o o', ((w.alloc o).alloc o').cell? ⟨g, k, none⟩ = some v := fun o o' => ((ha.alloc o).alloc o').cell hv
  have hf2 : ∀ o o', ((w.alloc o).alloc o').frozen? ⟨g, k, none⟩ = false := fun o o' => ((ha.alloc o).alloc o').frozen k
  have hlt := ha.lt
  clear hv ha hl hk2
  unfold matV plcV matO plcO
  generalize R * C = N at *
  go_enter Tryz.func101, Tryz.ntmps101
  go_wp2
  go_end0
  exact ⟨⟨_, rfl⟩, rfl⟩
theorem Tryz.infoU64 : (Tryz.prog.info? 65).map (fun i => (i.zero, i.size, i.bytes)) = some (some (.int .u64 0), 1, 8) := by kernel_rfl
theorem mat_new (w : World) (R C : Nat) (hR : R ≤ 40) (hC : C ≤ 40) :
    Calls Tryz.prog 100 #[.int .i64 (R : Int), .int .i64 (C : Int)] w fun e w' => e = .returned (matV R C (w.heap.size + 1)) ∧ w' = (w.alloc (matO R C (w.heap.size + 1))).alloc (.cells (Array.replicate (R * C) (.int .u64 0)) 65) := by
  have h2 : R * C ≤ 40 * 40 := Nat.mul_le_mul hR hC
  have hrc : (R : Int) * C = ((R * C : Nat) : Int) := by simp
  obtain ⟨i0, hi, hz0, hz1, hz2⟩ := info_parts Tryz.infoU64
  have hmk := run_make1 (P := Tryz.prog) 22 65 i0 (.int .u64 0) Tryz.underlying22 hi hz0 hz1 rfl (R * C) (by rw [hz2]; omega) (by omega)
  clear hi hz0 hz1 hz2
  unfold matV matO
  generalize R * C = N at *
  go_enter Tryz.func100, Tryz.ntmps100
  go_wp2
  exact bodyPost_ret (v := .agg #[.int .i64 (R : Int), .int .i64 (C : Int), .slice (some ⟨w.heap.size + 1, 0, none⟩) N N]) (by simp [results, Tryz.results100, go_sem]) rfl ⟨rfl, rfl⟩
end Go.Proofs.YthdcceackfdbbaaGreatDoor
