/- What the document's own double and Show at layer 4 answer. Conditions: how many tokens, how long their texts. -/
import Derived.Test.YtlmgggipkdmdfaaDoorLxy
namespace Go.Proofs.YtlmgggipkdmdfaaDoor
open Go.ChangeShapes Go.WideShapes Go.ChangeAt Go.RowKit
set_option linter.unusedVariables false
set_option linter.unusedSimpArgs false

abbrev bb (l : Tx) : ByteArray := ⟨l.toArray⟩
theorem bb_app (a b : Tx) : bb a ++ bb b = bb (a ++ b) := by apply ByteArray.ext; simp
theorem bb_size (a : Tx) : (bb a).size = a.length := by show a.toArray.size = _; simp
theorem ext_one (s : ByteArray) (k : Nat) (hk : k < s.size) : s.extract k (k + 1) = bb [s.data.toList[k]'hk] := by
  apply ByteArray.ext
  apply Array.ext'
  rw [ByteArray.data_extract, Array.toList_extract]
  have h2 : k < s.data.toList.length := hk
  rw [List.extract_eq_take_drop, show k + 1 - k = 1 by omega, List.drop_eq_getElem_cons h2]
  simp
theorem dbl_take (q : UInt8) (l : Tx) (k : Nat) (hk : k < l.length) : dblL q (l.take (k + 1)) = dblL q (l.take k) ++ (if l[k] = q then [q, q] else [l[k]]) := by
  have e : l.take (k + 1) = l.take k ++ [l[k]] := by rw [List.take_add_one, List.getElem?_eq_getElem hk]; rfl
  rw [e]
  simp only [dblL, List.flatMap_append, List.flatMap_cons, List.flatMap_nil, List.append_nil]
set_option maxHeartbeats 1000000 in
theorem double_any (q : UInt8) (s : ByteArray) (w : World) (hs : s.size ≤ 1048576) :
    Calls Tryd.prog 25 #[.string s, .string (bb [q])] w fun e w' => e = .returned (.string (bb (quoL q s.data.toList))) ∧ w' = w := by
  have hQ : (bb [q]).size = 1 := rfl
  have hsz : ∀ k, (bb (q :: dblL q (s.data.toList.take k))).size ≤ 2097160 := by
    intro k
    have h1 := dbl_size q (s.data.toList.take k)
    have h2 : (s.data.toList.take k).length ≤ s.size := by rw [List.length_take]; exact Nat.min_le_right _ _
    rw [bb_size, List.length_cons]; omega
  have HSZ := Lib.hid hsz
  have hstep : ∀ k (hk : k < s.size), (if s.data.toList[k]'hk = q then (bb (q :: dblL q (s.data.toList.take k)) ++ bb [q]) ++ s.extract k (k + 1) else bb (q :: dblL q (s.data.toList.take k)) ++ s.extract k (k + 1)) = bb (q :: dblL q (s.data.toList.take (k + 1))) := by
    intro k hk
    rw [ext_one s k hk, dbl_take q _ k hk]
    by_cases h : s.data.toList[k]'hk = q
    · rw [if_pos h, if_pos h, bb_app, bb_app, h]; congr 1; simp
    · rw [if_neg h, if_neg h, bb_app]; congr 1
  have HST := Lib.hid hstep
  have hend : bb (q :: dblL q (s.data.toList.take s.size)) ++ bb [q] = bb (quoL q s.data.toList) := by
    have : s.data.toList.take s.size = s.data.toList := List.take_length
    rw [this, bb_app]; rfl
  have HEN := Lib.hid hend
  have h0 : bb [q] = bb (q :: dblL q (s.data.toList.take 0)) := by simp [dblL]
  have H0 := Lib.hid h0
  have hone : ∀ k (hk : k < s.size), (s.extract k (k + 1)).size = 1 ∧ ((s.data.toList[k]'hk = q ∧ ((s.extract k (k + 1)).toList == (bb [q]).toList) = true) ∨ (s.data.toList[k]'hk ≠ q ∧ ((s.extract k (k + 1)).toList == (bb [q]).toList) = false)) := by
    intro k hk
    rw [ext_one s k hk]
    refine ⟨rfl, ?_⟩
    by_cases h : s.data.toList[k]'hk = q
    · left; exact ⟨h, by rw [h]; simp⟩
    · right
      refine ⟨h, ?_⟩
      rw [beq_eq_false_iff_ne]
      intro hh
      rw [ByteArray.toList_eq, ByteArray.toList_eq] at hh
      simp at hh
      exact h hh
  have HON := Lib.hid hone
  clear hsz hstep hend h0 hone
  generalize hq : bb [q] = Q at *
  have HQQ := Lib.hid hq
  clear hq
  have hQ2 : Q.size ≤ 10 := by omega
  go_enter Tryd.func25, Tryd.ntmps25
  go_wp2
  go_loop [5, 6] (fun u5 u6 => ∃ k : Nat, k ≤ s.size ∧ u6 = .int .i64 k ∧ u5 = .string (bb (q :: dblL q (s.data.toList.take k)))) (fun _ u6 => s.size - (intOf u6).toNat)
  case atStart => exact ⟨0, Nat.zero_le _, rfl, by rw [← H0.out]⟩
  case round =>
    obtain ⟨k, hk, rfl, rfl⟩ := hrel
    have ht := HSZ.out k
    by_cases hlt : k < s.size
    · obtain ⟨h1, h2⟩ := HON.out k hlt
      have hst := HST.out k hlt
      have l0 : (0 : Int) ≤ (k : Int) := by omega
      obtain ⟨b, hb⟩ : ∃ b, k + 1 = b := ⟨_, rfl⟩
      have cw : IntKind.i64.wrap ((k : Int) + 1) = (b : Int) := by rw [show (k : Int) + 1 = (b : Int) by omega]; exact IntWalk.i64_in _ (by omega)
      have l1 : (k : Int) ≤ (b : Int) := by omega
      have l2 : (b : Int) ≤ (s.size : Int) := by omega
      rw [hb] at hst h1 h2
      have HBK := Lib.hid hb
      have hkb : k < b := by omega
      have hbs : b ≤ s.size := by omega
      clear hb
      rcases h2 with ⟨h2, h3⟩ | ⟨h2, h3⟩
      · rw [if_pos h2] at hst
        have HX := Lib.hid hst
        clear hst h2
        generalize bb (q :: dblL q (s.data.toList.take k)) = T at *
        go_wp2
        go_round
        case rel => exact ⟨b, hbs, rfl, by rw [HX.out]⟩
        case measure => simp [intOf]; omega
      · rw [if_neg h2] at hst
        have HX := Lib.hid hst
        clear hst h2
        generalize bb (q :: dblL q (s.data.toList.take k)) = T at *
        go_wp2
        go_round
        case rel => exact ⟨b, hbs, rfl, by rw [HX.out]⟩
        case measure => simp [intOf]; omega
    · have hkl : k = s.size := by omega
      subst hkl
      have HX := Lib.hid HEN.out
      generalize bb (q :: dblL q (s.data.toList.take s.size)) = T at *
      go_wp2
      go_ret
      exact ⟨by rw [HX.out]; rfl, rfl⟩
set_option maxHeartbeats 2000000 in
set_option maxRecDepth 100000 in
theorem rshow_any (v : Value) (l : List Tok) (w : World) (hl : l.length ≤ 65536) (hz : ∀ t ∈ l, t.2.1.size ≤ 65536) (h : TR w v l) :
    Calls Tryd.prog 15 #[v] w fun e w' => e = .returned (.string (bb (showL l))) ∧ w' = w := by
  obtain ⟨a, cap, rfl, hx⟩ := tr_cells h
  have HX := Lib.hid hx
  have HZ := Lib.hid hz
  have HSZ := Lib.hid (take_size hl hz)
  clear h hx hz
  go_enter Tryd.func15, Tryd.ntmps15
  go_wp2
  go_loop [3, 4] (fun u3 u4 => ∃ k : Nat, k ≤ l.length ∧ u4 = .int .i64 k ∧ u3 = .string (bb (showL (l.take k)))) (fun _ u4 => l.length - (intOf u4).toNat)
  case atStart => exact ⟨0, Nat.zero_le _, rfl, rfl⟩
  case round =>
    obtain ⟨k, hk, rfl, rfl⟩ := hrel
    by_cases hlt : k < l.length
    · rcases HX.out with h0 | ⟨g, off, rfl, hcap, hx⟩
      · omega
      · obtain ⟨x1, x2, x3⟩ := hx k hlt
        have hzk := HZ.out l[k] (List.getElem_mem hlt)
        have ht := take_showL hlt
        have hT1 : (bb (showL (l.take k))).size ≤ 68719476736 := by rw [bb_size]; exact HSZ.out k
        have hsh := shown_size l[k]
        clear hx
        generalize hT : l[k] = t at *
        clear hT
        obtain ⟨kd, tx, ta⟩ := t
        simp only at x1 x2 x3 hzk hsh
        have hu : ∃ U : ByteArray, U.size ≤ 68719476740 ∧ bb (showL (l.take (k + 1))) = U ++ bb (shownL (kd, tx, ta)) ∧ ((k = 0 ∧ U = bb (showL (l.take k))) ∨ ((0 : Int) < (k : Int) ∧ U = bb (showL (l.take k)) ++ bb [32])) := by
          by_cases h0 : k = 0
          · exact ⟨bb (showL (l.take k)), by omega, by rw [ht, if_pos h0, List.append_nil, bb_app], .inl ⟨h0, rfl⟩⟩
          · refine ⟨bb (showL (l.take k)) ++ bb [32], ?_, by rw [ht, if_neg h0, bb_app, bb_app], .inr ⟨by omega, rfl⟩⟩
            rw [bb_app, bb_size, List.length_append]
            have := HSZ.out k
            simp only [List.length_singleton]; omega
        obtain ⟨U, hU, hN, hc⟩ := hu
        have HN := Lib.hid hN
        have hdo := fun q w1 => double_any q tx w1 (by omega)
        have HD := Lib.hid hdo
        clear ht hN hdo
        have hk2 : (kd = 2 ∧ shownL (kd, tx, ta) = quoL 34 tx.data.toList) ∨ ((kd == (2 : Int)) = false ∧ kd = 3 ∧ shownL (kd, tx, ta) = quoL 39 tx.data.toList) ∨ ((kd == (2 : Int)) = false ∧ (kd == (3 : Int)) = false ∧ bb (shownL (kd, tx, ta)) = tx) := by
          by_cases h2 : kd = 2
          · left; exact ⟨h2, by unfold shownL; rw [if_pos h2]⟩
          · right
            by_cases h3 : kd = 3
            · left; exact ⟨by rw [beq_eq_false_iff_ne]; exact h2, h3, by unfold shownL; rw [if_neg h2, if_pos h3]⟩
            · right; exact ⟨by rw [beq_eq_false_iff_ne]; exact h2, by rw [beq_eq_false_iff_ne]; exact h3, by unfold shownL; rw [if_neg h2, if_neg h3]⟩
        rcases hc with ⟨rfl, hc⟩ | ⟨hk0, hc⟩
        · subst hc
          generalize bb (showL (l.take 0)) = T at *
          simp only [Nat.zero_mul, Nat.add_zero] at x1 x2 x3
          rcases hk2 with ⟨rfl, h3⟩ | ⟨h1, rfl, h3⟩ | ⟨h1, h2, h3⟩
          · have HS := Lib.hid h3
            have hqs := quo_size 34 tx.data.toList
            have hQ : (bb (quoL 34 tx.data.toList)).size ≤ 140000 := by rw [bb_size]; have : tx.data.toList.length = tx.size := rfl; omega
            have hd2 := HD.out 34
            rw [← HS.out] at hQ hd2
            clear h3 hsh hqs
            have HRL := Lib.hid (show bb (showL (l.take 1)) = T ++ bb (shownL (2, tx, ta)) from HN.out)
            generalize bb (shownL (2, tx, ta)) = QQ at *
            have HD2 := Lib.hid hd2
            clear hd2
            go_wp2_with (go_at_call 25; (with_reducible refine (HD2.out _).mono ?_); rintro e w1 ⟨rfl, hw⟩; obtain rfl := hw.symm)
            go_round
            case rel => exact ⟨1, by omega, by go_num, by rw [HRL.out]⟩
            case measure => simp [intOf]; omega
          · have HS := Lib.hid h3
            have hqs := quo_size 39 tx.data.toList
            have hQ : (bb (quoL 39 tx.data.toList)).size ≤ 140000 := by rw [bb_size]; have : tx.data.toList.length = tx.size := rfl; omega
            have hd2 := HD.out 39
            rw [← HS.out] at hQ hd2
            clear h3 hsh hqs
            have HRL := Lib.hid (show bb (showL (l.take 1)) = T ++ bb (shownL (3, tx, ta)) from HN.out)
            generalize bb (shownL (3, tx, ta)) = QQ at *
            have HD2 := Lib.hid hd2
            clear hd2
            go_wp2_with (go_at_call 25; (with_reducible refine (HD2.out _).mono ?_); rintro e w1 ⟨rfl, hw⟩; obtain rfl := hw.symm)
            go_round
            case rel => exact ⟨1, by omega, by go_num, by rw [HRL.out]⟩
            case measure => simp [intOf]; omega
          · have HS := Lib.hid h3
            have HKK := Lib.hid (And.intro h1 h2)
            clear h3 hsh
            go_wp2
            go_round
            case rel => exact ⟨1, by omega, by go_num, by rw [HN.out, HS.out]⟩
            case measure => simp [intOf]; omega
        · subst hc
          generalize bb (showL (l.take k)) = T at *
          rcases hk2 with ⟨rfl, h3⟩ | ⟨h1, rfl, h3⟩ | ⟨h1, h2, h3⟩
          · have HS := Lib.hid h3
            have hqs := quo_size 34 tx.data.toList
            have hQ : (bb (quoL 34 tx.data.toList)).size ≤ 140000 := by rw [bb_size]; have : tx.data.toList.length = tx.size := rfl; omega
            have hd2 := HD.out 34
            rw [← HS.out] at hQ hd2
            clear h3 hsh hqs
            have HRL := Lib.hid (show bb (showL (l.take (k + 1))) = T ++ bb [32] ++ bb (shownL (2, tx, ta)) from HN.out)
            generalize bb (shownL (2, tx, ta)) = QQ at *
            have HD2 := Lib.hid hd2
            clear hd2
            go_wp2_with (go_at_call 25; (with_reducible refine (HD2.out _).mono ?_); rintro e w1 ⟨rfl, hw⟩; obtain rfl := hw.symm)
            go_round
            case rel => exact ⟨k + 1, by omega, by go_num, by rw [HRL.out]⟩
            case measure => simp [intOf]; omega
          · have HS := Lib.hid h3
            have hqs := quo_size 39 tx.data.toList
            have hQ : (bb (quoL 39 tx.data.toList)).size ≤ 140000 := by rw [bb_size]; have : tx.data.toList.length = tx.size := rfl; omega
            have hd2 := HD.out 39
            rw [← HS.out] at hQ hd2
            clear h3 hsh hqs
            have HRL := Lib.hid (show bb (showL (l.take (k + 1))) = T ++ bb [32] ++ bb (shownL (3, tx, ta)) from HN.out)
            generalize bb (shownL (3, tx, ta)) = QQ at *
            have HD2 := Lib.hid hd2
            clear hd2
            go_wp2_with (go_at_call 25; (with_reducible refine (HD2.out _).mono ?_); rintro e w1 ⟨rfl, hw⟩; obtain rfl := hw.symm)
            go_round
            case rel => exact ⟨k + 1, by omega, by go_num, by rw [HRL.out]⟩
            case measure => simp [intOf]; omega
          · have HS := Lib.hid h3
            have HKK := Lib.hid (And.intro h1 h2)
            clear h3 hsh
            go_wp2
            go_round
            case rel => exact ⟨k + 1, by omega, by go_num, by rw [HN.out, HS.out]⟩
            case measure => simp [intOf]; omega
    · have hkl : k = l.length := by omega
      subst hkl
      go_wp2
      go_ret
      exact ⟨by first | rfl | (rw [List.take_length]; rfl), rfl⟩
end Go.Proofs.YtlmgggipkdmdfaaDoor
