/- What each reader finds at a place, in the document's words. Condition: none. -/
import Derived.Test.YtlmgggipkdmdfaaDoorLzl
namespace Go.Proofs.YtlmgggipkdmdfaaDoor
open Go.ChangeShapes Go.WideShapes Go.ChangeAt Go.RowKit
set_option linter.unusedVariables false
set_option linter.unusedSimpArgs false

abbrev rst (s : ByteArray) (a : Nat) : ByteArray := s.extract a s.size
theorem rst_ext (s : ByteArray) (a n : Nat) (h : a + n ≤ s.size) : (rst s a).extract 0 n = s.extract a (a + n) := by
  apply ByteArray.ext
  apply Array.ext'
  rw [ByteArray.data_extract, Array.toList_extract, List.extract_eq_take_drop, ext_list, ByteArray.data_extract, Array.toList_extract, List.extract_eq_take_drop]
  rw [List.drop_zero, Nat.sub_zero, show a + n - a = n by omega]
theorem row_pos (p : UInt8 → Bool) (s : ByteArray) (a : Nat) (h : a < s.size) (hp : p s[a] = true) : rowL p (s.data.toList.drop a) = rowL p (s.data.toList.drop (a + 1)) + 1 := by
  rw [byte_at s a h, rowL_cons, if_pos hp]
theorem row_zero (p : UInt8 → Bool) (s : ByteArray) (a : Nat) (h : a < s.size) (hp : p s[a] = false) : rowL p (s.data.toList.drop a) = 0 := by
  rw [byte_at s a h, rowL_cons, hp]; rfl
theorem let_word (c : UInt8) (h : letB c = true) : wordB c = true := by
  show wordN (c.toNat : Int) = true
  have : letN (c.toNat : Int) = true := h
  unfold wordN; rw [this]; rfl
theorem dig_num (c : UInt8) (h : digB c = true) : numB c = true := by
  show numN (c.toNat : Int) = true
  have : digN (c.toNat : Int) = true := h
  unfold numN; rw [this]; rfl
theorem r3_no (s : ByteArray) (a : Nat) (h : a < s.size) (hl : letB s[a] = false) : (rdP 3 (rst s a)).2.2 = 0 := by
  show (wordP (rst s a)).2.2 = 0
  unfold wordP
  rw [ext_list, if_pos (row_zero letB s a h hl)]; rfl
theorem r3_yes (s : ByteArray) (a : Nat) (h : a < s.size) (hl : letB s[a] = true) : rdP 3 (rst s a) = (1, smallA (s.extract a (a + rowL wordB (s.data.toList.drop a))), ((rowL wordB (s.data.toList.drop a) : Nat) : Int)) := by
  show wordP (rst s a) = _
  unfold wordP
  rw [ext_list, if_neg (by rw [row_pos letB s a h hl]; omega), rst_ext s a _ (row_end s wordB a (by omega))]
theorem r45_no (q : UInt8) (k : Int) (s : ByteArray) (a : Nat) (h : a < s.size) (hc : s[a] ≠ q) : (quoP q k (rst s a)).2.2 = 0 := by
  unfold quoP
  rw [ext_list, byte_at s a h]
  simp only [hc, if_false]; rfl
theorem r45_yes (q : UInt8) (k : Int) (s : ByteArray) (a : Nat) (h : a < s.size) (hc : s[a] = q) : quoP q k (rst s a) = (match quoAt s a q with | none => (0, ⟨#[]⟩, -1) | some p => (k, bb p.1, ((p.2 - a : Nat) : Int))) := by
  unfold quoP
  rw [ext_list, byte_at s a h]
  simp only [hc, if_true]
  unfold quoAt
  cases betL q (s.data.toList.drop (a + 1)) with
  | none => rfl
  | some p =>
    show (k, bb p.1, ((p.2 + 1 : Nat) : Int)) = (k, bb p.1, ((p.2 + (a + 1) - a : Nat) : Int))
    rw [show p.2 + (a + 1) - a = p.2 + 1 by omega]
theorem dol_hp (s : ByteArray) (a : Nat) (h : a < s.size) : hpB (rst s a) dolT = decide (s[a] = 36) := by
  rw [hp_eq, ext_list, byte_at s a h]
  show (([36] : Tx).isPrefixOf (s[a] :: s.data.toList.drop (a + 1))) = _
  simp only [List.isPrefixOf, Bool.and_true]
  rw [Bool.eq_iff_iff, beq_iff_eq, decide_eq_true_iff]
  exact ⟨fun h => h.symm, fun h => h.symm⟩
theorem dol_rest (s : ByteArray) (a : Nat) (h : a < s.size) (hc : s[a] = 36) : (dolR (rst s a)).data.toList = s.data.toList.drop (a + 1) := by
  unfold dolR
  rw [dol_hp s a h, if_pos (decide_eq_true hc), ext_list, ext_list, List.drop_drop]
theorem r7_no (s : ByteArray) (a : Nat) (h : a < s.size) (hl : digB s[a] = false) : (rdP 7 (rst s a)).2.2 = 0 := by
  show (numP (rst s a)).2.2 = 0
  unfold numP
  rw [ext_list, if_pos (row_zero digB s a h hl)]; rfl
theorem r7_yes (s : ByteArray) (a : Nat) (h : a < s.size) (hl : digB s[a] = true) : rdP 7 (rst s a) = (4, s.extract a (a + rowL numB (s.data.toList.drop a)), ((rowL numB (s.data.toList.drop a) : Nat) : Int)) := by
  show numP (rst s a) = _
  unfold numP
  rw [ext_list, if_neg (by rw [row_pos digB s a h hl]; omega), rst_ext s a _ (row_end s numB a (by omega))]
theorem r8_no (s : ByteArray) (a : Nat) (h : a < s.size) (hc : s[a] ≠ 36 ∨ rowL digB (s.data.toList.drop (a + 1)) = 0) : (rdP 8 (rst s a)).2.2 = 0 := by
  show (parP (rst s a)).2.2 = 0
  unfold parP
  rw [dol_hp s a h]
  by_cases h36 : s[a] = 36
  · have hz : rowL digB (s.data.toList.drop (a + 1)) = 0 := hc.resolve_left (fun hh => hh h36)
    have : parN (rst s a) = 0 := by unfold parN; rw [dol_rest s a h h36]; exact hz
    rw [if_pos (.inr this)]; rfl
  · rw [if_pos (.inl (decide_eq_false h36))]; rfl
theorem r8_yes (s : ByteArray) (a : Nat) (h : a < s.size) (hc : s[a] = 36) (hp : rowL digB (s.data.toList.drop (a + 1)) ≠ 0) : rdP 8 (rst s a) = (5, s.extract a (a + 1 + rowL digB (s.data.toList.drop (a + 1))), ((1 + rowL digB (s.data.toList.drop (a + 1)) : Nat) : Int)) := by
  show parP (rst s a) = _
  unfold parP
  have e : parN (rst s a) = rowL digB (s.data.toList.drop (a + 1)) := by unfold parN; rw [dol_rest s a h hc]
  have hle := row_end s digB (a + 1) (by omega)
  rw [e, dol_hp s a h, decide_eq_true hc, if_neg (by rintro (h1 | h1); · cases h1
                                                     · exact hp h1)]
  rw [rst_ext s a _ (by omega)]
  rw [show a + (rowL digB (s.data.toList.drop (a + 1)) + 1) = a + 1 + rowL digB (s.data.toList.drop (a + 1)) by omega, Nat.add_comm 1]
theorem r9_no (s : ByteArray) (a : Nat) (h : a < s.size) (hg : signI s[a] < 0) : (rdP 9 (rst s a)).2.2 = 0 := by
  show (signP (rst s a)).2.2 = 0
  unfold signP
  rw [ext_list, byte_at s a h]
  simp only [hg, if_true]; rfl
theorem r9_yes (s : ByteArray) (a : Nat) (h : a < s.size) (hg : ¬ signI s[a] < 0) : rdP 9 (rst s a) = (5, s.extract a (a + 1), 1) := by
  show signP (rst s a) = _
  unfold signP
  rw [ext_list, byte_at s a h]
  simp only [hg, if_false]
  rw [rst_ext s a 1 (by omega)]
/-- Cut at one byte -/
theorem cut_q (q : UInt8) (l : Tx) : (Lib.cut l [q]).1 = l.takeWhile (· != q) ∧ ((Lib.cut l [q]).2.2 = true ↔ q ∈ l) := by
  unfold Lib.cut
  induction l with
  | nil => rw [idx_nil _ (by simp)]; simp
  | cons c r ih =>
    rw [List.takeWhile_cons]
    by_cases h : c = q
    · subst h
      have e : Lib.index (c :: r) [c] = 0 := by rw [idx_cons, if_pos]; simp
      rw [e]; simp
    · have h1 : ¬ ([q] : Tx).isPrefixOf (c :: r) = true := by
        simp [List.isPrefixOf]; exact fun h2 => h h2.symm
      have h2 : (c != q) = true := by rw [bne_iff_ne]; exact h
      rw [idx_cons, if_neg h1, if_pos h2, ← ih.1]
      have hge := Lib.index_ge r [q]
      by_cases h3 : Lib.index r [q] = -1
      · rw [if_pos h3, if_neg (by omega), if_neg (by omega)]
        refine ⟨rfl, ?_⟩
        have := ih.2
        rw [if_neg (by omega)] at this
        simp only [List.mem_cons]
        constructor
        · intro hh; cases hh
        · rintro (hh | hh)
          · exact absurd hh.symm h
          · exact this.2 hh
      · rw [if_neg h3, if_pos (by omega), if_pos (by omega)]
        obtain ⟨n, hn⟩ : ∃ n : Nat, Lib.index r [q] = (n : Int) := ⟨(Lib.index r [q]).toNat, by omega⟩
        rw [hn]
        refine ⟨rfl, ?_⟩
        have := ih.2
        rw [if_pos (by omega)] at this
        simp only [List.mem_cons]
        exact ⟨fun _ => .inr (this.1 rfl), fun _ => by first | rfl | trivial⟩
end Go.Proofs.YtlmgggipkdmdfaaDoor
