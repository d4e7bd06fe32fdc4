/- A token: what Scan finds at a place where no gap begins is what the document's one tells. Condition: none. -/
import Derived.Test.YtlmgggipkdmdfaaDoorLzk
namespace Go.Proofs.YtlmgggipkdmdfaaDoor
open Go.ChangeShapes Go.WideShapes Go.ChangeAt Go.RowKit
set_option linter.unusedVariables false
set_option linter.unusedSimpArgs false

def tok0 : Tok := (0, ⟨#[]⟩, 0)
/-- what the document's one tells -/
def oneP (s : ByteArray) (a : Nat) : Tok × Nat × Int :=
  let c := (s.data.toList.drop a).headD 0
  if letB c = true then ((1, smallA (s.extract a (a + rowL wordB (s.data.toList.drop a))), (a : Int)), a + rowL wordB (s.data.toList.drop a), 0)
  else if digB c = true then ((4, s.extract a (a + rowL numB (s.data.toList.drop a)), (a : Int)), a + rowL numB (s.data.toList.drop a), 0)
  else if c = 34 then (match quoAt s a 34 with | none => (tok0, 0, 6) | some p => ((2, bb p.1, (a : Int)), p.2, 0))
  else if c = 39 then (match quoAt s a 39 with | none => (tok0, 0, 6) | some p => ((3, bb p.1, (a : Int)), p.2, 0))
  else if c = 36 then (if 0 < tagAt s a then (match dolAt s a (tagAt s a).toNat with | none => (tok0, 0, 6) | some p => ((3, bb p.1, (a : Int)), p.2, 0))
    else if rowL digB (s.data.toList.drop (a + 1)) = 0 then (tok0, 0, 7) else ((5, s.extract a (a + 1 + rowL digB (s.data.toList.drop (a + 1))), (a : Int)), a + 1 + rowL digB (s.data.toList.drop (a + 1)), 0))
  else if signI c < 0 then (tok0, 0, 7) else ((5, s.extract a (a + 1), (a : Int)), a + 1, 0)
theorem head_at (s : ByteArray) (a : Nat) (h : a < s.size) : (s.data.toList.drop a).headD 0 = s[a] := by rw [byte_at s a h]; rfl
theorem tagAt_cases (s : ByteArray) (a : Nat) (h : a < s.size) : tagAt s a = -1 ∨ (a + 1 < (tagAt s a).toNat ∧ (tagAt s a).toNat ≤ s.size ∧ tagAt s a = ((tagAt s a).toNat : Int)) := by
  unfold tagAt
  split
  · rename_i h1
    right
    have h2 := congrArg List.length h1
    rw [List.length_take, List.length_drop] at h2
    simp only [List.length_singleton] at h2
    have e : s.size = s.data.toList.length := rfl
    omega
  · exact .inl rfl
theorem rone_any (s : ByteArray) (a : Nat) (ha : a < s.size) (w : World) (hs : s.size ≤ 1048000) :
    Calls Tryd.prog 18 #[.string s, .int .i64 (a : Int)] w (OneP w (oneP s a)) := by
  have hh := head_at s a ha
  unfold oneP
  simp only [hh]
  by_cases hl : letB s[a] = true
  · rw [if_pos hl]; exact one_word s a ha w hs hl _ rfl
  · have hl2 : letB s[a] = false := by simpa using hl
    rw [if_neg hl]
    by_cases hd : digB s[a] = true
    · rw [if_pos hd]; exact one_num s a ha w hs hl2 hd _ rfl
    · have hd2 : digB s[a] = false := by simpa using hd
      rw [if_neg hd]
      by_cases h34 : s[a] = 34
      · rw [if_pos h34]
        cases hq : quoAt s a 34 with
        | none => exact one_quo34_no s a ha w hs h34 hq
        | some p => obtain ⟨t, n⟩ := p; exact one_quo34_yes s a ha w hs h34 t n hq
      · rw [if_neg h34]
        by_cases h39 : s[a] = 39
        · rw [if_pos h39]
          cases hq : quoAt s a 39 with
          | none => exact one_quo39_no s a ha w hs h39 hq
          | some p => obtain ⟨t, n⟩ := p; exact one_quo39_yes s a ha w hs h39 t n hq
        · rw [if_neg h39]
          by_cases h36 : s[a] = 36
          · rw [if_pos h36]
            rcases tagAt_cases s a ha with ht | ⟨t1, t2, t3⟩
            · rw [if_neg (by omega)]
              by_cases hp : rowL digB (s.data.toList.drop (a + 1)) = 0
              · rw [if_pos hp]; exact one_dol_none s a ha w hs h36 ht hp
              · rw [if_neg hp]; exact one_par s a ha w hs h36 ht _ rfl (by omega)
            · rw [if_pos (by omega)]
              cases hq : dolAt s a (tagAt s a).toNat with
              | none => exact one_dol_no s a ha w hs h36 _ (by omega) t2 t3 hq
              | some p => obtain ⟨t, n⟩ := p; exact one_dol_yes s a ha w hs h36 _ (by omega) t2 t3 t n hq
          · rw [if_neg h36]
            by_cases hg : signI s[a] < 0
            · rw [if_pos hg]; exact one_sig_no s a ha w hs hl2 hd2 h34 h39 h36 hg
            · rw [if_neg hg]; exact one_sig_yes s a ha w hs hl2 hd2 h34 h39 h36 (by omega) _ rfl
end Go.Proofs.YtlmgggipkdmdfaaDoor
