/- What the document's own tag and dollar answer. Conditions: a text's length; where they are asked. -/
import Derived.Test.YtlmgggipkdmdfaaDoorLze
namespace Go.Proofs.YtlmgggipkdmdfaaDoor
open Go.ChangeShapes Go.WideShapes Go.ChangeAt Go.RowKit
set_option linter.unusedVariables false
set_option linter.unusedSimpArgs false

/-- how many bytes of a tag stand at the beginning of a text -/
def tagL (l : Tx) : Nat := if rowL letB l = 0 then 0 else rowL tagB l
/-- the place behind a tag with its dollars, that stands at a place -/
def tagAt (s : ByteArray) (a : Nat) : Int :=
  if (s.data.toList.drop (a + 1 + tagL (s.data.toList.drop (a + 1)))).take 1 = [36] then ((a + 1 + tagL (s.data.toList.drop (a + 1)) + 1 : Nat) : Int) else -1
theorem let_tag (c : UInt8) (h : letB c = true) : tagB c = true := by
  show tagN (c.toNat : Int) = true
  have : letN (c.toNat : Int) = true := h
  unfold tagN
  rw [this]; rfl
theorem tagB_eq (c : UInt8) : tagB c = (letN (c.toNat : Int) || digN (c.toNat : Int)) := rfl
theorem tagL_cons (c : UInt8) (r : Tx) : tagL (c :: r) = if letB c = true then rowL tagB r + 1 else 0 := by
  unfold tagL
  rw [rowL_cons letB]
  by_cases h : letB c = true
  · rw [if_pos h, if_pos h, if_neg (by omega), rowL_cons, if_pos (let_tag c h)]
  · rw [if_neg h, if_neg h, if_pos rfl]
theorem tagL_le (l : Tx) : tagL l ≤ l.length := by
  unfold tagL
  split
  · omega
  · exact rowL_le _ _
set_option maxHeartbeats 1000000 in
set_option maxRecDepth 100000 in
theorem rtag_any (s : ByteArray) (a : Nat) (ha : a < s.size) (w : World) (hs : s.size ≤ 1048000) :
    Calls Tryd.prog 43 #[.string s, .int .i64 (a : Int)] w fun e w' => e = .returned (.int .i64 (tagAt s a)) ∧ w' = w := by
  have l0 : (0 : Int) ≤ (a : Int) := by omega
  obtain ⟨a1, ha1⟩ : ∃ a1, a + 1 = a1 := ⟨_, rfl⟩
  have cw : IntKind.i64.wrap ((a : Int) + 1) = (a1 : Int) := by rw [show (a : Int) + 1 = (a1 : Int) by omega]; exact IntWalk.i64_in _ (by omega)
  obtain ⟨R, hR⟩ : ∃ R, tagAt s a = R := ⟨_, rfl⟩
  rw [hR]
  obtain ⟨E, hE⟩ : ∃ E, a1 + tagL (s.data.toList.drop a1) = E := ⟨_, rfl⟩
  have hR2 : R = if (s.data.toList.drop E).take 1 = [36] then ((E + 1 : Nat) : Int) else -1 := by rw [← hR]; unfold tagAt; rw [ha1, hE]
  have hE2 : E ≤ s.size := by
    have h1 := tagL_le (s.data.toList.drop a1)
    rw [List.length_drop] at h1
    have : s.size = s.data.toList.length := rfl
    omega
  have HR := Lib.hid hR2
  have HE := Lib.hid hE
  have HA1 := Lib.hid ha1
  clear hR hE hR2 ha1
  go_enter Tryd.func43, Tryd.ntmps43
  go_wp2
  go_loop [5] (fun u5 => ∃ i : Nat, i ≤ s.size ∧ u5 = .int .i64 i ∧ ((i = a1 ∧ E = i + tagL (s.data.toList.drop i)) ∨ (a1 < i ∧ E = i + rowL tagB (s.data.toList.drop i)))) (fun u5 => s.size - (intOf u5).toNat)
  case atStart => exact ⟨a1, by have := HA1.out; omega, rfl, .inl ⟨rfl, HE.out.symm⟩⟩
  case round =>
    obtain ⟨i, hi, rfl, hv⟩ := hrel
    have HV := Lib.hid hv
    clear hv HE
    have hexit : ∀ (h : E = i), Hid (E = i) := fun h => Lib.hid h
    by_cases hlt : i < s.size
    · have m0 : (0 : Int) ≤ (i : Int) := by omega
      have m1 : (i : Int) < (s.size : Int) := by omega
      obtain ⟨c, hc⟩ : ∃ c, s[i]'hlt = c := ⟨_, rfl⟩
      obtain ⟨z, hz⟩ : ∃ z : Int, (c.toNat : Int) = z := ⟨_, rfl⟩
      have hci : ((s[i]'hlt).toNat : Int) = z := by rw [hc, hz]
      obtain ⟨i1, hi1⟩ : ∃ i1, i + 1 = i1 := ⟨_, rfl⟩
      have cwi : IntKind.i64.wrap ((i : Int) + 1) = (i1 : Int) := by rw [show (i : Int) + 1 = (i1 : Int) by omega]; exact IntWalk.i64_in _ (by omega)
      have HI1 := Lib.hid hi1
      have hlet := fun w => rlet_any z w
      have hdig := fun w => rdig_any z w
      have hd := byte_at s i hlt
      rw [hc] at hd
      have hlb : letB c = letN z := by rw [← hz]; rfl
      have hdb : tagB c = (letN z || digN z) := by rw [tagB_eq, hz]
      have HD := Lib.hid hd
      have HLB := Lib.hid hlb
      have HDB := Lib.hid hdb
      have HLET := Lib.hid hlet
      have HDIG := Lib.hid hdig
      have htk : (s.data.toList.drop i).take 1 = [c] := by rw [hd]; rfl
      have HTK := Lib.hid htk
      have HZ := Lib.hid hz
      clear hlet hdig hd hlb hdb hi1 hc hz htk
      generalize hbl : letN z = bl at *
      generalize hbd : digN z = bd at *
      clear hbl hbd
      cases bl with
      | true =>
        have hn : i1 ≤ s.size ∧ a1 < i1 ∧ E = i1 + rowL tagB (s.data.toList.drop i1) := by
          have h1 := HI1.out
          rcases HV.out with ⟨e, h⟩ | ⟨e, h⟩
          · rw [HD.out, tagL_cons, if_pos HLB.out, h1] at h
            exact ⟨by omega, by omega, by omega⟩
          · rw [HD.out, rowL_cons, if_pos (by rw [HDB.out]; rfl), h1] at h
            exact ⟨by omega, by omega, by omega⟩
        have HN := Lib.hid hn
        clear hn
        go_wp2_with (first
          | (go_at_call 38; (with_reducible refine (HLET.out _).mono ?_); rintro e w1 ⟨rfl, hw1⟩; obtain rfl := hw1.symm)
          | (go_at_call 41; (with_reducible refine (HDIG.out _).mono ?_); rintro e w1 ⟨rfl, hw1⟩; obtain rfl := hw1.symm))
        go_round
        case rel => exact ⟨i1, HN.out.1, rfl, .inr HN.out.2⟩
        case measure => have := HI1.out; simp [intOf]; omega
      | false =>
        have hcases : (i = a1 ∧ E = i) ∨ (((a1 : Int) < (i : Int)) ∧ bd = false ∧ E = i) ∨ (((a1 : Int) < (i : Int)) ∧ bd = true ∧ i1 ≤ s.size ∧ a1 < i1 ∧ E = i1 + rowL tagB (s.data.toList.drop i1)) := by
          have h1 := HI1.out
          rcases HV.out with ⟨e, h⟩ | ⟨e, h⟩
          · left
            rw [HD.out, tagL_cons, if_neg (by rw [HLB.out]; decide)] at h
            exact ⟨e, by omega⟩
          · right
            rw [HD.out, rowL_cons, HDB.out, h1] at h
            cases bd with
            | false => left; rw [if_neg (by decide)] at h; exact ⟨by omega, rfl, by omega⟩
            | true => right; rw [if_pos (by decide)] at h; exact ⟨by omega, rfl, by omega, by omega, by omega⟩
        rcases hcases with ⟨rfl, h⟩ | ⟨hai, rfl, h⟩ | ⟨hai, rfl, h⟩
        · have hai : ¬ ((i : Int) < (i : Int)) := by omega
          have he : R = if z = 36 then (i1 : Int) else -1 := by
            rw [HR.out, h, HTK.out]
            have h1 := HI1.out
            have h2 := HZ.out
            by_cases h36 : c = 36
            · rw [if_pos (by rw [h36]), if_pos (by rw [← h2, h36]; rfl)]; omega
            · rw [if_neg (by intro hh; injection hh with hh; exact h36 hh), if_neg (by intro hh; exact h36 (UInt8.toNat_inj.1 (by show _ = 36; omega)))]
          have HEX := Lib.hid he
          clear he h hexit
          by_cases h36 : z = 36
          · subst h36
            go_wp2_with (first
              | (go_at_call 38; (with_reducible refine (HLET.out _).mono ?_); rintro e w1 ⟨rfl, hw1⟩; obtain rfl := hw1.symm)
              | (go_at_call 41; (with_reducible refine (HDIG.out _).mono ?_); rintro e w1 ⟨rfl, hw1⟩; obtain rfl := hw1.symm))
            go_ret
            exact ⟨by rw [HEX.out]; rfl, rfl⟩
          · have e36 : (z == (36 : Int)) = false := by rw [beq_eq_false_iff_ne]; exact h36
            have HNE := Lib.hid h36
            clear h36
            go_wp2_with (first
              | (go_at_call 38; (with_reducible refine (HLET.out _).mono ?_); rintro e w1 ⟨rfl, hw1⟩; obtain rfl := hw1.symm)
              | (go_at_call 41; (with_reducible refine (HDIG.out _).mono ?_); rintro e w1 ⟨rfl, hw1⟩; obtain rfl := hw1.symm))
            go_ret
            exact ⟨by rw [HEX.out, if_neg HNE.out]; rfl, rfl⟩
        · have he : R = if z = 36 then (i1 : Int) else -1 := by
            rw [HR.out, h, HTK.out]
            have h1 := HI1.out
            have h2 := HZ.out
            by_cases h36 : c = 36
            · rw [if_pos (by rw [h36]), if_pos (by rw [← h2, h36]; rfl)]; omega
            · rw [if_neg (by intro hh; injection hh with hh; exact h36 hh), if_neg (by intro hh; exact h36 (UInt8.toNat_inj.1 (by show _ = 36; omega)))]
          have HEX := Lib.hid he
          clear he h hexit
          by_cases h36 : z = 36
          · subst h36
            go_wp2_with (first
              | (go_at_call 38; (with_reducible refine (HLET.out _).mono ?_); rintro e w1 ⟨rfl, hw1⟩; obtain rfl := hw1.symm)
              | (go_at_call 41; (with_reducible refine (HDIG.out _).mono ?_); rintro e w1 ⟨rfl, hw1⟩; obtain rfl := hw1.symm))
            go_ret
            exact ⟨by rw [HEX.out]; rfl, rfl⟩
          · have e36 : (z == (36 : Int)) = false := by rw [beq_eq_false_iff_ne]; exact h36
            have HNE := Lib.hid h36
            clear h36
            go_wp2_with (first
              | (go_at_call 38; (with_reducible refine (HLET.out _).mono ?_); rintro e w1 ⟨rfl, hw1⟩; obtain rfl := hw1.symm)
              | (go_at_call 41; (with_reducible refine (HDIG.out _).mono ?_); rintro e w1 ⟨rfl, hw1⟩; obtain rfl := hw1.symm))
            go_ret
            exact ⟨by rw [HEX.out, if_neg HNE.out]; rfl, rfl⟩
        · have HN := Lib.hid h
          clear h
          go_wp2_with (first
            | (go_at_call 38; (with_reducible refine (HLET.out _).mono ?_); rintro e w1 ⟨rfl, hw1⟩; obtain rfl := hw1.symm)
            | (go_at_call 41; (with_reducible refine (HDIG.out _).mono ?_); rintro e w1 ⟨rfl, hw1⟩; obtain rfl := hw1.symm))
          go_round
          case rel => exact ⟨i1, HN.out.1, rfl, .inr HN.out.2⟩
          case measure => have := HI1.out; simp [intOf]; omega
    · have m1 : ¬ ((i : Int) < (s.size : Int)) := by omega
      have hd := drop_nil s i hlt
      have hn : R = -1 := by
        have he : E = i := by
          rcases HV.out with ⟨e, h⟩ | ⟨e, h⟩
          · rw [hd] at h; exact h
          · rw [hd] at h; exact h
        rw [HR.out, he, hd]; rfl
      have HN := Lib.hid hn
      clear hn hd hexit
      go_wp2
      go_ret
      exact ⟨by rw [HN.out]; rfl, rfl⟩
end Go.Proofs.YtlmgggipkdmdfaaDoor
