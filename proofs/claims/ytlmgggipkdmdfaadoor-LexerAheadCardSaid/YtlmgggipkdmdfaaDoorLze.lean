/- What the document's own quoted, tag and dollar answer. Conditions: a text's length; where they are asked. -/
import Derived.Test.YtlmgggipkdmdfaaDoorLzd
namespace Go.Proofs.YtlmgggipkdmdfaaDoor
open Go.ChangeShapes Go.WideShapes Go.ChangeAt Go.RowKit
set_option linter.unusedVariables false
set_option linter.unusedSimpArgs false

/-- the text in quotes that stand at a place, and the place behind -/
def quoAt (s : ByteArray) (a : Nat) (q : UInt8) : Option (Tx × Nat) := (betL q (s.data.toList.drop (a + 1))).map (fun p => (p.1, p.2 + (a + 1)))
def quoV (o : Option (Tx × Nat)) : Value := match o with
  | some p => .tuple #[.string (bb p.1), .int .i64 (p.2 : Int)]
  | none => .tuple #[.string ⟨#[]⟩, .int .i64 (-1)]
theorem drop_nil (s : ByteArray) (a : Nat) (h : ¬ a < s.size) : s.data.toList.drop a = [] := List.drop_eq_nil_of_le (by have : s.size = s.data.toList.length := rfl; omega)
theorem bet_on (s : ByteArray) (q : UInt8) (i : Nat) (h : i < s.size) (T : Tx) (hc : s[i] ≠ q) : (betL q (s.data.toList.drop i)).map (fun p => (T ++ p.1, p.2 + i)) = (betL q (s.data.toList.drop (i + 1))).map (fun p => ((T ++ [s[i]]) ++ p.1, p.2 + (i + 1))) := by
  rw [byte_at s i h, betL_cons, if_neg hc]
  cases betL q (s.data.toList.drop (i + 1)) with
  | none => rfl
  | some p => simp; omega
theorem bet_two (s : ByteArray) (q : UInt8) (i : Nat) (h : i + 1 < s.size) (T : Tx) (hc : s[i] = q) (hd : s[i + 1] = q) : (betL q (s.data.toList.drop i)).map (fun p => (T ++ p.1, p.2 + i)) = (betL q (s.data.toList.drop (i + 2))).map (fun p => ((T ++ [q]) ++ p.1, p.2 + (i + 2))) := by
  rw [byte_at s i (by omega), betL_cons, if_pos hc, byte_at s (i + 1) h]
  simp only [hd, if_true]
  cases betL q (s.data.toList.drop (i + 1 + 1)) with
  | none => rfl
  | some p => simp; omega
theorem bet_end (s : ByteArray) (q : UInt8) (i : Nat) (h : i < s.size) (T : Tx) (hc : s[i] = q) (hd : ∀ h2 : i + 1 < s.size, s[i + 1] ≠ q) : (betL q (s.data.toList.drop i)).map (fun p => (T ++ p.1, p.2 + i)) = some (T, i + 1) := by
  rw [byte_at s i h, betL_cons, if_pos hc]
  by_cases h2 : i + 1 < s.size
  · rw [byte_at s (i + 1) h2]
    simp only [hd h2, if_false]
    simp; omega
  · rw [drop_nil s (i + 1) h2]
    simp; omega
set_option maxHeartbeats 1000000 in
set_option maxRecDepth 100000 in
theorem rquoted_any (s : ByteArray) (a : Nat) (ha : a < s.size) (w : World) (hs : s.size ≤ 1048000) :
    Calls Tryd.prog 42 #[.string s, .int .i64 (a : Int)] w fun e w' => e = .returned (quoV (quoAt s a s[a])) ∧ w' = w := by
  obtain ⟨q, hq⟩ : ∃ q, s[a] = q := ⟨_, rfl⟩
  rw [hq]
  obtain ⟨qi, hqi⟩ : ∃ z : Int, (q.toNat : Int) = z := ⟨_, rfl⟩
  have hci : ((s[a]'ha).toNat : Int) = qi := by rw [hq, hqi]
  have l0 : (0 : Int) ≤ (a : Int) := by omega
  have l1 : (a : Int) < (s.size : Int) := by omega
  obtain ⟨R, hR⟩ : ∃ R, quoAt s a q = R := ⟨_, rfl⟩
  rw [hR]
  obtain ⟨a1, ha1⟩ : ∃ a1, a + 1 = a1 := ⟨_, rfl⟩
  have cw : IntKind.i64.wrap ((a : Int) + 1) = (a1 : Int) := by rw [show (a : Int) + 1 = (a1 : Int) by omega]; exact IntWalk.i64_in _ (by omega)
  have h0 : R = (betL q (s.data.toList.drop a1)).map (fun p => ([] ++ p.1, p.2 + a1)) := by rw [← hR, ← ha1]; rfl
  have H0 := Lib.hid h0
  have HA1 := Lib.hid ha1
  have HQI := Lib.hid hqi
  clear hR h0 ha1 hq hqi
  go_enter Tryd.func42, Tryd.ntmps42
  go_wp2
  go_loop [7, 8] (fun u7 u8' => ∃ (i : Nat) (T : Tx), i ≤ s.size ∧ T.length ≤ i ∧ u7 = .string (bb T) ∧ u8' = .int .i64 i ∧ R = (betL q (s.data.toList.drop i)).map (fun p => (T ++ p.1, p.2 + i))) (fun _ u8' => s.size - (intOf u8').toNat)
  case atStart => exact ⟨a1, [], by have := HA1.out; omega, Nat.zero_le _, rfl, rfl, H0.out⟩
  case round =>
    obtain ⟨i, T, hi, hT, rfl, rfl, hv⟩ := hrel
    clear hci l0 l1 cw H0 HA1
    have hTs : (bb T).size ≤ 1048000 := by rw [bb_size]; omega
    by_cases hlt : i < s.size
    · have l0 : (0 : Int) ≤ (i : Int) := by omega
      have l1 : (i : Int) < (s.size : Int) := by omega
      obtain ⟨c, hc⟩ : ∃ c, s[i]'hlt = c := ⟨_, rfl⟩
      obtain ⟨z, hz⟩ : ∃ z : Int, (c.toNat : Int) = z := ⟨_, rfl⟩
      have hci : ((s[i]'hlt).toNat : Int) = z := by rw [hc, hz]
      obtain ⟨i1, hi1⟩ : ∃ i1, i + 1 = i1 := ⟨_, rfl⟩
      have cw : IntKind.i64.wrap ((i : Int) + 1) = (i1 : Int) := by rw [show (i : Int) + 1 = (i1 : Int) by omega]; exact IntWalk.i64_in _ (by omega)
      have m1 : (i : Int) ≤ (i1 : Int) := by omega
      have m2 : (i1 : Int) ≤ (s.size : Int) := by omega
      have hxe : s.extract i i1 = bb [c] := by rw [← hi1, ← hc]; exact ext_one s i hlt
      have hxs : (s.extract i i1).size = 1 := by rw [hxe]; rfl
      by_cases hcq : c = q
      · have hzq : z = qi := by have := HQI.out; rw [← hz, hcq]; exact this
        by_cases h2 : i1 < s.size ∧ ∀ h : i1 < s.size, s[i1] = q
        · obtain ⟨h2, h3f⟩ := h2
          have h3 := h3f h2
          clear h3f
          have hci2 : ((s[i1]'h2).toNat : Int) = qi := by rw [h3]; exact HQI.out
          have n0 : (0 : Int) ≤ (i1 : Int) := by omega
          have n1 : (i1 : Int) < (s.size : Int) := by omega
          obtain ⟨i2, hi2⟩ : ∃ i2, i1 + 1 = i2 := ⟨_, rfl⟩
          have cw2 : IntKind.i64.wrap ((i1 : Int) + 1) = (i2 : Int) := by rw [show (i1 : Int) + 1 = (i2 : Int) by omega]; exact IntWalk.i64_in _ (by omega)
          have hn : R = (betL q (s.data.toList.drop i2)).map (fun p => ((T ++ [q]) ++ p.1, p.2 + i2)) := by
            have e : i2 = i + 2 := by omega
            rw [hv, e]
            subst hi1
            exact bet_two s q i h2 T (by rw [hc, hcq]) h3
          have HN := Lib.hid hn
          have HE := Lib.hid (show bb T ++ s.extract i i1 = bb (T ++ [q]) by rw [hxe, bb_app, hcq])
          have HI := Lib.hid (show i2 = i + 2 ∧ i2 ≤ s.size by omega)
          subst hzq
          clear hn hv hxe hi1 hi2 hcq hc hz h3
          generalize bb T = TT at *
          go_wp2
          go_round
          case rel => exact ⟨i2, T ++ [q], by have := HI.out; omega, by have := HI.out; rw [List.length_append, List.length_singleton]; omega, by rw [HE.out], rfl, HN.out⟩
          case measure => have := HI.out; simp [intOf]; omega
        · have hn : R = some (T, i1) := by
            rw [hv, ← hi1]
            refine bet_end s q i hlt T (by rw [hc, hcq]) fun h4 h5 => h2 ⟨by omega, fun h => ?_⟩
            subst hi1; exact h5
          have HN := Lib.hid hn
          subst hzq
          by_cases h4 : i1 < s.size
          · obtain ⟨y, hy⟩ : ∃ y : Int, ((s[i1]'h4).toNat : Int) = y := ⟨_, rfl⟩
            have hyq : (y == z) = false := by
              rw [beq_eq_false_iff_ne]
              intro h
              exact h2 ⟨h4, fun _ => UInt8.toNat_inj.1 (by have := HQI.out; omega)⟩
            have n0 : (0 : Int) ≤ (i1 : Int) := by omega
            have n1 : (i1 : Int) < (s.size : Int) := by omega
            clear hn hv hxe hi1 hcq hc hz h2
            go_wp2
            go_ret2
            exact ⟨by rw [HN.out]; rfl, rfl⟩
          · have n1 : ¬ ((i1 : Int) < (s.size : Int)) := by omega
            clear hn hv hxe hi1 hcq hc hz h2
            go_wp2
            go_ret2
            exact ⟨by rw [HN.out]; rfl, rfl⟩
      · have hzq : (z != qi) = true := by
          rw [bne_iff_ne]
          intro h
          exact hcq (UInt8.toNat_inj.1 (by have := HQI.out; omega))
        have hn : R = (betL q (s.data.toList.drop i1)).map (fun p => ((T ++ [c]) ++ p.1, p.2 + i1)) := by
          rw [hv, ← hi1, bet_on s q i hlt T (by rw [hc]; exact hcq), hc]
        have HN := Lib.hid hn
        have HE := Lib.hid (show bb T ++ s.extract i i1 = bb (T ++ [c]) by rw [hxe, bb_app])
        have HI := Lib.hid (show i1 = i + 1 by omega)
        clear hn hv hxe hi1 hcq hc hz
        generalize bb T = TT at *
        go_wp2
        go_round
        case rel => exact ⟨i1, T ++ [c], by have := HI.out; omega, by have := HI.out; rw [List.length_append, List.length_singleton]; omega, by rw [HE.out], rfl, HN.out⟩
        case measure => have := HI.out; simp [intOf]; omega
    · have l1 : ¬ ((i : Int) < (s.size : Int)) := by omega
      have hn : R = none := by rw [hv, drop_nil s i hlt]; rfl
      have HN := Lib.hid hn
      clear hn hv
      go_wp2
      go_ret2
      exact ⟨by rw [HN.out]; rfl, rfl⟩
end Go.Proofs.YtlmgggipkdmdfaaDoor
