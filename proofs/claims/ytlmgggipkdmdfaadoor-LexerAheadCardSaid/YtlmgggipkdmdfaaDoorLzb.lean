/- What the document's own remark answers. Conditions: a text's length; a remark begins there. -/
import Derived.Test.YtlmgggipkdmdfaaDoorLza
namespace Go.Proofs.YtlmgggipkdmdfaaDoor
open Go.ChangeShapes Go.WideShapes Go.ChangeAt Go.RowKit
set_option linter.unusedVariables false
set_option linter.unusedSimpArgs false

theorem pfx2 (x y : UInt8) (l : Tx) : ([x, y].isPrefixOf l = true) ↔ l.take 2 = [x, y] := by
  rw [List.isPrefixOf_iff_prefix, List.prefix_iff_eq_take]
  exact ⟨fun h => h.symm, fun h => h.symm⟩
theorem pfx2_no (x y : UInt8) (l : Tx) : ([x, y].isPrefixOf l = false) ↔ l.take 2 ≠ [x, y] := by
  rw [← Bool.not_eq_true, pfx2]
theorem len2 (x y : UInt8) (s : ByteArray) (a : Nat) (h : (s.data.toList.drop a).take 2 = [x, y]) : a + 2 ≤ s.size := by
  have := congrArg List.length h
  rw [List.length_take, List.length_drop, ← Lib.size_eq] at this
  simp only [List.length_cons, List.length_nil] at this; omega
theorem remL_open (s : ByteArray) (d a : Nat) (h : (s.data.toList.drop a).take 2 = [47, 42]) : (remL (d + 1) (s.data.toList.drop a)).map (· + a) = (remL (d + 2) (s.data.toList.drop (a + 2))).map (· + (a + 2)) := by
  have hl := len2 _ _ s a h
  obtain ⟨c, hc⟩ := drop_cons_ s.data.toList a (by rw [← Lib.size_eq]; omega)
  rw [hc, remL, ← hc, if_pos h, map_add _ _ _ (a + 2) (by omega), List.drop_drop]
theorem remL_shut (s : ByteArray) (d a : Nat) (h : (s.data.toList.drop a).take 2 = [42, 47]) : (remL (d + 1) (s.data.toList.drop a)).map (· + a) = (remL d (s.data.toList.drop (a + 2))).map (· + (a + 2)) := by
  have hl := len2 _ _ s a h
  obtain ⟨c, hc⟩ := drop_cons_ s.data.toList a (by rw [← Lib.size_eq]; omega)
  rw [hc, remL, ← hc, if_neg (by rw [h]; decide), if_pos h, map_add _ _ _ (a + 2) (by omega), List.drop_drop]
theorem remL_on (s : ByteArray) (d a : Nat) (hl : a < s.size) (h1 : (s.data.toList.drop a).take 2 ≠ [47, 42]) (h2 : (s.data.toList.drop a).take 2 ≠ [42, 47]) : (remL (d + 1) (s.data.toList.drop a)).map (· + a) = (remL (d + 1) (s.data.toList.drop (a + 1))).map (· + (a + 1)) := by
  obtain ⟨c, hc⟩ := drop_cons_ s.data.toList a (by rw [← Lib.size_eq]; omega)
  rw [hc, remL, ← hc, if_neg h1, if_neg h2, map_add _ _ _ (a + 1) (by omega)]
/-- where a remark that begins at a place ends -/
def remAt (s : ByteArray) (a : Nat) : Option Nat := (remL 1 (s.data.toList.drop (a + 2))).map (· + (a + 2))
set_option maxHeartbeats 1000000 in
theorem rremark_any (s : ByteArray) (a0 : Nat) (w : World) (hs : s.size ≤ 1048000) (h0 : (s.data.toList.drop a0).take 2 = [47, 42]) :
    Calls Tryd.prog 37 #[.string s, .int .i64 (a0 : Int)] w fun e w' => e = .returned (.int .i64 (remI (remAt s a0))) ∧ w' = w := by
  have hst := fun a p ha hp w => starts_any s p a w (by omega) hp ha
  obtain ⟨R, hR⟩ : ∃ R, remAt s a0 = R := ⟨_, rfl⟩
  rw [hR]
  have HST := Lib.hid hst
  have HR := Lib.hid hR
  have H0 := Lib.hid h0
  have HL0 := Lib.hid (len2 _ _ s a0 h0)
  clear hst hR h0
  go_enter Tryd.func37, Tryd.ntmps37
  go_wp2
  go_loop [1, 5] (fun u1 u5 => ∃ a d : Nat, a ≤ s.size ∧ d ≤ a ∧ u1 = .int .i64 a ∧ u5 = .int .i64 d ∧ ((d = 0 ∧ a = a0) ∨ (0 < d ∧ R = (remL d (s.data.toList.drop a)).map (· + a)))) (fun u1 _ => s.size - (intOf u1).toNat)
  case atStart => exact ⟨a0, 0, by have := HL0.out; omega, Nat.zero_le _, rfl, rfl, .inl ⟨rfl, rfl⟩⟩
  case round =>
    obtain ⟨a, d, ha, hda, rfl, rfl, hv⟩ := hrel
    have HV := Lib.hid hv
    clear hv
    by_cases hlt : a < s.size
    · have l1 : (a : Int) < (s.size : Int) := by omega
      have hst1 : ∀ w, Calls Tryd.prog 36 #[.string s, .int .i64 (a : Int), .string ⟨#[47, 42]⟩] w fun e w' => e = .returned (.bool ([47, 42].isPrefixOf (s.data.toList.drop a))) ∧ w' = w := fun w => HST.out a ⟨#[47, 42]⟩ ha (by show 2 ≤ _; omega) w
      have hst2 : ∀ w, Calls Tryd.prog 36 #[.string s, .int .i64 (a : Int), .string ⟨#[42, 47]⟩] w fun e w' => e = .returned (.bool ([42, 47].isPrefixOf (s.data.toList.drop a))) ∧ w' = w := fun w => HST.out a ⟨#[42, 47]⟩ ha (by show 2 ≤ _; omega) w
      obtain ⟨a2, ha2⟩ : ∃ a2, a + 2 = a2 := ⟨_, rfl⟩
      obtain ⟨a1, ha1⟩ : ∃ a1, a + 1 = a1 := ⟨_, rfl⟩
      obtain ⟨d1, hd1⟩ : ∃ d1, d + 1 = d1 := ⟨_, rfl⟩
      have cw2 : IntKind.i64.wrap ((a : Int) + 2) = (a2 : Int) := by rw [show (a : Int) + 2 = (a2 : Int) by omega]; exact IntWalk.i64_in _ (by omega)
      have cw1 : IntKind.i64.wrap ((a : Int) + 1) = (a1 : Int) := by rw [show (a : Int) + 1 = (a1 : Int) by omega]; exact IntWalk.i64_in _ (by omega)
      have cwd : IntKind.i64.wrap ((d : Int) + 1) = (d1 : Int) := by rw [show (d : Int) + 1 = (d1 : Int) by omega]; exact IntWalk.i64_in _ (by omega)
      have HA2 := Lib.hid ha2
      have HA1 := Lib.hid ha1
      have HD1 := Lib.hid hd1
      clear ha2 ha1 hd1
      cases h1 : ([47, 42] : Tx).isPrefixOf (s.data.toList.drop a) with
      | true =>
        rw [h1] at hst1
        have HS1 := Lib.hid hst1
        have h1' := (pfx2 _ _ _).1 h1
        have hle := len2 _ _ s a h1'
        have hn : R = (remL (d + 1) (s.data.toList.drop (a + 2))).map (· + (a + 2)) := by
          rcases HV.out with ⟨rfl, rfl⟩ | ⟨hp, hv⟩
          · rw [← HR.out]; rfl
          · obtain ⟨e, rfl⟩ : ∃ e, d = e + 1 := ⟨d - 1, by omega⟩
            rw [hv, remL_open s e a h1']
        have HN := Lib.hid hn
        clear hst1 hst2 h1 h1' hn
        go_wp2_with (go_at_call 36; (with_reducible refine (HS1.out _).mono ?_); rintro e w1 ⟨rfl, hw1⟩; obtain rfl := hw1.symm)
        go_round
        case rel => exact ⟨a2, d1, by have := HA2.out; omega, by have := HA2.out; have := HD1.out; omega, rfl, rfl, .inr ⟨by have := HD1.out; omega, by rw [← HA2.out, ← HD1.out]; exact HN.out⟩⟩
        case measure => have := HA2.out; simp [intOf]; omega
      | false =>
        rw [h1] at hst1
        have HS1 := Lib.hid hst1
        have h1' := (pfx2_no _ _ _).1 h1
        have hd0 : 0 < d ∧ R = (remL d (s.data.toList.drop a)).map (· + a) := by
          rcases HV.out with ⟨rfl, rfl⟩ | h
          · exact absurd H0.out h1'
          · exact h
        obtain ⟨hp, hv⟩ := hd0
        obtain ⟨d0, hd0⟩ : ∃ e, d = e + 1 := ⟨d - 1, by omega⟩
        clear HV h1 hst1
        cases h2 : ([42, 47] : Tx).isPrefixOf (s.data.toList.drop a) with
        | true =>
          rw [h2] at hst2
          have HS2 := Lib.hid hst2
          have h2' := (pfx2 _ _ _).1 h2
          have hle := len2 _ _ s a h2'
          have hn : R = (remL d0 (s.data.toList.drop (a + 2))).map (· + (a + 2)) := by rw [hv, hd0, remL_shut s d0 a h2']
          have cwm : IntKind.i64.wrap ((d : Int) - 1) = (d0 : Int) := by rw [show (d : Int) - 1 = (d0 : Int) by omega]; exact IntWalk.i64_in _ (by omega)
          have HN := Lib.hid hn
          have HD0 := Lib.hid hd0
          clear hst2 h2 h2' hn hv hd0 h1'
          by_cases hz : d0 = 0
          · subst hz
            have hn2 : remI R = (a2 : Int) := by rw [HN.out]; rw [remL]; show ((0 + (a + 2) : Nat) : Int) = _; have := HA2.out; omega
            have HN2 := Lib.hid hn2
            have cwm0 : IntKind.i64.wrap ((d : Int) - 1) = 0 := cwm
            clear cwm hn2
            go_wp2_with (first
              | (go_at_call 36; (with_reducible refine (HS1.out _).mono ?_); rintro e w1 ⟨rfl, hw1⟩; obtain rfl := hw1.symm)
              | (go_at_call 36; (with_reducible refine (HS2.out _).mono ?_); rintro e w1 ⟨rfl, hw1⟩; obtain rfl := hw1.symm))
            go_ret
            exact ⟨by rw [HN2.out]; rfl, rfl⟩
          · have hz2 : ((d0 : Int) == 0) = false := by rw [beq_eq_false_iff_ne]; omega
            go_wp2_with (first
              | (go_at_call 36; (with_reducible refine (HS1.out _).mono ?_); rintro e w1 ⟨rfl, hw1⟩; obtain rfl := hw1.symm)
              | (go_at_call 36; (with_reducible refine (HS2.out _).mono ?_); rintro e w1 ⟨rfl, hw1⟩; obtain rfl := hw1.symm))
            go_round
            case rel => exact ⟨a2, d0, by have := HA2.out; omega, by have := HA2.out; have := HD0.out; omega, rfl, rfl, .inr ⟨by omega, by rw [← HA2.out]; exact HN.out⟩⟩
            case measure => have := HA2.out; simp [intOf]; omega
        | false =>
          rw [h2] at hst2
          have HS2 := Lib.hid hst2
          have h2' := (pfx2_no _ _ _).1 h2
          have hn : R = (remL d (s.data.toList.drop (a + 1))).map (· + (a + 1)) := by rw [hv, hd0, remL_on s d0 a hlt h1' h2']
          have HN := Lib.hid hn
          clear hst2 h2 h2' hn hv hd0 h1'
          go_wp2_with (first
            | (go_at_call 36; (with_reducible refine (HS1.out _).mono ?_); rintro e w1 ⟨rfl, hw1⟩; obtain rfl := hw1.symm)
            | (go_at_call 36; (with_reducible refine (HS2.out _).mono ?_); rintro e w1 ⟨rfl, hw1⟩; obtain rfl := hw1.symm))
          go_round
          case rel => exact ⟨a1, d, by have := HA1.out; omega, by have := HA1.out; omega, rfl, rfl, .inr ⟨hp, by rw [← HA1.out]; exact HN.out⟩⟩
          case measure => have := HA1.out; simp [intOf]; omega
    · have l1 : ¬ ((a : Int) < (s.size : Int)) := by omega
      have hd : s.data.toList.drop a = [] := List.drop_eq_nil_of_le (by have : s.size = s.data.toList.length := rfl; omega)
      have hn : R = none := by
        rcases HV.out with ⟨rfl, rfl⟩ | ⟨hp, hv⟩
        · have := HL0.out; omega
        · obtain ⟨e, rfl⟩ : ∃ e, d = e + 1 := ⟨d - 1, by omega⟩
          rw [hv, hd, remL]; rfl
      have HN := Lib.hid hn
      clear hd hn HV HR
      go_wp2
      go_ret
      exact ⟨by rw [HN.out]; rfl, rfl⟩
end Go.Proofs.YtlmgggipkdmdfaaDoor
