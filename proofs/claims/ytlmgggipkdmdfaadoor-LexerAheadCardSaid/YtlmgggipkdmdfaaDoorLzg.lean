/- What the document's own dollar answers. Conditions: a text's length; where it is asked. -/
import Derived.Test.YtlmgggipkdmdfaaDoorLzf
namespace Go.Proofs.YtlmgggipkdmdfaaDoor
open Go.ChangeShapes Go.WideShapes Go.ChangeAt Go.RowKit
set_option linter.unusedVariables false
set_option linter.unusedSimpArgs false

/-- the text that a tag begins, and the place behind -/
def dolAt (s : ByteArray) (a t : Nat) : Option (Tx × Nat) :=
  if 0 ≤ Lib.index (s.data.toList.drop t) (s.extract a t).data.toList then
    some ((s.data.toList.drop t).take (Lib.index (s.data.toList.drop t) (s.extract a t).data.toList).toNat, t + (Lib.index (s.data.toList.drop t) (s.extract a t).data.toList).toNat + (t - a)) else none
theorem idx_cons (b : UInt8) (l m : Tx) : Lib.index (b :: l) m = if m.isPrefixOf (b :: l) = true then 0 else if Lib.index l m = -1 then -1 else Lib.index l m + 1 := by
  rw [Lib.index]
  by_cases h : m.isPrefixOf (b :: l) = true
  · rw [if_pos h, if_pos h]
  · rw [if_neg h, if_neg h]
    by_cases h2 : Lib.index l m = -1
    · rw [if_pos h2, if_pos (by rw [h2]; rfl)]
    · rw [if_neg h2, if_neg (by rw [beq_iff_eq]; exact h2)]
theorem idx_nil (m : Tx) (h : m ≠ []) : Lib.index [] m = -1 := by
  rw [Lib.index, if_neg]
  cases m with
  | nil => exact absurd rfl h
  | cons => simp
theorem ext_to (s : ByteArray) (t i : Nat) (h : i ≤ s.size) : s.extract t i = bb ((s.data.toList.drop t).take (i - t)) := by
  apply ByteArray.ext
  apply Array.ext'
  rw [ByteArray.data_extract, Array.toList_extract, List.extract_eq_take_drop]
set_option maxHeartbeats 1000000 in
set_option maxRecDepth 100000 in
theorem rdollar_any (s : ByteArray) (a t : Nat) (hat : a < t) (ht : t ≤ s.size) (w : World) (hs : s.size ≤ 1048000) :
    Calls Tryd.prog 44 #[.string s, .int .i64 (a : Int), .int .i64 (t : Int)] w fun e w' => e = .returned (quoV (dolAt s a t)) ∧ w' = w := by
  have hms : (s.extract a t).size ≤ 1048000 := by rw [ByteArray.size_extract]; omega
  have hmn : (s.extract a t).data.toList ≠ [] := by
    intro h
    have := congrArg List.length h
    have e : (s.extract a t).data.toList.length = (s.extract a t).size := rfl
    rw [e, ByteArray.size_extract] at this
    simp at this; omega
  have hst := fun i hi w => starts_any s (s.extract a t) i w (by omega) (by omega) hi
  obtain ⟨D, hD⟩ : ∃ D, Lib.index (s.data.toList.drop t) (s.extract a t).data.toList = D := ⟨_, rfl⟩
  have hR : dolAt s a t = if 0 ≤ D then some ((s.data.toList.drop t).take D.toNat, t + D.toNat + (t - a)) else none := by rw [← hD]; rfl
  obtain ⟨R, hR1⟩ : ∃ R, dolAt s a t = R := ⟨_, rfl⟩
  rw [hR1] at hR
  rw [hR1]
  have l0 : (0 : Int) ≤ (a : Int) := by omega
  have l1 : (a : Int) ≤ (t : Int) := by omega
  have l2 : (t : Int) ≤ (s.size : Int) := by omega
  have hge := Lib.index_ge
  have HR := Lib.hid hR
  have HD := Lib.hid hD
  have HST := Lib.hid hst
  have HMN := Lib.hid hmn
  clear hR hR1 hD hst hmn hge
  go_enter Tryd.func44, Tryd.ntmps44
  go_wp2
  go_loop [8] (fun u8' => ∃ i : Nat, t ≤ i ∧ i ≤ s.size + 1 ∧ u8' = .int .i64 i ∧ ((i ≤ s.size ∧ D = if Lib.index (s.data.toList.drop i) (s.extract a t).data.toList = -1 then -1 else ((i - t : Nat) : Int) + Lib.index (s.data.toList.drop i) (s.extract a t).data.toList) ∨ (s.size < i ∧ D = -1))) (fun u8' => s.size + 1 - (intOf u8').toNat)
  case atStart =>
    refine ⟨t, Nat.le_refl _, by omega, rfl, .inl ⟨ht, ?_⟩⟩
    rw [HD.out, Nat.sub_self]
    by_cases h : D = -1
    · rw [if_pos h]; exact h
    · rw [if_neg h]; omega
  case round =>
    obtain ⟨i, hti, hi, rfl, hv⟩ := hrel
    have HV := Lib.hid hv
    clear hv HD
    by_cases hle : i ≤ s.size
    · have m1 : (i : Int) ≤ (s.size : Int) := by omega
      have m2 : (t : Int) ≤ (i : Int) := by omega
      have m0 : (0 : Int) ≤ (i : Int) := by omega
      have hcall := HST.out i hle
      have hv : D = if Lib.index (s.data.toList.drop i) (s.extract a t).data.toList = -1 then -1 else ((i - t : Nat) : Int) + Lib.index (s.data.toList.drop i) (s.extract a t).data.toList := by
        rcases HV.out with ⟨_, h⟩ | ⟨h, _⟩
        · exact h
        · omega
      cases hb : (s.extract a t).data.toList.isPrefixOf (s.data.toList.drop i) with
      | true =>
        rw [hb] at hcall
        have hlt : i < s.size := by
          rcases Nat.lt_or_ge i s.size with h | h
          · exact h
          · rw [drop_nil s i (by omega)] at hb
            have := (List.isPrefixOf_iff_prefix.1 hb).length_le
            exact absurd (List.eq_nil_of_length_eq_zero (by simpa using this)) HMN.out
        have hidx : Lib.index (s.data.toList.drop i) (s.extract a t).data.toList = 0 := by
          rw [byte_at s i hlt] at hb ⊢
          rw [idx_cons, if_pos hb]
        rw [hidx, if_neg (by omega)] at hv
        have hn : R = some ((s.data.toList.drop t).take (i - t), i + (t - a)) := by
          have hDn : D.toNat = i - t := by omega
          rw [HR.out, if_pos (by omega), hDn]
          congr 2
          omega
        have hxe := ext_to s t i hle
        obtain ⟨b, hbb⟩ : ∃ b, i + t = b := ⟨_, rfl⟩
        obtain ⟨c, hcc⟩ : ∃ c, i + (t - a) = c := ⟨_, rfl⟩
        have cw1 : IntKind.i64.wrap ((i : Int) + (t : Int)) = (b : Int) := by rw [show (i : Int) + (t : Int) = (b : Int) by omega]; exact IntWalk.i64_in _ (by omega)
        have cw2 : IntKind.i64.wrap ((b : Int) - (a : Int)) = (c : Int) := by rw [show (b : Int) - (a : Int) = (c : Int) by omega]; exact IntWalk.i64_in _ (by omega)
        rw [hcc] at hn
        have HN := Lib.hid hn
        have HXE := Lib.hid hxe
        have HC := Lib.hid hcall
        clear hv hb hidx hn hxe hbb hcc hcall HV
        go_wp2_with (go_at_call 36; (with_reducible refine (HC.out _).mono ?_); rintro e w1 ⟨rfl, hw1⟩; obtain rfl := hw1.symm)
        go_ret2
        exact ⟨by rw [HN.out, HXE.out]; rfl, rfl⟩
      | false =>
        rw [hb] at hcall
        have hn : ((i + 1 ≤ s.size ∧ D = if Lib.index (s.data.toList.drop (i + 1)) (s.extract a t).data.toList = -1 then -1 else ((i + 1 - t : Nat) : Int) + Lib.index (s.data.toList.drop (i + 1)) (s.extract a t).data.toList) ∨ (s.size < i + 1 ∧ D = -1)) := by
          by_cases hlt : i < s.size
          · left
            refine ⟨hlt, ?_⟩
            have hix : Lib.index (s.data.toList.drop i) (s.extract a t).data.toList = if Lib.index (s.data.toList.drop (i + 1)) (s.extract a t).data.toList = -1 then -1 else Lib.index (s.data.toList.drop (i + 1)) (s.extract a t).data.toList + 1 := by
              rw [byte_at s i hlt] at hb ⊢
              rw [idx_cons, if_neg]
              rw [hb]; simp
            rw [hix] at hv
            by_cases h1 : Lib.index (s.data.toList.drop (i + 1)) (s.extract a t).data.toList = -1
            · rw [if_pos h1, if_pos rfl] at hv; rw [if_pos h1]; exact hv
            · have hge := Lib.index_ge (s.data.toList.drop (i + 1)) (s.extract a t).data.toList
              rw [if_neg h1, if_neg (by omega)] at hv
              rw [if_neg h1]; omega
          · right
            rw [drop_nil s i hlt, idx_nil _ HMN.out, if_pos rfl] at hv
            exact ⟨by omega, hv⟩
        have HN := Lib.hid hn
        have HC := Lib.hid hcall
        clear hv hb hn hcall HV
        go_wp2_with (go_at_call 36; (with_reducible refine (HC.out _).mono ?_); rintro e w1 ⟨rfl, hw1⟩; obtain rfl := hw1.symm)
        go_round
        case rel => exact ⟨i + 1, by omega, by omega, by go_num, HN.out⟩
        case measure => simp [intOf]; omega
    · have m1 : ¬ ((i : Int) ≤ (s.size : Int)) := by omega
      have hn : R = none := by
        rcases HV.out with ⟨h, _⟩ | ⟨_, h⟩
        · omega
        · rw [HR.out, if_neg (by omega)]
      have HN := Lib.hid hn
      clear hn HV
      go_wp2
      go_ret2
      exact ⟨by rw [HN.out]; rfl, rfl⟩
end Go.Proofs.YtlmgggipkdmdfaaDoor
