/- What the document's own starts, sign and row answer. Conditions: a text's length. -/
import Derived.Test.YtlmgggipkdmdfaaDoorLya
namespace Go.Proofs.YtlmgggipkdmdfaaDoor
open Go.ChangeShapes Go.WideShapes Go.ChangeAt Go.RowKit
set_option linter.unusedVariables false
set_option linter.unusedSimpArgs false

theorem starts_eq (s p : ByteArray) (a : Nat) (h : a + p.size ≤ s.size) : ((s.extract a (a + p.size)).toList == p.toList) = p.data.toList.isPrefixOf (s.data.toList.drop a) := by
  rw [ByteArray.toList_eq, ByteArray.toList_eq]
  have e : (s.extract a (a + p.size)).data.toList = (s.data.toList.drop a).take p.size := by
    rw [ByteArray.data_extract, Array.toList_extract, List.extract_eq_take_drop]
    congr 1
    omega
  rw [e]
  have hp : p.size = p.data.toList.length := rfl
  rw [hp]
  rw [Bool.eq_iff_iff, beq_iff_eq, List.isPrefixOf_iff_prefix, List.prefix_iff_eq_take]
  exact ⟨fun h => h.symm, fun h => h.symm⟩
theorem starts_short (s p : ByteArray) (a : Nat) (h : ¬ a + p.size ≤ s.size) (ha : a ≤ s.size) : p.data.toList.isPrefixOf (s.data.toList.drop a) = false := by
  rw [Bool.eq_false_iff]
  intro hh
  have := (List.isPrefixOf_iff_prefix.1 hh).length_le
  rw [List.length_drop] at this
  have hp : p.size = p.data.toList.length := rfl
  have hs : s.size = s.data.toList.length := rfl
  omega
theorem starts_any (s p : ByteArray) (a : Nat) (w : World) (hs : s.size ≤ 1048576) (hp : p.size ≤ 1048576) (ha : a ≤ s.size) :
    Calls Tryd.prog 36 #[.string s, .int .i64 (a : Int), .string p] w fun e w' => e = .returned (.bool (p.data.toList.isPrefixOf (s.data.toList.drop a))) ∧ w' = w := by
  have l0 : (0 : Int) ≤ (a : Int) := by omega
  obtain ⟨b, hb⟩ : ∃ b, a + p.size = b := ⟨_, rfl⟩
  have cw : IntKind.i64.wrap ((a : Int) + (p.size : Int)) = (b : Int) := by rw [show (a : Int) + (p.size : Int) = (b : Int) by omega]; exact IntWalk.i64_in _ (by omega)
  by_cases h : a + p.size ≤ s.size
  · have e := starts_eq s p a h
    rw [hb] at e
    rw [← e]
    have l1 : (a : Int) ≤ (b : Int) := by omega
    have l2 : (b : Int) ≤ (s.size : Int) := by omega
    have HB := Lib.hid hb
    clear hb e h
    go_enter Tryd.func36, Tryd.ntmps36
    go_wp2
    go_ret
    exact ⟨rfl, rfl⟩
  · rw [starts_short s p a h ha]
    have l2 : ¬ ((b : Int) ≤ (s.size : Int)) := by omega
    have HB := Lib.hid hb
    clear hb h
    go_enter Tryd.func36, Tryd.ntmps36
    go_wp2
    go_ret
    exact ⟨rfl, rfl⟩
/-- the byte at a place -/
theorem byte_at (s : ByteArray) (a : Nat) (h : a < s.size) : s.data.toList.drop a = s[a] :: s.data.toList.drop (a + 1) := List.drop_eq_getElem_cons (by exact h)
theorem rowL_cons (p : UInt8 → Bool) (c : UInt8) (r : Tx) : rowL p (c :: r) = if p c = true then rowL p r + 1 else 0 := by
  unfold rowL
  rw [List.takeWhile_cons]
  split <;> simp_all
/-- which bytes go on, for each kind that the document's own row asks -/
def rowB (k : Int) : UInt8 → Bool := if k = 1 then wordB else if k = 4 then numB else digB
set_option maxHeartbeats 1000000 in
set_option maxRecDepth 100000 in
theorem rrow_any (s : ByteArray) (a : Nat) (k : Int) (hk : k = 1 ∨ k = 4 ∨ k = 0) (w : World) (hs : s.size ≤ 1048576) (ha : a ≤ s.size) :
    Calls Tryd.prog 39 #[.string s, .int .i64 (a : Int), .int .i64 k] w fun e w' => e = .returned (.int .i64 ((a + rowL (rowB k) (s.data.toList.drop a) : Nat) : Int)) ∧ w' = w := by
  obtain ⟨R, hR⟩ : ∃ R, a + rowL (rowB k) (s.data.toList.drop a) = R := ⟨_, rfl⟩
  rw [hR]
  have HR := Lib.hid hR
  have HA := Lib.hid ha
  clear hR
  go_enter Tryd.func39, Tryd.ntmps39
  go_wp2
  go_loop [1] (fun u1 => ∃ i : Nat, i ≤ s.size ∧ u1 = .int .i64 i ∧ R = i + rowL (rowB k) (s.data.toList.drop i)) (fun u1 => s.size - (intOf u1).toNat)
  case atStart => exact ⟨a, HA.out, rfl, HR.out.symm⟩
  case round =>
    obtain ⟨i, hi, rfl, hv⟩ := hrel
    have HV := Lib.hid hv
    clear hv HR HA ha
    by_cases hlt : i < s.size
    · have l0 : (0 : Int) ≤ (i : Int) := by omega
      have l1 : (i : Int) < (s.size : Int) := by omega
      have hd := byte_at s i hlt
      have hv := HV.out
      rw [hd, rowL_cons] at hv
      clear HV hd
      obtain ⟨c, hc⟩ : ∃ c, s[i] = c := ⟨_, rfl⟩
      have hlet := fun w => rlet_any (c.toNat : Int) w
      have hdig := fun w => rdig_any (c.toNat : Int) w
      rw [hc] at hv
      have key : rowB k c = (digN (c.toNat : Int) || ((k == 1) && (letN (c.toNat : Int) || ((c.toNat : Int) == 36))) || ((k == 4) && ((c.toNat : Int) == 46))) := by
        rcases hk with rfl | rfl | rfl
        · show wordN (c.toNat : Int) = _
          unfold wordN
          cases letN (c.toNat : Int) <;> cases digN (c.toNat : Int) <;> simp
        · show numN (c.toNat : Int) = _
          unfold numN
          cases digN (c.toNat : Int) <;> simp
        · show digN (c.toNat : Int) = _
          cases digN (c.toNat : Int) <;> simp
      have HLET := Lib.hid hlet
      have HDIG := Lib.hid hdig
      have HV := Lib.hid hv
      obtain ⟨z, hz⟩ : ∃ z : Int, (c.toNat : Int) = z := ⟨_, rfl⟩
      have hci : ((s[i]'hlt).toNat : Int) = z := by rw [hc, hz]
      simp only [hz] at HLET HDIG key
      clear hlet hdig hv
      have HKEY := Lib.hid key
      clear key
      have HCI := Lib.hid hci
      generalize hbd : digN z = bd at *
      generalize hbl : letN z = bl at *
      have HBD := Lib.hid hbd
      have HBL := Lib.hid hbl
      clear hbd hbl
      rcases hk with rfl | rfl | rfl
      · cases bd with
        | true =>
          have hkk : rowB 1 c = true := by rw [HKEY.out]; simp
          have hv2 := HV.out
          rw [hkk] at hv2
          rw [if_pos rfl] at hv2
          have HV2 := Lib.hid hv2
          clear hkk hv2
          go_wp2_with (first
            | (go_at_call 41; (with_reducible refine (HDIG.out _).mono ?_); rintro e w1 ⟨rfl, hw1⟩; obtain rfl := hw1.symm)
            | (go_at_call 38; (with_reducible refine (HLET.out _).mono ?_); rintro e w1 ⟨rfl, hw1⟩; obtain rfl := hw1.symm))
          go_round
          case rel => exact ⟨i + 1, by omega, by go_num, by rw [HV2.out]; omega⟩
          case measure => simp [intOf]; omega
        | false =>
          cases bl with
          | true =>
            have hkk : rowB 1 c = true := by rw [HKEY.out]; simp
            have hv2 := HV.out
            rw [hkk] at hv2
            rw [if_pos rfl] at hv2
            have HV2 := Lib.hid hv2
            clear hkk hv2
            go_wp2_with (first
            | (go_at_call 41; (with_reducible refine (HDIG.out _).mono ?_); rintro e w1 ⟨rfl, hw1⟩; obtain rfl := hw1.symm)
            | (go_at_call 38; (with_reducible refine (HLET.out _).mono ?_); rintro e w1 ⟨rfl, hw1⟩; obtain rfl := hw1.symm))
            go_round
            case rel => exact ⟨i + 1, by omega, by go_num, by rw [HV2.out]; omega⟩
            case measure => simp [intOf]; omega
          | false =>
            by_cases h36 : z = 36
            · subst h36
              have hkk : rowB 1 c = true := by rw [HKEY.out]; simp
              have hv2 := HV.out
              rw [hkk] at hv2
              rw [if_pos rfl] at hv2
              have HV2 := Lib.hid hv2
              clear hkk hv2
              go_wp2_with (first
            | (go_at_call 41; (with_reducible refine (HDIG.out _).mono ?_); rintro e w1 ⟨rfl, hw1⟩; obtain rfl := hw1.symm)
            | (go_at_call 38; (with_reducible refine (HLET.out _).mono ?_); rintro e w1 ⟨rfl, hw1⟩; obtain rfl := hw1.symm))
              go_round
              case rel => exact ⟨i + 1, by omega, by go_num, by rw [HV2.out]; omega⟩
              case measure => simp [intOf]; omega
            · have e36 : (z == (36 : Int)) = false := by rw [beq_eq_false_iff_ne]; exact h36
              clear h36
              have hkk : rowB 1 c = false := by rw [HKEY.out]; simp [e36]
              have hv2 := HV.out
              rw [hkk] at hv2
              rw [if_neg (by decide)] at hv2
              have HV2 := Lib.hid hv2
              clear hkk hv2
              go_wp2_with (first
            | (go_at_call 41; (with_reducible refine (HDIG.out _).mono ?_); rintro e w1 ⟨rfl, hw1⟩; obtain rfl := hw1.symm)
            | (go_at_call 38; (with_reducible refine (HLET.out _).mono ?_); rintro e w1 ⟨rfl, hw1⟩; obtain rfl := hw1.symm))
              go_ret
              exact ⟨by rw [HV2.out]; rfl, rfl⟩
      · cases bd with
        | true =>
          have hkk : rowB 4 c = true := by rw [HKEY.out]; simp
          have hv2 := HV.out
          rw [hkk] at hv2
          rw [if_pos rfl] at hv2
          have HV2 := Lib.hid hv2
          clear hkk hv2
          go_wp2_with (first
            | (go_at_call 41; (with_reducible refine (HDIG.out _).mono ?_); rintro e w1 ⟨rfl, hw1⟩; obtain rfl := hw1.symm)
            | (go_at_call 38; (with_reducible refine (HLET.out _).mono ?_); rintro e w1 ⟨rfl, hw1⟩; obtain rfl := hw1.symm))
          go_round
          case rel => exact ⟨i + 1, by omega, by go_num, by rw [HV2.out]; omega⟩
          case measure => simp [intOf]; omega
        | false =>
          by_cases h46 : z = 46
          · subst h46
            have hkk : rowB 4 c = true := by rw [HKEY.out]; simp
            have hv2 := HV.out
            rw [hkk] at hv2
            rw [if_pos rfl] at hv2
            have HV2 := Lib.hid hv2
            clear hkk hv2
            go_wp2_with (first
            | (go_at_call 41; (with_reducible refine (HDIG.out _).mono ?_); rintro e w1 ⟨rfl, hw1⟩; obtain rfl := hw1.symm)
            | (go_at_call 38; (with_reducible refine (HLET.out _).mono ?_); rintro e w1 ⟨rfl, hw1⟩; obtain rfl := hw1.symm))
            go_round
            case rel => exact ⟨i + 1, by omega, by go_num, by rw [HV2.out]; omega⟩
            case measure => simp [intOf]; omega
          · have e46 : (z == (46 : Int)) = false := by rw [beq_eq_false_iff_ne]; exact h46
            clear h46
            have hkk : rowB 4 c = false := by rw [HKEY.out]; simp [e46]
            have hv2 := HV.out
            rw [hkk] at hv2
            rw [if_neg (by decide)] at hv2
            have HV2 := Lib.hid hv2
            clear hkk hv2
            go_wp2_with (first
            | (go_at_call 41; (with_reducible refine (HDIG.out _).mono ?_); rintro e w1 ⟨rfl, hw1⟩; obtain rfl := hw1.symm)
            | (go_at_call 38; (with_reducible refine (HLET.out _).mono ?_); rintro e w1 ⟨rfl, hw1⟩; obtain rfl := hw1.symm))
            go_ret
            exact ⟨by rw [HV2.out]; rfl, rfl⟩
      · cases bd with
        | true =>
          have hkk : rowB 0 c = true := by rw [HKEY.out]; simp
          have hv2 := HV.out
          rw [hkk] at hv2
          rw [if_pos rfl] at hv2
          have HV2 := Lib.hid hv2
          clear hkk hv2
          go_wp2_with (first
            | (go_at_call 41; (with_reducible refine (HDIG.out _).mono ?_); rintro e w1 ⟨rfl, hw1⟩; obtain rfl := hw1.symm)
            | (go_at_call 38; (with_reducible refine (HLET.out _).mono ?_); rintro e w1 ⟨rfl, hw1⟩; obtain rfl := hw1.symm))
          go_round
          case rel => exact ⟨i + 1, by omega, by go_num, by rw [HV2.out]; omega⟩
          case measure => simp [intOf]; omega
        | false =>
          have hkk : rowB 0 c = false := by rw [HKEY.out]; simp
          have hv2 := HV.out
          rw [hkk] at hv2
          rw [if_neg (by decide)] at hv2
          have HV2 := Lib.hid hv2
          clear hkk hv2
          go_wp2_with (first
            | (go_at_call 41; (with_reducible refine (HDIG.out _).mono ?_); rintro e w1 ⟨rfl, hw1⟩; obtain rfl := hw1.symm)
            | (go_at_call 38; (with_reducible refine (HLET.out _).mono ?_); rintro e w1 ⟨rfl, hw1⟩; obtain rfl := hw1.symm))
          go_ret
          exact ⟨by rw [HV2.out]; rfl, rfl⟩
    · have l1 : ¬ ((i : Int) < (s.size : Int)) := by omega
      have hd : s.data.toList.drop i = [] := List.drop_eq_nil_of_le (by have : s.size = s.data.toList.length := rfl; omega)
      have hv := HV.out
      rw [hd] at hv
      have HV2 := Lib.hid hv
      clear hv hd HV
      go_wp2
      go_ret
      exact ⟨by rw [HV2.out]; rfl, rfl⟩
end Go.Proofs.YtlmgggipkdmdfaaDoor
