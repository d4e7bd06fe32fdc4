/- What the document's own starts, sign and row answer. Conditions: a text's length.
   What the document's own remark answers. Conditions: a text's length; a remark begins there. -/
import Derived.Test.YtgnpkpboilnijaaGreatDoorG11
set_option linter.unusedSimpArgs false
set_option linter.unusedVariables false
namespace Go.Proofs.YtgnpkpboilnijaaGreatDoor
open Go.ChangeShapes Go.WideShapes Go.ChangeAt Go.RowKit
set_option maxRecDepth 100000
set_option linter.unusedVariables false
set_option linter.unusedSimpArgs false

theorem starts_eq (s p : ByteArray) (a : Nat) (h : a + p.size ≤ s.size) : ((s.extract a (a + p.size)).toList == p.toList) = p.data.toList.isPrefixOf (s.data.toList.drop a) := by
  rw [ByteArray.toList_eq, ByteArray.toList_eq]
  have e : (s.extract a (a + p.size)).data.toList = (s.data.toList.drop a).take p.size := by
    rw [ByteArray.data_extract, Array.toList_extract, List.extract_eq_take_drop]
    congr 1
    omega
  rw [e]
  have hp : p.size = p.data.toList.length := rfl
  rw [hp]
  rw [Bool.eq_iff_iff, beq_iff_eq, List.isPrefixOf_iff_prefix, List.prefix_iff_eq_take]
  exact ⟨fun h => h.symm, fun h => h.symm⟩
theorem starts_short (s p : ByteArray) (a : Nat) (h : ¬ a + p.size ≤ s.size) (ha : a ≤ s.size) : p.data.toList.isPrefixOf (s.data.toList.drop a) = false := by
  rw [Bool.eq_false_iff]
  intro hh
  have := (List.isPrefixOf_iff_prefix.1 hh).length_le
  rw [List.length_drop] at this
  have hp : p.size = p.data.toList.length := rfl
  have hs : s.size = s.data.toList.length := rfl
  omega
theorem starts_any (s p : ByteArray) (a : Nat) (w : World) (hs : s.size ≤ 1048576) (hp : p.size ≤ 1048576) (ha : a ≤ s.size) :
    Calls Tryz.prog 45 #[.string s, .int .i64 (a : Int), .string p] w fun e w' => e = .returned (.bool (p.data.toList.isPrefixOf (s.data.toList.drop a))) ∧ w' = w := by
  have l0 : (0 : Int) ≤ (a : Int) := by omega
  obtain ⟨b, hb⟩ : ∃ b, a + p.size = b := ⟨_, rfl⟩
  have cw : IntKind.i64.wrap ((a : Int) + (p.size : Int)) = (b : Int) := by rw [show (a : Int) + (p.size : Int) = (b : Int) by omega]; exact IntWalk.i64_in _ (by omega)
  by_cases h : a + p.size ≤ s.size
  · have e := starts_eq s p a h
    rw [hb] at e
    rw [← e]
    have l1 : (a : Int) ≤ (b : Int) := by omega
    have l2 : (b : Int) ≤ (s.size : Int) := by omega
    have HB := Lib.hid hb
    clear hb e h
    go_enter Tryz.func45, Tryz.ntmps45
    go_wp2
    go_ret
    exact ⟨rfl, rfl⟩
  · rw [starts_short s p a h ha]
    have l2 : ¬ ((b : Int) ≤ (s.size : Int)) := by omega
    have HB := Lib.hid hb
    clear hb h
    go_enter Tryz.func45, Tryz.ntmps45
    go_wp2
    go_ret
    exact ⟨rfl, rfl⟩
/-- the byte at a place -/
theorem byte_at (s : ByteArray) (a : Nat) (h : a < s.size) : s.data.toList.drop a = s[a] :: s.data.toList.drop (a + 1) := List.drop_eq_getElem_cons (by exact h)
theorem rowL_cons (p : UInt8 → Bool) (c : UInt8) (r : Tx) : rowL p (c :: r) = if p c = true then rowL p r + 1 else 0 := by
  unfold rowL
  rw [List.takeWhile_cons]
  split <;> simp_all
/-- which bytes go on, for each kind that the document's own row asks -/
def rowB (k : Int) : UInt8 → Bool := if k = 1 then wordB else if k = 4 then numB else digB
set_option maxHeartbeats 1000000 in
set_option maxRecDepth 100000 in
theorem rrow_any (s : ByteArray) (a : Nat) (k : Int) (hk : k = 1 ∨ k = 4 ∨ k = 0) (w : World) (hs : s.size ≤ 1048576) (ha : a ≤ s.size) :
    Calls Tryz.prog 48 #[.string s, .int .i64 (a : Int), .int .i64 k] w fun e w' => e = .returned (.int .i64 ((a + rowL (rowB k) (s.data.toList.drop a) : Nat) : Int)) ∧ w' = w := by
  obtain ⟨R, hR⟩ : ∃ R, a + rowL (rowB k) (s.data.toList.drop a) = R := ⟨_, rfl⟩
  rw [hR]
  have HR := Lib.hid hR
  have HA := Lib.hid ha
  clear hR
  go_enter Tryz.func48, Tryz.ntmps48
  go_wp2
  go_loop [1] (fun u1 => ∃ i : Nat, i ≤ s.size ∧ u1 = .int .i64 i ∧ R = i + rowL (rowB k) (s.data.toList.drop i)) (fun u1 => s.size - (intOf u1).toNat)
  case atStart => exact ⟨a, HA.out, rfl, HR.out.symm⟩
  case round =>
    obtain ⟨i, hi, rfl, hv⟩ := hrel
    have HV := Lib.hid hv
    clear hv HR HA ha
    by_cases hlt : i < s.size
    · have l0 : (0 : Int) ≤ (i : Int) := by omega
      have l1 : (i : Int) < (s.size : Int) := by omega
      have hd := byte_at s i hlt
      have hv := HV.out
      rw [hd, rowL_cons] at hv
      clear HV hd
      obtain ⟨c, hc⟩ : ∃ c, s[i] = c := ⟨_, rfl⟩
      have hlet := fun w => rlet_any (c.toNat : Int) w
      have hdig := fun w => rdig_any (c.toNat : Int) w
      rw [hc] at hv
      have key : rowB k c = (digN (c.toNat : Int) || ((k == 1) && (letN (c.toNat : Int) || ((c.toNat : Int) == 36))) || ((k == 4) && ((c.toNat : Int) == 46))) := by
        rcases hk with rfl | rfl | rfl
        · show wordN (c.toNat : Int) = _
          unfold wordN
          cases letN (c.toNat : Int) <;> cases digN (c.toNat : Int) <;> simp
        · show numN (c.toNat : Int) = _
          unfold numN
          cases digN (c.toNat : Int) <;> simp
        · show digN (c.toNat : Int) = _
          cases digN (c.toNat : Int) <;> simp
      have HLET := Lib.hid hlet
      have HDIG := Lib.hid hdig
      have HV := Lib.hid hv
      obtain ⟨z, hz⟩ : ∃ z : Int, (c.toNat : Int) = z := ⟨_, rfl⟩
      have hci : ((s[i]'hlt).toNat : Int) = z := by rw [hc, hz]
      simp only [hz] at HLET HDIG key
      clear hlet hdig hv
      have HKEY := Lib.hid key
      clear key
      have HCI := Lib.hid hci
      generalize hbd : digN z = bd at *
      generalize hbl : letN z = bl at *
      have HBD := Lib.hid hbd
      have HBL := Lib.hid hbl
      clear hbd hbl
      rcases hk with rfl | rfl | rfl
      · cases bd with
        | true =>
          have hkk : rowB 1 c = true := by rw [HKEY.out]; simp
          have hv2 := HV.out
          rw [hkk] at hv2
          rw [if_pos rfl] at hv2
          have HV2 := Lib.hid hv2
          clear hkk hv2
          go_wp2_with (first
            | (go_at_call 50; (with_reducible refine (HDIG.out _).mono ?_); rintro e w1 ⟨rfl, hw1⟩; obtain rfl := hw1.symm)
            | (go_at_call 47; (with_reducible refine (HLET.out _).mono ?_); rintro e w1 ⟨rfl, hw1⟩; obtain rfl := hw1.symm))
          go_round
          case rel => exact ⟨i + 1, by omega, by go_num, by rw [HV2.out]; omega⟩
          case measure => simp [intOf]; omega
        | false =>
          cases bl with
          | true =>
            have hkk : rowB 1 c = true := by rw [HKEY.out]; simp
            have hv2 := HV.out
            rw [hkk] at hv2
            rw [if_pos rfl] at hv2
            have HV2 := Lib.hid hv2
            clear hkk hv2
            go_wp2_with (first
            | (go_at_call 50; (with_reducible refine (HDIG.out _).mono ?_); rintro e w1 ⟨rfl, hw1⟩; obtain rfl := hw1.symm)
            | (go_at_call 47; (with_reducible refine (HLET.out _).mono ?_); rintro e w1 ⟨rfl, hw1⟩; obtain rfl := hw1.symm))
            go_round
            case rel => exact ⟨i + 1, by omega, by go_num, by rw [HV2.out]; omega⟩
            case measure => simp [intOf]; omega
          | false =>
            by_cases h36 : z = 36
            · subst h36
              have hkk : rowB 1 c = true := by rw [HKEY.out]; simp
              have hv2 := HV.out
              rw [hkk] at hv2
              rw [if_pos rfl] at hv2
              have HV2 := Lib.hid hv2
              clear hkk hv2
              go_wp2_with (first
            | (go_at_call 50; (with_reducible refine (HDIG.out _).mono ?_); rintro e w1 ⟨rfl, hw1⟩; obtain rfl := hw1.symm)
            | (go_at_call 47; (with_reducible refine (HLET.out _).mono ?_); rintro e w1 ⟨rfl, hw1⟩; obtain rfl := hw1.symm))
              go_round
              case rel => exact ⟨i + 1, by omega, by go_num, by rw [HV2.out]; omega⟩
              case measure => simp [intOf]; omega
            · have e36 : (z == (36 : Int)) = false := by rw [beq_eq_false_iff_ne]; exact h36
              clear h36
              have hkk : rowB 1 c = false := by rw [HKEY.out]; simp [e36]
              have hv2 := HV.out
              rw [hkk] at hv2
              rw [if_neg (by decide)] at hv2
              have HV2 := Lib.hid hv2
              clear hkk hv2
              go_wp2_with (first
            | (go_at_call 50; (with_reducible refine (HDIG.out _).mono ?_); rintro e w1 ⟨rfl, hw1⟩; obtain rfl := hw1.symm)
            | (go_at_call 47; (with_reducible refine (HLET.out _).mono ?_); rintro e w1 ⟨rfl, hw1⟩; obtain rfl := hw1.symm))
              go_ret
              exact ⟨by rw [HV2.out]; rfl, rfl⟩
      · cases bd with
        | true =>
          have hkk : rowB 4 c = true := by rw [HKEY.out]; simp
          have hv2 := HV.out
          rw [hkk] at hv2
          rw [if_pos rfl] at hv2
          have HV2 := Lib.hid hv2
          clear hkk hv2
          go_wp2_with (first
            | (go_at_call 50; (with_reducible refine (HDIG.out _).mono ?_); rintro e w1 ⟨rfl, hw1⟩; obtain rfl := hw1.symm)
            | (go_at_call 47; (with_reducible refine (HLET.out _).mono ?_); rintro e w1 ⟨rfl, hw1⟩; obtain rfl := hw1.symm))
          go_round
          case rel => exact ⟨i + 1, by omega, by go_num, by rw [HV2.out]; omega⟩
          case measure => simp [intOf]; omega
        | false =>
          by_cases h46 : z = 46
          · subst h46
            have hkk : rowB 4 c = true := by rw [HKEY.out]; simp
            have hv2 := HV.out
            rw [hkk] at hv2
            rw [if_pos rfl] at hv2
            have HV2 := Lib.hid hv2
            clear hkk hv2
            go_wp2_with (first
            | (go_at_call 50; (with_reducible refine (HDIG.out _).mono ?_); rintro e w1 ⟨rfl, hw1⟩; obtain rfl := hw1.symm)
            | (go_at_call 47; (with_reducible refine (HLET.out _).mono ?_); rintro e w1 ⟨rfl, hw1⟩; obtain rfl := hw1.symm))
            go_round
            case rel => exact ⟨i + 1, by omega, by go_num, by rw [HV2.out]; omega⟩
            case measure => simp [intOf]; omega
          · have e46 : (z == (46 : Int)) = false := by rw [beq_eq_false_iff_ne]; exact h46
            clear h46
            have hkk : rowB 4 c = false := by rw [HKEY.out]; simp [e46]
            have hv2 := HV.out
            rw [hkk] at hv2
            rw [if_neg (by decide)] at hv2
            have HV2 := Lib.hid hv2
            clear hkk hv2
            go_wp2_with (first
            | (go_at_call 50; (with_reducible refine (HDIG.out _).mono ?_); rintro e w1 ⟨rfl, hw1⟩; obtain rfl := hw1.symm)
            | (go_at_call 47; (with_reducible refine (HLET.out _).mono ?_); rintro e w1 ⟨rfl, hw1⟩; obtain rfl := hw1.symm))
            go_ret
            exact ⟨by rw [HV2.out]; rfl, rfl⟩
      · cases bd with
        | true =>
          have hkk : rowB 0 c = true := by rw [HKEY.out]; simp
          have hv2 := HV.out
          rw [hkk] at hv2
          rw [if_pos rfl] at hv2
          have HV2 := Lib.hid hv2
          clear hkk hv2
          go_wp2_with (first
            | (go_at_call 50; (with_reducible refine (HDIG.out _).mono ?_); rintro e w1 ⟨rfl, hw1⟩; obtain rfl := hw1.symm)
            | (go_at_call 47; (with_reducible refine (HLET.out _).mono ?_); rintro e w1 ⟨rfl, hw1⟩; obtain rfl := hw1.symm))
          go_round
          case rel => exact ⟨i + 1, by omega, by go_num, by rw [HV2.out]; omega⟩
          case measure => simp [intOf]; omega
        | false =>
          have hkk : rowB 0 c = false := by rw [HKEY.out]; simp
          have hv2 := HV.out
          rw [hkk] at hv2
          rw [if_neg (by decide)] at hv2
          have HV2 := Lib.hid hv2
          clear hkk hv2
          go_wp2_with (first
            | (go_at_call 50; (with_reducible refine (HDIG.out _).mono ?_); rintro e w1 ⟨rfl, hw1⟩; obtain rfl := hw1.symm)
            | (go_at_call 47; (with_reducible refine (HLET.out _).mono ?_); rintro e w1 ⟨rfl, hw1⟩; obtain rfl := hw1.symm))
          go_ret
          exact ⟨by rw [HV2.out]; rfl, rfl⟩
    · have l1 : ¬ ((i : Int) < (s.size : Int)) := by omega
      have hd : s.data.toList.drop i = [] := List.drop_eq_nil_of_le (by have : s.size = s.data.toList.length := rfl; omega)
      have hv := HV.out
      rw [hd] at hv
      have HV2 := Lib.hid hv
      clear hv hd HV
      go_wp2
      go_ret
      exact ⟨by rw [HV2.out]; rfl, rfl⟩
end Go.Proofs.YtgnpkpboilnijaaGreatDoor
namespace Go.Proofs.YtgnpkpboilnijaaGreatDoor
open Go.ChangeShapes Go.WideShapes Go.ChangeAt Go.RowKit
set_option maxRecDepth 100000
set_option linter.unusedVariables false
set_option linter.unusedSimpArgs false

theorem pfx2 (x y : UInt8) (l : Tx) : ([x, y].isPrefixOf l = true) ↔ l.take 2 = [x, y] := by
  rw [List.isPrefixOf_iff_prefix, List.prefix_iff_eq_take]
  exact ⟨fun h => h.symm, fun h => h.symm⟩
theorem pfx2_no (x y : UInt8) (l : Tx) : ([x, y].isPrefixOf l = false) ↔ l.take 2 ≠ [x, y] := by
  rw [← Bool.not_eq_true, pfx2]
theorem len2 (x y : UInt8) (s : ByteArray) (a : Nat) (h : (s.data.toList.drop a).take 2 = [x, y]) : a + 2 ≤ s.size := by
  have := congrArg List.length h
  rw [List.length_take, List.length_drop, ← Lib.size_eq] at this
  simp only [List.length_cons, List.length_nil] at this; omega
theorem remL_open (s : ByteArray) (d a : Nat) (h : (s.data.toList.drop a).take 2 = [47, 42]) : (remL (d + 1) (s.data.toList.drop a)).map (· + a) = (remL (d + 2) (s.data.toList.drop (a + 2))).map (· + (a + 2)) := by
  have hl := len2 _ _ s a h
  obtain ⟨c, hc⟩ := drop_cons_ s.data.toList a (by rw [← Lib.size_eq]; omega)
  rw [hc, remL, ← hc, if_pos h, map_add _ _ _ (a + 2) (by omega), List.drop_drop]
theorem remL_shut (s : ByteArray) (d a : Nat) (h : (s.data.toList.drop a).take 2 = [42, 47]) : (remL (d + 1) (s.data.toList.drop a)).map (· + a) = (remL d (s.data.toList.drop (a + 2))).map (· + (a + 2)) := by
  have hl := len2 _ _ s a h
  obtain ⟨c, hc⟩ := drop_cons_ s.data.toList a (by rw [← Lib.size_eq]; omega)
  rw [hc, remL, ← hc, if_neg (by rw [h]; decide), if_pos h, map_add _ _ _ (a + 2) (by omega), List.drop_drop]
theorem remL_on (s : ByteArray) (d a : Nat) (hl : a < s.size) (h1 : (s.data.toList.drop a).take 2 ≠ [47, 42]) (h2 : (s.data.toList.drop a).take 2 ≠ [42, 47]) : (remL (d + 1) (s.data.toList.drop a)).map (· + a) = (remL (d + 1) (s.data.toList.drop (a + 1))).map (· + (a + 1)) := by
  obtain ⟨c, hc⟩ := drop_cons_ s.data.toList a (by rw [← Lib.size_eq]; omega)
  rw [hc, remL, ← hc, if_neg h1, if_neg h2, map_add _ _ _ (a + 1) (by omega)]
/-- where a remark that begins at a place ends -/
def remAt (s : ByteArray) (a : Nat) : Option Nat := (remL 1 (s.data.toList.drop (a + 2))).map (· + (a + 2))
set_option maxHeartbeats 1000000 in
theorem rremark_any (s : ByteArray) (a0 : Nat) (w : World) (hs : s.size ≤ 1048000) (h0 : (s.data.toList.drop a0).take 2 = [47, 42]) :
    Calls Tryz.prog 46 #[.string s, .int .i64 (a0 : Int)] w fun e w' => e = .returned (.int .i64 (remI (remAt s a0))) ∧ w' = w := by
  have hst := fun a p ha hp w => starts_any s p a w (by omega) hp ha
  obtain ⟨R, hR⟩ : ∃ R, remAt s a0 = R := ⟨_, rfl⟩
  rw [hR]
  have HST := Lib.hid hst
  have HR := Lib.hid hR
  have H0 := Lib.hid h0
  have HL0 := Lib.hid (len2 _ _ s a0 h0)
  clear hst hR h0
  go_enter Tryz.func46, Tryz.ntmps46
  go_wp2
  go_loop [1, 5] (fun u1 u5 => ∃ a d : Nat, a ≤ s.size ∧ d ≤ a ∧ u1 = .int .i64 a ∧ u5 = .int .i64 d ∧ ((d = 0 ∧ a = a0) ∨ (0 < d ∧ R = (remL d (s.data.toList.drop a)).map (· + a)))) (fun u1 _ => s.size - (intOf u1).toNat)
  case atStart => exact ⟨a0, 0, by have := HL0.out; omega, Nat.zero_le _, rfl, rfl, .inl ⟨rfl, rfl⟩⟩
  case round =>
    obtain ⟨a, d, ha, hda, rfl, rfl, hv⟩ := hrel
    have HV := Lib.hid hv
    clear hv
    by_cases hlt : a < s.size
    · have l1 : (a : Int) < (s.size : Int) := by omega
      have hst1 : ∀ w, Calls Tryz.prog 45 #[.string s, .int .i64 (a : Int), .string ⟨#[47, 42]⟩] w fun e w' => e = .returned (.bool ([47, 42].isPrefixOf (s.data.toList.drop a))) ∧ w' = w := fun w => HST.out a ⟨#[47, 42]⟩ ha (by show 2 ≤ _; omega) w
      have hst2 : ∀ w, Calls Tryz.prog 45 #[.string s, .int .i64 (a : Int), .string ⟨#[42, 47]⟩] w fun e w' => e = .returned (.bool ([42, 47].isPrefixOf (s.data.toList.drop a))) ∧ w' = w := fun w => HST.out a ⟨#[42, 47]⟩ ha (by show 2 ≤ _; omega) w
      obtain ⟨a2, ha2⟩ : ∃ a2, a + 2 = a2 := ⟨_, rfl⟩
      obtain ⟨a1, ha1⟩ : ∃ a1, a + 1 = a1 := ⟨_, rfl⟩
      obtain ⟨d1, hd1⟩ : ∃ d1, d + 1 = d1 := ⟨_, rfl⟩
      have cw2 : IntKind.i64.wrap ((a : Int) + 2) = (a2 : Int) := by rw [show (a : Int) + 2 = (a2 : Int) by omega]; exact IntWalk.i64_in _ (by omega)
      have cw1 : IntKind.i64.wrap ((a : Int) + 1) = (a1 : Int) := by rw [show (a : Int) + 1 = (a1 : Int) by omega]; exact IntWalk.i64_in _ (by omega)
      have cwd : IntKind.i64.wrap ((d : Int) + 1) = (d1 : Int) := by rw [show (d : Int) + 1 = (d1 : Int) by omega]; exact IntWalk.i64_in _ (by omega)
      have HA2 := Lib.hid ha2
      have HA1 := Lib.hid ha1
      have HD1 := Lib.hid hd1
      clear ha2 ha1 hd1
      cases h1 : ([47, 42] : Tx).isPrefixOf (s.data.toList.drop a) with
      | true =>
        rw [h1] at hst1
        have HS1 := Lib.hid hst1
        have h1' := (pfx2 _ _ _).1 h1
        have hle := len2 _ _ s a h1'
        have hn : R = (remL (d + 1) (s.data.toList.drop (a + 2))).map (· + (a + 2)) := by
          rcases HV.out with ⟨rfl, rfl⟩ | ⟨hp, hv⟩
          · rw [← HR.out]; rfl
          · obtain ⟨e, rfl⟩ : ∃ e, d = e + 1 := ⟨d - 1, by omega⟩
            rw [hv, remL_open s e a h1']
        have HN := Lib.hid hn
        clear hst1 hst2 h1 h1' hn
        go_wp2_with (go_at_call 45; (with_reducible refine (HS1.out _).mono ?_); rintro e w1 ⟨rfl, hw1⟩; obtain rfl := hw1.symm)
        go_round
        case rel => exact ⟨a2, d1, by have := HA2.out; omega, by have := HA2.out; have := HD1.out; omega, rfl, rfl, .inr ⟨by have := HD1.out; omega, by rw [← HA2.out, ← HD1.out]; exact HN.out⟩⟩
        case measure => have := HA2.out; simp [intOf]; omega
      | false =>
        rw [h1] at hst1
        have HS1 := Lib.hid hst1
        have h1' := (pfx2_no _ _ _).1 h1
        have hd0 : 0 < d ∧ R = (remL d (s.data.toList.drop a)).map (· + a) := by
          rcases HV.out with ⟨rfl, rfl⟩ | h
          · exact absurd H0.out h1'
          · exact h
        obtain ⟨hp, hv⟩ := hd0
        obtain ⟨d0, hd0⟩ : ∃ e, d = e + 1 := ⟨d - 1, by omega⟩
        clear HV h1 hst1
        cases h2 : ([42, 47] : Tx).isPrefixOf (s.data.toList.drop a) with
        | true =>
          rw [h2] at hst2
          have HS2 := Lib.hid hst2
          have h2' := (pfx2 _ _ _).1 h2
          have hle := len2 _ _ s a h2'
          have hn : R = (remL d0 (s.data.toList.drop (a + 2))).map (· + (a + 2)) := by rw [hv, hd0, remL_shut s d0 a h2']
          have cwm : IntKind.i64.wrap ((d : Int) - 1) = (d0 : Int) := by rw [show (d : Int) - 1 = (d0 : Int) by omega]; exact IntWalk.i64_in _ (by omega)
          have HN := Lib.hid hn
          have HD0 := Lib.hid hd0
          clear hst2 h2 h2' hn hv hd0 h1'
          by_cases hz : d0 = 0
          · subst hz
            have hn2 : remI R = (a2 : Int) := by rw [HN.out]; rw [remL]; show ((0 + (a + 2) : Nat) : Int) = _; have := HA2.out; omega
            have HN2 := Lib.hid hn2
            have cwm0 : IntKind.i64.wrap ((d : Int) - 1) = 0 := cwm
            clear cwm hn2
            go_wp2_with (first
              | (go_at_call 45; (with_reducible refine (HS1.out _).mono ?_); rintro e w1 ⟨rfl, hw1⟩; obtain rfl := hw1.symm)
              | (go_at_call 45; (with_reducible refine (HS2.out _).mono ?_); rintro e w1 ⟨rfl, hw1⟩; obtain rfl := hw1.symm))
            go_ret
            exact ⟨by rw [HN2.out]; rfl, rfl⟩
          · have hz2 : ((d0 : Int) == 0) = false := by rw [beq_eq_false_iff_ne]; omega
            go_wp2_with (first
              | (go_at_call 45; (with_reducible refine (HS1.out _).mono ?_); rintro e w1 ⟨rfl, hw1⟩; obtain rfl := hw1.symm)
              | (go_at_call 45; (with_reducible refine (HS2.out _).mono ?_); rintro e w1 ⟨rfl, hw1⟩; obtain rfl := hw1.symm))
            go_round
            case rel => exact ⟨a2, d0, by have := HA2.out; omega, by have := HA2.out; have := HD0.out; omega, rfl, rfl, .inr ⟨by omega, by rw [← HA2.out]; exact HN.out⟩⟩
            case measure => have := HA2.out; simp [intOf]; omega
        | false =>
          rw [h2] at hst2
          have HS2 := Lib.hid hst2
          have h2' := (pfx2_no _ _ _).1 h2
          have hn : R = (remL d (s.data.toList.drop (a + 1))).map (· + (a + 1)) := by rw [hv, hd0, remL_on s d0 a hlt h1' h2']
          have HN := Lib.hid hn
          clear hst2 h2 h2' hn hv hd0 h1'
          go_wp2_with (first
            | (go_at_call 45; (with_reducible refine (HS1.out _).mono ?_); rintro e w1 ⟨rfl, hw1⟩; obtain rfl := hw1.symm)
            | (go_at_call 45; (with_reducible refine (HS2.out _).mono ?_); rintro e w1 ⟨rfl, hw1⟩; obtain rfl := hw1.symm))
          go_round
          case rel => exact ⟨a1, d, by have := HA1.out; omega, by have := HA1.out; omega, rfl, rfl, .inr ⟨hp, by rw [← HA1.out]; exact HN.out⟩⟩
          case measure => have := HA1.out; simp [intOf]; omega
    · have l1 : ¬ ((a : Int) < (s.size : Int)) := by omega
      have hd : s.data.toList.drop a = [] := List.drop_eq_nil_of_le (by have : s.size = s.data.toList.length := rfl; omega)
      have hn : R = none := by
        rcases HV.out with ⟨rfl, rfl⟩ | ⟨hp, hv⟩
        · have := HL0.out; omega
        · obtain ⟨e, rfl⟩ : ∃ e, d = e + 1 := ⟨d - 1, by omega⟩
          rw [hv, hd, remL]; rfl
      have HN := Lib.hid hn
      clear hd hn HV HR
      go_wp2
      go_ret
      exact ⟨by rw [HN.out]; rfl, rfl⟩
end Go.Proofs.YtgnpkpboilnijaaGreatDoor
