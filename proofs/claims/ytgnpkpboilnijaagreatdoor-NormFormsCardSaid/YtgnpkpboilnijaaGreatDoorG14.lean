/- What the document's own quoted, tag and dollar answer. Conditions: a text's length; where they are asked.
   What the document's own tag and dollar answer. Conditions: a text's length; where they are asked.
   What the document's own dollar answers. Conditions: a text's length; where it is asked.
   What the document's own one answers at a letter, and at a digit. Conditions: a text's length. -/
import Derived.Test.YtgnpkpboilnijaaGreatDoorG13
set_option linter.unusedSimpArgs false
set_option linter.unusedVariables false
namespace Go.Proofs.YtgnpkpboilnijaaGreatDoor
open Go.ChangeShapes Go.WideShapes Go.ChangeAt Go.RowKit
set_option maxRecDepth 100000
set_option linter.unusedVariables false
set_option linter.unusedSimpArgs false

/-- the text in quotes that stand at a place, and the place behind -/
def quoAt (s : ByteArray) (a : Nat) (q : UInt8) : Option (Tx × Nat) := (betL q (s.data.toList.drop (a + 1))).map (fun p => (p.1, p.2 + (a + 1)))
def quoV (o : Option (Tx × Nat)) : Value := match o with
  | some p => .tuple #[.string (bb p.1), .int .i64 (p.2 : Int)]
  | none => .tuple #[.string ⟨#[]⟩, .int .i64 (-1)]
theorem drop_nil (s : ByteArray) (a : Nat) (h : ¬ a < s.size) : s.data.toList.drop a = [] := List.drop_eq_nil_of_le (by have : s.size = s.data.toList.length := rfl; omega)
theorem bet_on (s : ByteArray) (q : UInt8) (i : Nat) (h : i < s.size) (T : Tx) (hc : s[i] ≠ q) : (betL q (s.data.toList.drop i)).map (fun p => (T ++ p.1, p.2 + i)) = (betL q (s.data.toList.drop (i + 1))).map (fun p => ((T ++ [s[i]]) ++ p.1, p.2 + (i + 1))) := by
  rw [byte_at s i h, betL_cons, if_neg hc]
  cases betL q (s.data.toList.drop (i + 1)) with
  | none => rfl
  | some p => simp; omega
theorem bet_two (s : ByteArray) (q : UInt8) (i : Nat) (h : i + 1 < s.size) (T : Tx) (hc : s[i] = q) (hd : s[i + 1] = q) : (betL q (s.data.toList.drop i)).map (fun p => (T ++ p.1, p.2 + i)) = (betL q (s.data.toList.drop (i + 2))).map (fun p => ((T ++ [q]) ++ p.1, p.2 + (i + 2))) := by
  rw [byte_at s i (by omega), betL_cons, if_pos hc, byte_at s (i + 1) h]
  simp only [hd, if_true]
  cases betL q (s.data.toList.drop (i + 1 + 1)) with
  | none => rfl
  | some p => simp; omega
theorem bet_end (s : ByteArray) (q : UInt8) (i : Nat) (h : i < s.size) (T : Tx) (hc : s[i] = q) (hd : ∀ h2 : i + 1 < s.size, s[i + 1] ≠ q) : (betL q (s.data.toList.drop i)).map (fun p => (T ++ p.1, p.2 + i)) = some (T, i + 1) := by
  rw [byte_at s i h, betL_cons, if_pos hc]
  by_cases h2 : i + 1 < s.size
  · rw [byte_at s (i + 1) h2]
    simp only [hd h2, if_false]
    simp; omega
  · rw [drop_nil s (i + 1) h2]
    simp; omega
set_option maxHeartbeats 1000000 in
set_option maxRecDepth 100000 in
theorem rquoted_any (s : ByteArray) (a : Nat) (ha : a < s.size) (w : World) (hs : s.size ≤ 1048000) :
    Calls Tryz.prog 51 #[.string s, .int .i64 (a : Int)] w fun e w' => e = .returned (quoV (quoAt s a s[a])) ∧ w' = w := by
  obtain ⟨q, hq⟩ : ∃ q, s[a] = q := ⟨_, rfl⟩
  rw [hq]
  obtain ⟨qi, hqi⟩ : ∃ z : Int, (q.toNat : Int) = z := ⟨_, rfl⟩
  have hci : ((s[a]'ha).toNat : Int) = qi := by rw [hq, hqi]
  have l0 : (0 : Int) ≤ (a : Int) := by omega
  have l1 : (a : Int) < (s.size : Int) := by omega
  obtain ⟨R, hR⟩ : ∃ R, quoAt s a q = R := ⟨_, rfl⟩
  rw [hR]
  obtain ⟨a1, ha1⟩ : ∃ a1, a + 1 = a1 := ⟨_, rfl⟩
  have cw : IntKind.i64.wrap ((a : Int) + 1) = (a1 : Int) := by rw [show (a : Int) + 1 = (a1 : Int) by omega]; exact IntWalk.i64_in _ (by omega)
  have h0 : R = (betL q (s.data.toList.drop a1)).map (fun p => ([] ++ p.1, p.2 + a1)) := by rw [← hR, ← ha1]; rfl
  have H0 := Lib.hid h0
  have HA1 := Lib.hid ha1
  have HQI := Lib.hid hqi
  clear hR h0 ha1 hq hqi
  go_enter Tryz.func51, Tryz.ntmps51
  go_wp2
  go_loop [7, 8] (fun u7 u8' => ∃ (i : Nat) (T : Tx), i ≤ s.size ∧ T.length ≤ i ∧ u7 = .string (bb T) ∧ u8' = .int .i64 i ∧ R = (betL q (s.data.toList.drop i)).map (fun p => (T ++ p.1, p.2 + i))) (fun _ u8' => s.size - (intOf u8').toNat)
  case atStart => exact ⟨a1, [], by have := HA1.out; omega, Nat.zero_le _, rfl, rfl, H0.out⟩
  case round =>
    obtain ⟨i, T, hi, hT, rfl, rfl, hv⟩ := hrel
    clear hci l0 l1 cw H0 HA1
    have hTs : (bb T).size ≤ 1048000 := by rw [bb_size]; omega
    by_cases hlt : i < s.size
    · have l0 : (0 : Int) ≤ (i : Int) := by omega
      have l1 : (i : Int) < (s.size : Int) := by omega
      obtain ⟨c, hc⟩ : ∃ c, s[i]'hlt = c := ⟨_, rfl⟩
      obtain ⟨z, hz⟩ : ∃ z : Int, (c.toNat : Int) = z := ⟨_, rfl⟩
      have hci : ((s[i]'hlt).toNat : Int) = z := by rw [hc, hz]
      obtain ⟨i1, hi1⟩ : ∃ i1, i + 1 = i1 := ⟨_, rfl⟩
      have cw : IntKind.i64.wrap ((i : Int) + 1) = (i1 : Int) := by rw [show (i : Int) + 1 = (i1 : Int) by omega]; exact IntWalk.i64_in _ (by omega)
      have m1 : (i : Int) ≤ (i1 : Int) := by omega
      have m2 : (i1 : Int) ≤ (s.size : Int) := by omega
      have hxe : s.extract i i1 = bb [c] := by rw [← hi1, ← hc]; exact ext_one s i hlt
      have hxs : (s.extract i i1).size = 1 := by rw [hxe]; rfl
      by_cases hcq : c = q
      · have hzq : z = qi := by have := HQI.out; rw [← hz, hcq]; exact this
        by_cases h2 : i1 < s.size ∧ ∀ h : i1 < s.size, s[i1] = q
        · obtain ⟨h2, h3f⟩ := h2
          have h3 := h3f h2
          clear h3f
          have hci2 : ((s[i1]'h2).toNat : Int) = qi := by rw [h3]; exact HQI.out
          have n0 : (0 : Int) ≤ (i1 : Int) := by omega
          have n1 : (i1 : Int) < (s.size : Int) := by omega
          obtain ⟨i2, hi2⟩ : ∃ i2, i1 + 1 = i2 := ⟨_, rfl⟩
          have cw2 : IntKind.i64.wrap ((i1 : Int) + 1) = (i2 : Int) := by rw [show (i1 : Int) + 1 = (i2 : Int) by omega]; exact IntWalk.i64_in _ (by omega)
          have hn : R = (betL q (s.data.toList.drop i2)).map (fun p => ((T ++ [q]) ++ p.1, p.2 + i2)) := by
            have e : i2 = i + 2 := by omega
            rw [hv, e]
            subst hi1
            exact bet_two s q i h2 T (by rw [hc, hcq]) h3
          have HN := Lib.hid hn
          have HE := Lib.hid (show bb T ++ s.extract i i1 = bb (T ++ [q]) by rw [hxe, bb_app, hcq])
          have HI := Lib.hid (show i2 = i + 2 ∧ i2 ≤ s.size by omega)
          subst hzq
          clear hn hv hxe hi1 hi2 hcq hc hz h3
          generalize bb T = TT at *
          go_wp2
          go_round
          case rel => exact ⟨i2, T ++ [q], by have := HI.out; omega, by have := HI.out; rw [List.length_append, List.length_singleton]; omega, by rw [HE.out], rfl, HN.out⟩
          case measure => have := HI.out; simp [intOf]; omega
        · have hn : R = some (T, i1) := by
            rw [hv, ← hi1]
            refine bet_end s q i hlt T (by rw [hc, hcq]) fun h4 h5 => h2 ⟨by omega, fun h => ?_⟩
            subst hi1; exact h5
          have HN := Lib.hid hn
          subst hzq
          by_cases h4 : i1 < s.size
          · obtain ⟨y, hy⟩ : ∃ y : Int, ((s[i1]'h4).toNat : Int) = y := ⟨_, rfl⟩
            have hyq : (y == z) = false := by
              rw [beq_eq_false_iff_ne]
              intro h
              exact h2 ⟨h4, fun _ => UInt8.toNat_inj.1 (by have := HQI.out; omega)⟩
            have n0 : (0 : Int) ≤ (i1 : Int) := by omega
            have n1 : (i1 : Int) < (s.size : Int) := by omega
            clear hn hv hxe hi1 hcq hc hz h2
            go_wp2
            go_ret2
            exact ⟨by rw [HN.out]; rfl, rfl⟩
          · have n1 : ¬ ((i1 : Int) < (s.size : Int)) := by omega
            clear hn hv hxe hi1 hcq hc hz h2
            go_wp2
            go_ret2
            exact ⟨by rw [HN.out]; rfl, rfl⟩
      · have hzq : (z != qi) = true := by
          rw [bne_iff_ne]
          intro h
          exact hcq (UInt8.toNat_inj.1 (by have := HQI.out; omega))
        have hn : R = (betL q (s.data.toList.drop i1)).map (fun p => ((T ++ [c]) ++ p.1, p.2 + i1)) := by
          rw [hv, ← hi1, bet_on s q i hlt T (by rw [hc]; exact hcq), hc]
        have HN := Lib.hid hn
        have HE := Lib.hid (show bb T ++ s.extract i i1 = bb (T ++ [c]) by rw [hxe, bb_app])
        have HI := Lib.hid (show i1 = i + 1 by omega)
        clear hn hv hxe hi1 hcq hc hz
        generalize bb T = TT at *
        go_wp2
        go_round
        case rel => exact ⟨i1, T ++ [c], by have := HI.out; omega, by have := HI.out; rw [List.length_append, List.length_singleton]; omega, by rw [HE.out], rfl, HN.out⟩
        case measure => have := HI.out; simp [intOf]; omega
    · have l1 : ¬ ((i : Int) < (s.size : Int)) := by omega
      have hn : R = none := by rw [hv, drop_nil s i hlt]; rfl
      have HN := Lib.hid hn
      clear hn hv
      go_wp2
      go_ret2
      exact ⟨by rw [HN.out]; rfl, rfl⟩
end Go.Proofs.YtgnpkpboilnijaaGreatDoor
namespace Go.Proofs.YtgnpkpboilnijaaGreatDoor
open Go.ChangeShapes Go.WideShapes Go.ChangeAt Go.RowKit
set_option maxRecDepth 100000
set_option linter.unusedVariables false
set_option linter.unusedSimpArgs false

/-- how many bytes of a tag stand at the beginning of a text -/
def tagL (l : Tx) : Nat := if rowL letB l = 0 then 0 else rowL tagB l
/-- the place behind a tag with its dollars, that stands at a place -/
def tagAt (s : ByteArray) (a : Nat) : Int :=
  if (s.data.toList.drop (a + 1 + tagL (s.data.toList.drop (a + 1)))).take 1 = [36] then ((a + 1 + tagL (s.data.toList.drop (a + 1)) + 1 : Nat) : Int) else -1
theorem let_tag (c : UInt8) (h : letB c = true) : tagB c = true := by
  show tagN (c.toNat : Int) = true
  have : letN (c.toNat : Int) = true := h
  unfold tagN
  rw [this]; rfl
theorem tagB_eq (c : UInt8) : tagB c = (letN (c.toNat : Int) || digN (c.toNat : Int)) := rfl
theorem tagL_cons (c : UInt8) (r : Tx) : tagL (c :: r) = if letB c = true then rowL tagB r + 1 else 0 := by
  unfold tagL
  rw [rowL_cons letB]
  by_cases h : letB c = true
  · rw [if_pos h, if_pos h, if_neg (by omega), rowL_cons, if_pos (let_tag c h)]
  · rw [if_neg h, if_neg h, if_pos rfl]
theorem tagL_le (l : Tx) : tagL l ≤ l.length := by
  unfold tagL
  split
  · omega
  · exact rowL_le _ _
set_option maxHeartbeats 1000000 in
set_option maxRecDepth 100000 in
theorem rtag_any (s : ByteArray) (a : Nat) (ha : a < s.size) (w : World) (hs : s.size ≤ 1048000) :
    Calls Tryz.prog 52 #[.string s, .int .i64 (a : Int)] w fun e w' => e = .returned (.int .i64 (tagAt s a)) ∧ w' = w := by
  have l0 : (0 : Int) ≤ (a : Int) := by omega
  obtain ⟨a1, ha1⟩ : ∃ a1, a + 1 = a1 := ⟨_, rfl⟩
  have cw : IntKind.i64.wrap ((a : Int) + 1) = (a1 : Int) := by rw [show (a : Int) + 1 = (a1 : Int) by omega]; exact IntWalk.i64_in _ (by omega)
  obtain ⟨R, hR⟩ : ∃ R, tagAt s a = R := ⟨_, rfl⟩
  rw [hR]
  obtain ⟨E, hE⟩ : ∃ E, a1 + tagL (s.data.toList.drop a1) = E := ⟨_, rfl⟩
  have hR2 : R = if (s.data.toList.drop E).take 1 = [36] then ((E + 1 : Nat) : Int) else -1 := by rw [← hR]; unfold tagAt; rw [ha1, hE]
  have hE2 : E ≤ s.size := by
    have h1 := tagL_le (s.data.toList.drop a1)
    rw [List.length_drop] at h1
    have : s.size = s.data.toList.length := rfl
    omega
  have HR := Lib.hid hR2
  have HE := Lib.hid hE
  have HA1 := Lib.hid ha1
  clear hR hE hR2 ha1
  go_enter Tryz.func52, Tryz.ntmps52
  go_wp2
  go_loop [5] (fun u5 => ∃ i : Nat, i ≤ s.size ∧ u5 = .int .i64 i ∧ ((i = a1 ∧ E = i + tagL (s.data.toList.drop i)) ∨ (a1 < i ∧ E = i + rowL tagB (s.data.toList.drop i)))) (fun u5 => s.size - (intOf u5).toNat)
  case atStart => exact ⟨a1, by have := HA1.out; omega, rfl, .inl ⟨rfl, HE.out.symm⟩⟩
  case round =>
    obtain ⟨i, hi, rfl, hv⟩ := hrel
    have HV := Lib.hid hv
    clear hv HE
    have hexit : ∀ (h : E = i), Hid (E = i) := fun h => Lib.hid h
    by_cases hlt : i < s.size
    · have m0 : (0 : Int) ≤ (i : Int) := by omega
      have m1 : (i : Int) < (s.size : Int) := by omega
      obtain ⟨c, hc⟩ : ∃ c, s[i]'hlt = c := ⟨_, rfl⟩
      obtain ⟨z, hz⟩ : ∃ z : Int, (c.toNat : Int) = z := ⟨_, rfl⟩
      have hci : ((s[i]'hlt).toNat : Int) = z := by rw [hc, hz]
      obtain ⟨i1, hi1⟩ : ∃ i1, i + 1 = i1 := ⟨_, rfl⟩
      have cwi : IntKind.i64.wrap ((i : Int) + 1) = (i1 : Int) := by rw [show (i : Int) + 1 = (i1 : Int) by omega]; exact IntWalk.i64_in _ (by omega)
      have HI1 := Lib.hid hi1
      have hlet := fun w => rlet_any z w
      have hdig := fun w => rdig_any z w
      have hd := byte_at s i hlt
      rw [hc] at hd
      have hlb : letB c = letN z := by rw [← hz]; rfl
      have hdb : tagB c = (letN z || digN z) := by rw [tagB_eq, hz]
      have HD := Lib.hid hd
      have HLB := Lib.hid hlb
      have HDB := Lib.hid hdb
      have HLET := Lib.hid hlet
      have HDIG := Lib.hid hdig
      have htk : (s.data.toList.drop i).take 1 = [c] := by rw [hd]; rfl
      have HTK := Lib.hid htk
      have HZ := Lib.hid hz
      clear hlet hdig hd hlb hdb hi1 hc hz htk
      generalize hbl : letN z = bl at *
      generalize hbd : digN z = bd at *
      clear hbl hbd
      cases bl with
      | true =>
        have hn : i1 ≤ s.size ∧ a1 < i1 ∧ E = i1 + rowL tagB (s.data.toList.drop i1) := by
          have h1 := HI1.out
          rcases HV.out with ⟨e, h⟩ | ⟨e, h⟩
          · rw [HD.out, tagL_cons, if_pos HLB.out, h1] at h
            exact ⟨by omega, by omega, by omega⟩
          · rw [HD.out, rowL_cons, if_pos (by rw [HDB.out]; rfl), h1] at h
            exact ⟨by omega, by omega, by omega⟩
        have HN := Lib.hid hn
        clear hn
        go_wp2_with (first
          | (go_at_call 47; (with_reducible refine (HLET.out _).mono ?_); rintro e w1 ⟨rfl, hw1⟩; obtain rfl := hw1.symm)
          | (go_at_call 50; (with_reducible refine (HDIG.out _).mono ?_); rintro e w1 ⟨rfl, hw1⟩; obtain rfl := hw1.symm))
        go_round
        case rel => exact ⟨i1, HN.out.1, rfl, .inr HN.out.2⟩
        case measure => have := HI1.out; simp [intOf]; omega
      | false =>
        have hcases : (i = a1 ∧ E = i) ∨ (((a1 : Int) < (i : Int)) ∧ bd = false ∧ E = i) ∨ (((a1 : Int) < (i : Int)) ∧ bd = true ∧ i1 ≤ s.size ∧ a1 < i1 ∧ E = i1 + rowL tagB (s.data.toList.drop i1)) := by
          have h1 := HI1.out
          rcases HV.out with ⟨e, h⟩ | ⟨e, h⟩
          · left
            rw [HD.out, tagL_cons, if_neg (by rw [HLB.out]; decide)] at h
            exact ⟨e, by omega⟩
          · right
            rw [HD.out, rowL_cons, HDB.out, h1] at h
            cases bd with
            | false => left; rw [if_neg (by decide)] at h; exact ⟨by omega, rfl, by omega⟩
            | true => right; rw [if_pos (by decide)] at h; exact ⟨by omega, rfl, by omega, by omega, by omega⟩
        rcases hcases with ⟨rfl, h⟩ | ⟨hai, rfl, h⟩ | ⟨hai, rfl, h⟩
        · have hai : ¬ ((i : Int) < (i : Int)) := by omega
          have he : R = if z = 36 then (i1 : Int) else -1 := by
            rw [HR.out, h, HTK.out]
            have h1 := HI1.out
            have h2 := HZ.out
            by_cases h36 : c = 36
            · rw [if_pos (by rw [h36]), if_pos (by rw [← h2, h36]; rfl)]; omega
            · rw [if_neg (by intro hh; injection hh with hh; exact h36 hh), if_neg (by intro hh; exact h36 (UInt8.toNat_inj.1 (by show _ = 36; omega)))]
          have HEX := Lib.hid he
          clear he h hexit
          by_cases h36 : z = 36
          · subst h36
            go_wp2_with (first
              | (go_at_call 47; (with_reducible refine (HLET.out _).mono ?_); rintro e w1 ⟨rfl, hw1⟩; obtain rfl := hw1.symm)
              | (go_at_call 50; (with_reducible refine (HDIG.out _).mono ?_); rintro e w1 ⟨rfl, hw1⟩; obtain rfl := hw1.symm))
            go_ret
            exact ⟨by rw [HEX.out]; rfl, rfl⟩
          · have e36 : (z == (36 : Int)) = false := by rw [beq_eq_false_iff_ne]; exact h36
            have HNE := Lib.hid h36
            clear h36
            go_wp2_with (first
              | (go_at_call 47; (with_reducible refine (HLET.out _).mono ?_); rintro e w1 ⟨rfl, hw1⟩; obtain rfl := hw1.symm)
              | (go_at_call 50; (with_reducible refine (HDIG.out _).mono ?_); rintro e w1 ⟨rfl, hw1⟩; obtain rfl := hw1.symm))
            go_ret
            exact ⟨by rw [HEX.out, if_neg HNE.out]; rfl, rfl⟩
        · have he : R = if z = 36 then (i1 : Int) else -1 := by
            rw [HR.out, h, HTK.out]
            have h1 := HI1.out
            have h2 := HZ.out
            by_cases h36 : c = 36
            · rw [if_pos (by rw [h36]), if_pos (by rw [← h2, h36]; rfl)]; omega
            · rw [if_neg (by intro hh; injection hh with hh; exact h36 hh), if_neg (by intro hh; exact h36 (UInt8.toNat_inj.1 (by show _ = 36; omega)))]
          have HEX := Lib.hid he
          clear he h hexit
          by_cases h36 : z = 36
          · subst h36
            go_wp2_with (first
              | (go_at_call 47; (with_reducible refine (HLET.out _).mono ?_); rintro e w1 ⟨rfl, hw1⟩; obtain rfl := hw1.symm)
              | (go_at_call 50; (with_reducible refine (HDIG.out _).mono ?_); rintro e w1 ⟨rfl, hw1⟩; obtain rfl := hw1.symm))
            go_ret
            exact ⟨by rw [HEX.out]; rfl, rfl⟩
          · have e36 : (z == (36 : Int)) = false := by rw [beq_eq_false_iff_ne]; exact h36
            have HNE := Lib.hid h36
            clear h36
            go_wp2_with (first
              | (go_at_call 47; (with_reducible refine (HLET.out _).mono ?_); rintro e w1 ⟨rfl, hw1⟩; obtain rfl := hw1.symm)
              | (go_at_call 50; (with_reducible refine (HDIG.out _).mono ?_); rintro e w1 ⟨rfl, hw1⟩; obtain rfl := hw1.symm))
            go_ret
            exact ⟨by rw [HEX.out, if_neg HNE.out]; rfl, rfl⟩
        · have HN := Lib.hid h
          clear h
          go_wp2_with (first
            | (go_at_call 47; (with_reducible refine (HLET.out _).mono ?_); rintro e w1 ⟨rfl, hw1⟩; obtain rfl := hw1.symm)
            | (go_at_call 50; (with_reducible refine (HDIG.out _).mono ?_); rintro e w1 ⟨rfl, hw1⟩; obtain rfl := hw1.symm))
          go_round
          case rel => exact ⟨i1, HN.out.1, rfl, .inr HN.out.2⟩
          case measure => have := HI1.out; simp [intOf]; omega
    · have m1 : ¬ ((i : Int) < (s.size : Int)) := by omega
      have hd := drop_nil s i hlt
      have hn : R = -1 := by
        have he : E = i := by
          rcases HV.out with ⟨e, h⟩ | ⟨e, h⟩
          · rw [hd] at h; exact h
          · rw [hd] at h; exact h
        rw [HR.out, he, hd]; rfl
      have HN := Lib.hid hn
      clear hn hd hexit
      go_wp2
      go_ret
      exact ⟨by rw [HN.out]; rfl, rfl⟩
end Go.Proofs.YtgnpkpboilnijaaGreatDoor
namespace Go.Proofs.YtgnpkpboilnijaaGreatDoor
open Go.ChangeShapes Go.WideShapes Go.ChangeAt Go.RowKit
set_option maxRecDepth 100000
set_option linter.unusedVariables false
set_option linter.unusedSimpArgs false

/-- the text that a tag begins, and the place behind -/
def dolAt (s : ByteArray) (a t : Nat) : Option (Tx × Nat) :=
  if 0 ≤ Lib.index (s.data.toList.drop t) (s.extract a t).data.toList then
    some ((s.data.toList.drop t).take (Lib.index (s.data.toList.drop t) (s.extract a t).data.toList).toNat, t + (Lib.index (s.data.toList.drop t) (s.extract a t).data.toList).toNat + (t - a)) else none
theorem idx_cons (b : UInt8) (l m : Tx) : Lib.index (b :: l) m = if m.isPrefixOf (b :: l) = true then 0 else if Lib.index l m = -1 then -1 else Lib.index l m + 1 := by
  rw [Lib.index]
  by_cases h : m.isPrefixOf (b :: l) = true
  · rw [if_pos h, if_pos h]
  · rw [if_neg h, if_neg h]
    by_cases h2 : Lib.index l m = -1
    · rw [if_pos h2, if_pos (by rw [h2]; rfl)]
    · rw [if_neg h2, if_neg (by rw [beq_iff_eq]; exact h2)]
theorem idx_nil (m : Tx) (h : m ≠ []) : Lib.index [] m = -1 := by
  rw [Lib.index, if_neg]
  cases m with
  | nil => exact absurd rfl h
  | cons => simp
theorem ext_to (s : ByteArray) (t i : Nat) (h : i ≤ s.size) : s.extract t i = bb ((s.data.toList.drop t).take (i - t)) := by
  apply ByteArray.ext
  apply Array.ext'
  rw [ByteArray.data_extract, Array.toList_extract, List.extract_eq_take_drop]
set_option maxHeartbeats 1000000 in
set_option maxRecDepth 100000 in
theorem rdollar_any (s : ByteArray) (a t : Nat) (hat : a < t) (ht : t ≤ s.size) (w : World) (hs : s.size ≤ 1048000) :
    Calls Tryz.prog 53 #[.string s, .int .i64 (a : Int), .int .i64 (t : Int)] w fun e w' => e = .returned (quoV (dolAt s a t)) ∧ w' = w := by
  have hms : (s.extract a t).size ≤ 1048000 := by rw [ByteArray.size_extract]; omega
  have hmn : (s.extract a t).data.toList ≠ [] := by
    intro h
    have := congrArg List.length h
    have e : (s.extract a t).data.toList.length = (s.extract a t).size := rfl
    rw [e, ByteArray.size_extract] at this
    simp at this; omega
  have hst := fun i hi w => starts_any s (s.extract a t) i w (by omega) (by omega) hi
  obtain ⟨D, hD⟩ : ∃ D, Lib.index (s.data.toList.drop t) (s.extract a t).data.toList = D := ⟨_, rfl⟩
  have hR : dolAt s a t = if 0 ≤ D then some ((s.data.toList.drop t).take D.toNat, t + D.toNat + (t - a)) else none := by rw [← hD]; rfl
  obtain ⟨R, hR1⟩ : ∃ R, dolAt s a t = R := ⟨_, rfl⟩
  rw [hR1] at hR
  rw [hR1]
  have l0 : (0 : Int) ≤ (a : Int) := by omega
  have l1 : (a : Int) ≤ (t : Int) := by omega
  have l2 : (t : Int) ≤ (s.size : Int) := by omega
  have hge := Lib.index_ge
  have HR := Lib.hid hR
  have HD := Lib.hid hD
  have HST := Lib.hid hst
  have HMN := Lib.hid hmn
  clear hR hR1 hD hst hmn hge
  go_enter Tryz.func53, Tryz.ntmps53
  go_wp2
  go_loop [8] (fun u8' => ∃ i : Nat, t ≤ i ∧ i ≤ s.size + 1 ∧ u8' = .int .i64 i ∧ ((i ≤ s.size ∧ D = if Lib.index (s.data.toList.drop i) (s.extract a t).data.toList = -1 then -1 else ((i - t : Nat) : Int) + Lib.index (s.data.toList.drop i) (s.extract a t).data.toList) ∨ (s.size < i ∧ D = -1))) (fun u8' => s.size + 1 - (intOf u8').toNat)
  case atStart =>
    refine ⟨t, Nat.le_refl _, by omega, rfl, .inl ⟨ht, ?_⟩⟩
    rw [HD.out, Nat.sub_self]
    by_cases h : D = -1
    · rw [if_pos h]; exact h
    · rw [if_neg h]; omega
  case round =>
    obtain ⟨i, hti, hi, rfl, hv⟩ := hrel
    have HV := Lib.hid hv
    clear hv HD
    by_cases hle : i ≤ s.size
    · have m1 : (i : Int) ≤ (s.size : Int) := by omega
      have m2 : (t : Int) ≤ (i : Int) := by omega
      have m0 : (0 : Int) ≤ (i : Int) := by omega
      have hcall := HST.out i hle
      have hv : D = if Lib.index (s.data.toList.drop i) (s.extract a t).data.toList = -1 then -1 else ((i - t : Nat) : Int) + Lib.index (s.data.toList.drop i) (s.extract a t).data.toList := by
        rcases HV.out with ⟨_, h⟩ | ⟨h, _⟩
        · exact h
        · omega
      cases hb : (s.extract a t).data.toList.isPrefixOf (s.data.toList.drop i) with
      | true =>
        rw [hb] at hcall
        have hlt : i < s.size := by
          rcases Nat.lt_or_ge i s.size with h | h
          · exact h
          · rw [drop_nil s i (by omega)] at hb
            have := (List.isPrefixOf_iff_prefix.1 hb).length_le
            exact absurd (List.eq_nil_of_length_eq_zero (by simpa using this)) HMN.out
        have hidx : Lib.index (s.data.toList.drop i) (s.extract a t).data.toList = 0 := by
          rw [byte_at s i hlt] at hb ⊢
          rw [idx_cons, if_pos hb]
        rw [hidx, if_neg (by omega)] at hv
        have hn : R = some ((s.data.toList.drop t).take (i - t), i + (t - a)) := by
          have hDn : D.toNat = i - t := by omega
          rw [HR.out, if_pos (by omega), hDn]
          congr 2
          omega
        have hxe := ext_to s t i hle
        obtain ⟨b, hbb⟩ : ∃ b, i + t = b := ⟨_, rfl⟩
        obtain ⟨c, hcc⟩ : ∃ c, i + (t - a) = c := ⟨_, rfl⟩
        have cw1 : IntKind.i64.wrap ((i : Int) + (t : Int)) = (b : Int) := by rw [show (i : Int) + (t : Int) = (b : Int) by omega]; exact IntWalk.i64_in _ (by omega)
        have cw2 : IntKind.i64.wrap ((b : Int) - (a : Int)) = (c : Int) := by rw [show (b : Int) - (a : Int) = (c : Int) by omega]; exact IntWalk.i64_in _ (by omega)
        rw [hcc] at hn
        have HN := Lib.hid hn
        have HXE := Lib.hid hxe
        have HC := Lib.hid hcall
        clear hv hb hidx hn hxe hbb hcc hcall HV
        go_wp2_with (go_at_call 45; (with_reducible refine (HC.out _).mono ?_); rintro e w1 ⟨rfl, hw1⟩; obtain rfl := hw1.symm)
        go_ret2
        exact ⟨by rw [HN.out, HXE.out]; rfl, rfl⟩
      | false =>
        rw [hb] at hcall
        have hn : ((i + 1 ≤ s.size ∧ D = if Lib.index (s.data.toList.drop (i + 1)) (s.extract a t).data.toList = -1 then -1 else ((i + 1 - t : Nat) : Int) + Lib.index (s.data.toList.drop (i + 1)) (s.extract a t).data.toList) ∨ (s.size < i + 1 ∧ D = -1)) := by
          by_cases hlt : i < s.size
          · left
            refine ⟨hlt, ?_⟩
            have hix : Lib.index (s.data.toList.drop i) (s.extract a t).data.toList = if Lib.index (s.data.toList.drop (i + 1)) (s.extract a t).data.toList = -1 then -1 else Lib.index (s.data.toList.drop (i + 1)) (s.extract a t).data.toList + 1 := by
              rw [byte_at s i hlt] at hb ⊢
              rw [idx_cons, if_neg]
              rw [hb]; simp
            rw [hix] at hv
            by_cases h1 : Lib.index (s.data.toList.drop (i + 1)) (s.extract a t).data.toList = -1
            · rw [if_pos h1, if_pos rfl] at hv; rw [if_pos h1]; exact hv
            · have hge := Lib.index_ge (s.data.toList.drop (i + 1)) (s.extract a t).data.toList
              rw [if_neg h1, if_neg (by omega)] at hv
              rw [if_neg h1]; omega
          · right
            rw [drop_nil s i hlt, idx_nil _ HMN.out, if_pos rfl] at hv
            exact ⟨by omega, hv⟩
        have HN := Lib.hid hn
        have HC := Lib.hid hcall
        clear hv hb hn hcall HV
        go_wp2_with (go_at_call 45; (with_reducible refine (HC.out _).mono ?_); rintro e w1 ⟨rfl, hw1⟩; obtain rfl := hw1.symm)
        go_round
        case rel => exact ⟨i + 1, by omega, by omega, by go_num, HN.out⟩
        case measure => simp [intOf]; omega
    · have m1 : ¬ ((i : Int) ≤ (s.size : Int)) := by omega
      have hn : R = none := by
        rcases HV.out with ⟨h, _⟩ | ⟨_, h⟩
        · omega
        · rw [HR.out, if_neg (by omega)]
      have HN := Lib.hid hn
      clear hn HV
      go_wp2
      go_ret2
      exact ⟨by rw [HN.out]; rfl, rfl⟩
end Go.Proofs.YtgnpkpboilnijaaGreatDoor
namespace Go.Proofs.YtgnpkpboilnijaaGreatDoor
open Go.ChangeShapes Go.WideShapes Go.ChangeAt Go.RowKit
set_option maxRecDepth 100000
set_option linter.unusedVariables false
set_option linter.unusedSimpArgs false

def OneP (w : World) (r : Tok × Nat × Int) (e : Ending) (w' : World) : Prop :=
  e = .returned (.tuple #[.agg #[.int .i64 r.1.1, .string r.1.2.1, .int .i64 r.1.2.2], .int .i64 (r.2.1 : Int), .int .i64 r.2.2]) ∧ Below w.heap.size w w'
theorem Own3.tok (w : World) : Own3 w (w.alloc (.cells #[.int .i64 0, .string ⟨#[]⟩, .int .i64 0] 35)) :=
  ⟨(Below.refl _ _).alloc (Nat.le_refl _) _, by simp, by simp [go_sem], by simp [go_sem], by simp [go_sem], by simp [go_sem], by simp [go_sem], by simp [go_sem]⟩
theorem row_end (s : ByteArray) (p : UInt8 → Bool) (a : Nat) (ha : a ≤ s.size) : a + rowL p (s.data.toList.drop a) ≤ s.size := by
  have := rowL_le p (s.data.toList.drop a)
  rw [List.length_drop] at this
  have e : s.size = s.data.toList.length := rfl
  omega
set_option maxHeartbeats 1000000 in
set_option maxRecDepth 100000 in
theorem one_word (s : ByteArray) (a : Nat) (ha : a < s.size) (w : World) (hs : s.size ≤ 1048000) (hl : letB s[a] = true) (E : Nat) (hE : a + rowL wordB (s.data.toList.drop a) = E) :
    Calls Tryz.prog 30 #[.string s, .int .i64 (a : Int)] w (OneP w ((1, smallA (s.extract a E), (a : Int)), E, 0)) := by
  have l0 : (0 : Int) ≤ (a : Int) := by omega
  have l1 : (a : Int) < (s.size : Int) := by omega
  obtain ⟨z, hz⟩ : ∃ z : Int, ((s[a]'ha).toNat : Int) = z := ⟨_, rfl⟩
  have hlet : ∀ w, Calls Tryz.prog 47 #[.int .u8 z] w fun e w' => e = .returned (.bool true) ∧ w' = w := by
    intro w
    have := rlet_any z w
    rw [show letN z = true by rw [← hz]; exact hl] at this
    exact this
  have hrow : ∀ w, Calls Tryz.prog 48 #[.string s, .int .i64 (a : Int), .int .i64 1] w fun e w' => e = .returned (.int .i64 (E : Int)) ∧ w' = w := by
    intro w
    have := rrow_any s a 1 (.inl rfl) w (by omega) (by omega)
    rw [show rowB 1 = wordB from rfl, hE] at this
    exact this
  have e1 : (a : Int) ≤ (E : Int) := by omega
  have e2 : (E : Int) ≤ (s.size : Int) := by have := row_end s wordB a (by omega); omega
  have hsm := fun w => rsmall_any (s.extract a E) (by rw [ByteArray.size_extract]; omega) w
  have HLET := Lib.hid hlet
  have HROW := Lib.hid hrow
  have HSM := Lib.hid hsm
  have HO := Lib.hid (Own3.tok w)
  clear hlet hrow hsm hE hl
  go_enter Tryz.func30, Tryz.ntmps30
  go_wp2_with (first
    | (go_at_call 47; (with_reducible refine (HLET.out _).mono ?_); rintro e w1 ⟨rfl, hw1⟩; obtain rfl := hw1.symm)
    | (go_at_call 48; (with_reducible refine (HROW.out _).mono ?_); rintro e w1 ⟨rfl, hw1⟩; obtain rfl := hw1.symm)
    | (go_at_call 49; (with_reducible refine (HSM.out _).mono ?_); rintro e w2 ⟨rfl, hb2⟩; have F1 := HO.out.step hb2; obtain ⟨hB, hL, k0, k1, k2, f0, f1, f2⟩ := id F1))
  refine bodyPost_ret (v := .tuple #[.agg #[.int .i64 1, .string (smallA (s.extract a E)), .int .i64 (a : Int)], .int .i64 (E : Int), .int .i64 0]) (by simp [results, Tryz.results30, go_sem, k0, k1, k2]) rfl ?_
  refine ⟨rfl, ((hB.setCell ?_ _).setCell ?_ _).setCell ?_ _⟩ <;> exact Nat.le_refl _
end Go.Proofs.YtgnpkpboilnijaaGreatDoor
