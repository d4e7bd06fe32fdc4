/- What the document's own gap answers. Conditions: a text's length. -/
import Derived.Test.YtlmgggipkdmdfaaDoorLzb
import Derived.Test.YtlmgggipkdmdfaaDoorLxq
import Derived.Deep.LoopGhost
namespace Go.Proofs.YtlmgggipkdmdfaaDoor
open Go.ChangeShapes Go.WideShapes Go.ChangeAt Go.RowKit
set_option linter.unusedVariables false
set_option linter.unusedSimpArgs false

def notNl (c : UInt8) : Bool := c != 10
/-- where the line ends -/
def lineEnd (s : ByteArray) (a : Nat) : Nat := a + rowL notNl (s.data.toList.drop a)
/-- the place behind blanks and remarks, and whether a remark there does not end -/
def gapN : Nat → ByteArray → Nat → Nat × Bool
  | 0, _, a => (a, false)
  | f + 1, s, a =>
    if s.size ≤ a then (a, false) else
    if fiveQ ((s.data.toList.drop a).headD 0) = true then gapN f s (a + 1) else
    if (s.data.toList.drop a).take 2 = [45, 45] then gapN f s (lineEnd s a) else
    if (s.data.toList.drop a).take 2 = [47, 42] then (match remAt s a with
      | none => (a, true)
      | some n => gapN f s n) else (a, false)
theorem five_all : ((List.range 256).all fun n => fiveB (n : Int) == (n == 32 || n == 9 || n == 10 || n == 12 || n == 13)) = true := by kernel_rfl
theorem five_eq (c : UInt8) : fiveQ c = (((c.toNat : Int) == 32) || ((c.toNat : Int) == 9) || ((c.toNat : Int) == 10) || ((c.toNat : Int) == 12) || ((c.toNat : Int) == 13)) := by
  have h := beq_iff_eq.1 (List.all_eq_true.1 five_all c.toNat (List.mem_range.2 c.toNat_lt))
  show fiveB (c.toNat : Int) = _
  rw [h]
  have e : ∀ k : Nat, (c.toNat == k) = ((c.toNat : Int) == (k : Int)) := by
    intro k
    rw [Bool.eq_iff_iff, beq_iff_eq, beq_iff_eq]; omega
  rw [e 32, e 9, e 10, e 12, e 13]
  rfl
theorem lineEnd_le (s : ByteArray) (a : Nat) (ha : a ≤ s.size) : lineEnd s a ≤ s.size := by
  unfold lineEnd
  have h1 : rowL notNl (s.data.toList.drop a) ≤ (s.data.toList.drop a).length := rowL_le _ _
  rw [List.length_drop] at h1
  have : s.size = s.data.toList.length := rfl
  omega
theorem lineEnd_gt (s : ByteArray) (a : Nat) (h : (s.data.toList.drop a).take 2 = [45, 45]) : a + 1 ≤ lineEnd s a := by
  have hl := len2 _ _ s a h
  unfold lineEnd
  rw [byte_at s a (by omega), rowL_cons]
  rw [byte_at s a (by omega), List.take_succ_cons] at h
  injection h with h _
  rw [h, if_pos (by decide)]
  omega
theorem remAt_le (s : ByteArray) (a n : Nat) (h : remAt s a = some n) (h2 : (s.data.toList.drop a).take 2 = [47, 42]) : a + 1 ≤ n ∧ n ≤ s.size := by
  have hl := len2 _ _ s a h2
  unfold remAt at h
  cases hr : remL 1 (s.data.toList.drop (a + 2)) with
  | none => rw [hr] at h; cases h
  | some k =>
    rw [hr] at h
    simp at h
    have := remL_le _ _ _ hr
    rw [List.length_drop] at this
    have hs : s.size = s.data.toList.length := rfl
    omega
set_option maxHeartbeats 2000000 in
set_option maxRecDepth 100000 in
theorem rgap_any (s : ByteArray) (a0 : Nat) (w : World) (hs : s.size ≤ 1048000) (ha0 : a0 ≤ s.size) (R : Nat × Bool) (hR : R = gapN (s.size + 1) s a0) :
    Calls Tryd.prog 17 #[.string s, .int .i64 (a0 : Int)] w fun e w' => e = .returned (.tuple #[.int .i64 (R.1 : Int), .bool R.2]) ∧ w' = w := by
  have hst := fun a p ha hp w => starts_any s p a w (by omega) hp ha
  have hre := fun a h w => rremark_any s a w hs h
  have HST := Lib.hid hst
  have HRE := Lib.hid hre
  have HE := Lib.hid hR
  have HA0 := Lib.hid ha0
  clear hst hre hR ha0
  go_enter Tryd.func17, Tryd.ntmps17
  go_wp2
  go_loopg [1] s.size (fun g u1 wx => ∃ a : Nat, a ≤ s.size ∧ s.size - a ≤ g ∧ u1 = .int .i64 (a : Int) ∧ wx = w ∧ R = gapN (g + 1) s a)
  case atStart => exact ⟨a0, HA0.out, by omega, rfl, rfl, HE.out⟩
  case round =>
    obtain ⟨a, ha, hg, rfl, rfl, hv⟩ := hrel
    rw [gapN] at hv
    clear HE HA0
    by_cases hlt : a < s.size
    · obtain ⟨g, rfl⟩ : ∃ g, gk = g + 1 := ⟨gk - 1, by omega⟩
      rw [if_neg (by omega)] at hv
      have l0 : (0 : Int) ≤ (a : Int) := by omega
      have l1 : (a : Int) < (s.size : Int) := by omega
      have hst1 : ∀ w, Calls Tryd.prog 36 #[.string s, .int .i64 (a : Int), .string ⟨#[45, 45]⟩] w fun e w' => e = .returned (.bool ([45, 45].isPrefixOf (s.data.toList.drop a))) ∧ w' = w := fun w => HST.out a ⟨#[45, 45]⟩ ha (by show 2 ≤ _; omega) w
      have hst2 : ∀ w, Calls Tryd.prog 36 #[.string s, .int .i64 (a : Int), .string ⟨#[47, 42]⟩] w fun e w' => e = .returned (.bool ([47, 42].isPrefixOf (s.data.toList.drop a))) ∧ w' = w := fun w => HST.out a ⟨#[47, 42]⟩ ha (by show 2 ≤ _; omega) w
      have hd := byte_at s a hlt
      have hh : (s.data.toList.drop a).headD 0 = s[a] := by rw [hd]; rfl
      rw [hh, five_eq] at hv
      obtain ⟨z, hz⟩ : ∃ z : Int, ((s[a]'hlt).toNat : Int) = z := ⟨_, rfl⟩
      rw [hz] at hv
      obtain ⟨a1, ha1⟩ : ∃ a1, a + 1 = a1 := ⟨_, rfl⟩
      have cw1 : IntKind.i64.wrap ((a : Int) + 1) = (a1 : Int) := by rw [show (a : Int) + 1 = (a1 : Int) by omega]; exact IntWalk.i64_in _ (by omega)
      rw [ha1] at hv
      have HA1 := Lib.hid ha1
      have HV := Lib.hid hv
      clear hd hh ha1 hv
      have leaf : ∀ b, (((z == 32) || (z == 9) || (z == 10) || (z == 12) || (z == 13)) = b) → (if b = true then R = gapN (g + 1) s a1 else R = (if (s.data.toList.drop a).take 2 = [45, 45] then gapN (g + 1) s (lineEnd s a) else
          if (s.data.toList.drop a).take 2 = [47, 42] then (match remAt s a with
            | none => (a, true)
            | some n => gapN (g + 1) s n) else (a, false))) := by
        intro b hb
        have := HV.out
        rw [hb] at this
        cases b with
        | true => rw [if_pos rfl] at this ⊢; exact this
        | false => rw [if_neg (by decide)] at this ⊢; exact this
      have HLF := Lib.hid leaf
      clear leaf HV
      by_cases z1 : z = 32
      · subst z1
        have HN := Lib.hid (show R = gapN (g + 1) s a1 from by have := HLF.out true rfl; rwa [if_pos rfl] at this)
        clear HLF hst1 hst2
        go_wp2
        go_roundg g
        case measure => exact Nat.lt_succ_self _
        case rel => exact ⟨a1, by have := HA1.out; omega, by have := HA1.out; omega, rfl, rfl, HN.out⟩
      by_cases z2 : z = 9
      · subst z2
        have HN := Lib.hid (show R = gapN (g + 1) s a1 from by have := HLF.out true rfl; rwa [if_pos rfl] at this)
        clear HLF hst1 hst2 z1
        go_wp2
        go_roundg g
        case measure => exact Nat.lt_succ_self _
        case rel => exact ⟨a1, by have := HA1.out; omega, by have := HA1.out; omega, rfl, rfl, HN.out⟩
      by_cases z3 : z = 10
      · subst z3
        have HN := Lib.hid (show R = gapN (g + 1) s a1 from by have := HLF.out true rfl; rwa [if_pos rfl] at this)
        clear HLF hst1 hst2 z1 z2
        go_wp2
        go_roundg g
        case measure => exact Nat.lt_succ_self _
        case rel => exact ⟨a1, by have := HA1.out; omega, by have := HA1.out; omega, rfl, rfl, HN.out⟩
      by_cases z4 : z = 12
      · subst z4
        have HN := Lib.hid (show R = gapN (g + 1) s a1 from by have := HLF.out true rfl; rwa [if_pos rfl] at this)
        clear HLF hst1 hst2 z1 z2 z3
        go_wp2
        go_roundg g
        case measure => exact Nat.lt_succ_self _
        case rel => exact ⟨a1, by have := HA1.out; omega, by have := HA1.out; omega, rfl, rfl, HN.out⟩
      by_cases z5 : z = 13
      · subst z5
        have HN := Lib.hid (show R = gapN (g + 1) s a1 from by have := HLF.out true rfl; rwa [if_pos rfl] at this)
        clear HLF hst1 hst2 z1 z2 z3 z4
        go_wp2
        go_roundg g
        case measure => exact Nat.lt_succ_self _
        case rel => exact ⟨a1, by have := HA1.out; omega, by have := HA1.out; omega, rfl, rfl, HN.out⟩
      have e1 : (z == (32 : Int)) = false := by rw [beq_eq_false_iff_ne]; exact z1
      have e2 : (z == (9 : Int)) = false := by rw [beq_eq_false_iff_ne]; exact z2
      have e3 : (z == (10 : Int)) = false := by rw [beq_eq_false_iff_ne]; exact z3
      have e4 : (z == (12 : Int)) = false := by rw [beq_eq_false_iff_ne]; exact z4
      have e5 : (z == (13 : Int)) = false := by rw [beq_eq_false_iff_ne]; exact z5
      have HN := Lib.hid (HLF.out false (by rw [e1, e2, e3, e4, e5]; rfl))
      clear HLF z1 z2 z3 z4 z5
      cases h1 : ([45, 45] : Tx).isPrefixOf (s.data.toList.drop a) with
      | true =>
        rw [h1] at hst1
        have HSN := Lib.hid hst1
        have h1' := (pfx2 _ _ _).1 h1
        have hn : R = gapN (g + 1) s (lineEnd s a) := by have := HN.out; rw [if_neg (by decide), if_pos h1'] at this; exact this
        have hle := lineEnd_le s a ha
        have hgt := lineEnd_gt s a h1'
        obtain ⟨L, hL⟩ : ∃ L, lineEnd s a = L := ⟨_, rfl⟩
        rw [hL] at hn hle hgt
        have HN2 := Lib.hid hn
        have HL := Lib.hid hL
        clear hst1 hst2 h1 h1' hn HN hL
        go_wp2_with (go_at_call 36; (with_reducible refine (HSN.out _).mono ?_); rintro e w1 ⟨rfl, hw1⟩; obtain rfl := hw1.symm)
        go_loop [1] (fun u1 => ∃ i : Nat, i ≤ s.size ∧ u1 = .int .i64 i ∧ L = i + rowL notNl (s.data.toList.drop i)) (fun u1 => s.size - (intOf u1).toNat)
        case atStart => exact ⟨a, ha, rfl, HL.out.symm⟩
        case round =>
          obtain ⟨i, hi, rfl, hv⟩ := hrel
          clear cw1 hz
          by_cases hil : i < s.size
          · have j0 : (0 : Int) ≤ (i : Int) := by omega
            have j1 : (i : Int) < (s.size : Int) := by omega
            rw [byte_at s i hil, rowL_cons] at hv
            obtain ⟨y, hy⟩ : ∃ y : Int, ((s[i]'hil).toNat : Int) = y := ⟨_, rfl⟩
            obtain ⟨i1, hi1⟩ : ∃ i1, i + 1 = i1 := ⟨_, rfl⟩
            have ciw : IntKind.i64.wrap ((i : Int) + 1) = (i1 : Int) := by rw [show (i : Int) + 1 = (i1 : Int) by omega]; exact IntWalk.i64_in _ (by omega)
            have hnl : notNl s[i] = (y != 10) := by
              unfold notNl
              rw [← hy, Bool.eq_iff_iff, bne_iff_ne, bne_iff_ne]
              constructor
              · intro h hh; exact h (UInt8.toNat_inj.1 (by show _ = 10; omega))
              · intro h hh; rw [hh] at h; exact h rfl
            rw [hnl] at hv
            have HI1 := Lib.hid hi1
            by_cases h10 : y = 10
            · subst h10
              rw [if_neg (by decide)] at hv
              have HV := Lib.hid hv
              clear hv hnl hi1
              go_wp2
              go_roundg g
              case measure => exact Nat.lt_succ_self _
              case rel => exact ⟨L, hle, by omega, by rw [HV.out]; rfl, rfl, HN2.out⟩
            · have e10 : (y != (10 : Int)) = true := by rw [bne_iff_ne]; exact h10
              rw [e10, if_pos rfl, hi1] at hv
              have HV := Lib.hid hv
              clear hv hnl hi1 h10
              go_wp2
              go_round
              case rel => exact ⟨i1, by have := HI1.out; omega, rfl, by have := HI1.out; have := HV.out; omega⟩
              case measure => have := HI1.out; simp [intOf]; omega
          · have j1 : ¬ ((i : Int) < (s.size : Int)) := by omega
            have hd0 : s.data.toList.drop i = [] := List.drop_eq_nil_of_le (by have : s.size = s.data.toList.length := rfl; omega)
            rw [hd0] at hv
            have HV := Lib.hid hv
            clear hv hd0
            go_wp2
            go_roundg g
            case measure => exact Nat.lt_succ_self _
            case rel => exact ⟨L, hle, by omega, by rw [HV.out]; rfl, rfl, HN2.out⟩
      | false =>
        rw [h1] at hst1
        have h1' := (pfx2_no _ _ _).1 h1
        cases h2 : ([47, 42] : Tx).isPrefixOf (s.data.toList.drop a) with
        | true =>
          rw [h2] at hst2
          have h2' := (pfx2 _ _ _).1 h2
          have hn : R = (match remAt s a with
            | none => (a, true)
            | some n => gapN (g + 1) s n) := by have := HN.out; rw [if_neg (by decide), if_neg h1', if_pos h2'] at this; exact this
          have hre := HRE.out a h2'
          have hrl := remAt_le s a
          cases hra : remAt s a with
          | none =>
            rw [hra] at hn hre
            have hre2 : ∀ w, Calls Tryd.prog 37 #[.string s, .int .i64 (a : Int)] w fun e w' => e = .returned (.int .i64 (-1)) ∧ w' = w := hre
            have HRE2 := Lib.hid hre2
            have HS1 := Lib.hid hst1
            have HS2 := Lib.hid hst2
            have HN2 := Lib.hid hn
            clear hst1 hst2 h1 h1' h2 h2' hn HN hre hre2 hrl hra
            go_wp2_with (first | (go_at_call 36; (with_reducible refine (HS1.out _).mono ?_); rintro e w1 ⟨rfl, hw1⟩; obtain rfl := hw1.symm) | (go_at_call 36; (with_reducible refine (HS2.out _).mono ?_); rintro e w1 ⟨rfl, hw1⟩; obtain rfl := hw1.symm) | (go_at_call 37; (with_reducible refine (HRE2.out _).mono ?_); rintro e w1 ⟨rfl, hw1⟩; obtain rfl := hw1.symm))
            go_ret2
            exact ⟨by rw [HN2.out]; rfl, rfl⟩
          | some n =>
            rw [hra] at hn hre
            obtain ⟨hn1, hn2⟩ := hrl n hra h2'
            have hre2 : ∀ w, Calls Tryd.prog 37 #[.string s, .int .i64 (a : Int)] w fun e w' => e = .returned (.int .i64 (n : Int)) ∧ w' = w := hre
            have HRE2 := Lib.hid hre2
            have HS1 := Lib.hid hst1
            have HS2 := Lib.hid hst2
            have HN2 := Lib.hid hn
            have hnn : ¬ ((n : Int) < 0) := by omega
            clear hst1 hst2 h1 h1' h2 h2' hn HN hre hre2 hrl hra
            go_wp2_with (first | (go_at_call 36; (with_reducible refine (HS1.out _).mono ?_); rintro e w1 ⟨rfl, hw1⟩; obtain rfl := hw1.symm) | (go_at_call 36; (with_reducible refine (HS2.out _).mono ?_); rintro e w1 ⟨rfl, hw1⟩; obtain rfl := hw1.symm) | (go_at_call 37; (with_reducible refine (HRE2.out _).mono ?_); rintro e w1 ⟨rfl, hw1⟩; obtain rfl := hw1.symm))
            go_roundg g
            case measure => exact Nat.lt_succ_self _
            case rel => exact ⟨n, hn2, by omega, rfl, rfl, HN2.out⟩
        | false =>
          rw [h2] at hst2
          have h2' := (pfx2_no _ _ _).1 h2
          have hn : R = (a, false) := by have := HN.out; rw [if_neg (by decide), if_neg h1', if_neg h2'] at this; exact this
          have HS1 := Lib.hid hst1
          have HS2 := Lib.hid hst2
          have HN2 := Lib.hid hn
          clear hst1 hst2 h1 h1' h2 h2' hn HN
          go_wp2_with (first | (go_at_call 36; (with_reducible refine (HS1.out _).mono ?_); rintro e w1 ⟨rfl, hw1⟩; obtain rfl := hw1.symm) | (go_at_call 36; (with_reducible refine (HS2.out _).mono ?_); rintro e w1 ⟨rfl, hw1⟩; obtain rfl := hw1.symm))
          go_ret2
          exact ⟨by rw [HN2.out]; rfl, rfl⟩
    · have l1 : ¬ ((a : Int) < (s.size : Int)) := by omega
      rw [if_pos (by omega)] at hv
      have HV := Lib.hid hv
      clear hv
      go_wp2
      go_ret2
      exact ⟨by rw [HV.out]; rfl, rfl⟩
end Go.Proofs.YtlmgggipkdmdfaaDoor
