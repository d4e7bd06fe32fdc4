/- What the document's own gap answers. Conditions: a text's length.
   What the document's own small, sign, quoted, tag and dollar answer. Conditions: a text's length; where they are asked.
   What the document's own quoted, tag and dollar answer. Conditions: a text's length; where they are asked.
   What the document's own tag and dollar answer. Conditions: a text's length; where they are asked.
   What the document's own dollar answers. Conditions: a text's length; where it is asked.
   What the document's own one answers at a letter, and at a digit. Conditions: a text's length.
   What the document's own one answers at a digit, a quote, a dollar, a sign, and at what is none of these. Conditions: a text's length.
   What the document's own Split at layer 4 answers. Conditions: how many tokens.
   Scan of every text; what the law's known calls tell. Condition: the word of bytealg.
   Scan in plain words, step by step, without a count of steps; blanks and remarks. Condition: none.
   Blanks and remarks: Scan in plain words goes over just the document's gap. Condition: none. -/
import Derived.Test.YtjloookjlnmgdaaGreatDoorG11
import Derived.Test.YtjloookjlnmgdaaGreatDoorG10
import Derived.Deep.LoopGhost
import Derived.KernelRfl
set_option linter.unusedSimpArgs false
set_option linter.unusedVariables false
namespace Go.Proofs.YtjloookjlnmgdaaGreatDoor
open Go.ChangeShapes Go.WideShapes Go.ChangeAt Go.RowKit
set_option maxRecDepth 100000
set_option linter.unusedVariables false
set_option linter.unusedSimpArgs false

def notNl (c : UInt8) : Bool := c != 10
/-- where the line ends -/
def lineEnd (s : ByteArray) (a : Nat) : Nat := a + rowL notNl (s.data.toList.drop a)
/-- the place behind blanks and remarks, and whether a remark there does not end -/
def gapN : Nat → ByteArray → Nat → Nat × Bool
  | 0, _, a => (a, false)
  | f + 1, s, a =>
    if s.size ≤ a then (a, false) else
    if fiveQ ((s.data.toList.drop a).headD 0) = true then gapN f s (a + 1) else
    if (s.data.toList.drop a).take 2 = [45, 45] then gapN f s (lineEnd s a) else
    if (s.data.toList.drop a).take 2 = [47, 42] then (match remAt s a with
      | none => (a, true)
      | some n => gapN f s n) else (a, false)
theorem five_all : ((List.range 256).all fun n => fiveB (n : Int) == (n == 32 || n == 9 || n == 10 || n == 12 || n == 13)) = true := by kernel_rfl
theorem five_eq (c : UInt8) : fiveQ c = (((c.toNat : Int) == 32) || ((c.toNat : Int) == 9) || ((c.toNat : Int) == 10) || ((c.toNat : Int) == 12) || ((c.toNat : Int) == 13)) := by
  have h := beq_iff_eq.1 (List.all_eq_true.1 five_all c.toNat (List.mem_range.2 c.toNat_lt))
  show fiveB (c.toNat : Int) = _
  rw [h]
  have e : ∀ k : Nat, (c.toNat == k) = ((c.toNat : Int) == (k : Int)) := by
    intro k
    rw [Bool.eq_iff_iff, beq_iff_eq, beq_iff_eq]; omega
  rw [e 32, e 9, e 10, e 12, e 13]
  rfl
theorem lineEnd_le (s : ByteArray) (a : Nat) (ha : a ≤ s.size) : lineEnd s a ≤ s.size := by
  unfold lineEnd
  have h1 : rowL notNl (s.data.toList.drop a) ≤ (s.data.toList.drop a).length := rowL_le _ _
  rw [List.length_drop] at h1
  have : s.size = s.data.toList.length := rfl
  omega
theorem lineEnd_gt (s : ByteArray) (a : Nat) (h : (s.data.toList.drop a).take 2 = [45, 45]) : a + 1 ≤ lineEnd s a := by
  have hl := len2 _ _ s a h
  unfold lineEnd
  rw [byte_at s a (by omega), rowL_cons]
  rw [byte_at s a (by omega), List.take_succ_cons] at h
  injection h with h _
  rw [h, if_pos (by decide)]
  omega
theorem remAt_le (s : ByteArray) (a n : Nat) (h : remAt s a = some n) (h2 : (s.data.toList.drop a).take 2 = [47, 42]) : a + 1 ≤ n ∧ n ≤ s.size := by
  have hl := len2 _ _ s a h2
  unfold remAt at h
  cases hr : remL 1 (s.data.toList.drop (a + 2)) with
  | none => rw [hr] at h; cases h
  | some k =>
    rw [hr] at h
    simp at h
    have := remL_le _ _ _ hr
    rw [List.length_drop] at this
    have hs : s.size = s.data.toList.length := rfl
    omega
set_option maxHeartbeats 2000000 in
set_option maxRecDepth 100000 in
theorem rgap_any (s : ByteArray) (a0 : Nat) (w : World) (hs : s.size ≤ 1048000) (ha0 : a0 ≤ s.size) (R : Nat × Bool) (hR : R = gapN (s.size + 1) s a0) :
    Calls Tryz.prog 52 #[.string s, .int .i64 (a0 : Int)] w fun e w' => e = .returned (.tuple #[.int .i64 (R.1 : Int), .bool R.2]) ∧ w' = w := by
  have hst := fun a p ha hp w => starts_any s p a w (by omega) hp ha
  have hre := fun a h w => rremark_any s a w hs h
  have HST := Lib.hid hst
  have HRE := Lib.hid hre
  have HE := Lib.hid hR
  have HA0 := Lib.hid ha0
  clear hst hre hR ha0
  go_enter Tryz.func52, Tryz.ntmps52
  go_wp2
  go_loopg [1] s.size (fun g u1 wx => ∃ a : Nat, a ≤ s.size ∧ s.size - a ≤ g ∧ u1 = .int .i64 (a : Int) ∧ wx = w ∧ R = gapN (g + 1) s a)
  case atStart => exact ⟨a0, HA0.out, by omega, rfl, rfl, HE.out⟩
  case round =>
    obtain ⟨a, ha, hg, rfl, rfl, hv⟩ := hrel
    rw [gapN] at hv
    clear HE HA0
    by_cases hlt : a < s.size
    · obtain ⟨g, rfl⟩ : ∃ g, gk = g + 1 := ⟨gk - 1, by omega⟩
      rw [if_neg (by omega)] at hv
      have l0 : (0 : Int) ≤ (a : Int) := by omega
      have l1 : (a : Int) < (s.size : Int) := by omega
      have hst1 : ∀ w, Calls Tryz.prog 73 #[.string s, .int .i64 (a : Int), .string ⟨#[45, 45]⟩] w fun e w' => e = .returned (.bool ([45, 45].isPrefixOf (s.data.toList.drop a))) ∧ w' = w := fun w => HST.out a ⟨#[45, 45]⟩ ha (by show 2 ≤ _; omega) w
      have hst2 : ∀ w, Calls Tryz.prog 73 #[.string s, .int .i64 (a : Int), .string ⟨#[47, 42]⟩] w fun e w' => e = .returned (.bool ([47, 42].isPrefixOf (s.data.toList.drop a))) ∧ w' = w := fun w => HST.out a ⟨#[47, 42]⟩ ha (by show 2 ≤ _; omega) w
      have hd := byte_at s a hlt
      have hh : (s.data.toList.drop a).headD 0 = s[a] := by rw [hd]; rfl
      rw [hh, five_eq] at hv
      obtain ⟨z, hz⟩ : ∃ z : Int, ((s[a]'hlt).toNat : Int) = z := ⟨_, rfl⟩
      rw [hz] at hv
      obtain ⟨a1, ha1⟩ : ∃ a1, a + 1 = a1 := ⟨_, rfl⟩
      have cw1 : IntKind.i64.wrap ((a : Int) + 1) = (a1 : Int) := by rw [show (a : Int) + 1 = (a1 : Int) by omega]; exact IntWalk.i64_in _ (by omega)
      rw [ha1] at hv
      have HA1 := Lib.hid ha1
      have HV := Lib.hid hv
      clear hd hh ha1 hv
      have leaf : ∀ b, (((z == 32) || (z == 9) || (z == 10) || (z == 12) || (z == 13)) = b) → (if b = true then R = gapN (g + 1) s a1 else R = (if (s.data.toList.drop a).take 2 = [45, 45] then gapN (g + 1) s (lineEnd s a) else
          if (s.data.toList.drop a).take 2 = [47, 42] then (match remAt s a with
            | none => (a, true)
            | some n => gapN (g + 1) s n) else (a, false))) := by
        intro b hb
        have := HV.out
        rw [hb] at this
        cases b with
        | true => rw [if_pos rfl] at this ⊢; exact this
        | false => rw [if_neg (by decide)] at this ⊢; exact this
      have HLF := Lib.hid leaf
      clear leaf HV
      by_cases z1 : z = 32
      · subst z1
        have HN := Lib.hid (show R = gapN (g + 1) s a1 from by have := HLF.out true rfl; rwa [if_pos rfl] at this)
        clear HLF hst1 hst2
        go_wp2
        go_roundg g
        case measure => exact Nat.lt_succ_self _
        case rel => exact ⟨a1, by have := HA1.out; omega, by have := HA1.out; omega, rfl, rfl, HN.out⟩
      by_cases z2 : z = 9
      · subst z2
        have HN := Lib.hid (show R = gapN (g + 1) s a1 from by have := HLF.out true rfl; rwa [if_pos rfl] at this)
        clear HLF hst1 hst2 z1
        go_wp2
        go_roundg g
        case measure => exact Nat.lt_succ_self _
        case rel => exact ⟨a1, by have := HA1.out; omega, by have := HA1.out; omega, rfl, rfl, HN.out⟩
      by_cases z3 : z = 10
      · subst z3
        have HN := Lib.hid (show R = gapN (g + 1) s a1 from by have := HLF.out true rfl; rwa [if_pos rfl] at this)
        clear HLF hst1 hst2 z1 z2
        go_wp2
        go_roundg g
        case measure => exact Nat.lt_succ_self _
        case rel => exact ⟨a1, by have := HA1.out; omega, by have := HA1.out; omega, rfl, rfl, HN.out⟩
      by_cases z4 : z = 12
      · subst z4
        have HN := Lib.hid (show R = gapN (g + 1) s a1 from by have := HLF.out true rfl; rwa [if_pos rfl] at this)
        clear HLF hst1 hst2 z1 z2 z3
        go_wp2
        go_roundg g
        case measure => exact Nat.lt_succ_self _
        case rel => exact ⟨a1, by have := HA1.out; omega, by have := HA1.out; omega, rfl, rfl, HN.out⟩
      by_cases z5 : z = 13
      · subst z5
        have HN := Lib.hid (show R = gapN (g + 1) s a1 from by have := HLF.out true rfl; rwa [if_pos rfl] at this)
        clear HLF hst1 hst2 z1 z2 z3 z4
        go_wp2
        go_roundg g
        case measure => exact Nat.lt_succ_self _
        case rel => exact ⟨a1, by have := HA1.out; omega, by have := HA1.out; omega, rfl, rfl, HN.out⟩
      have e1 : (z == (32 : Int)) = false := by rw [beq_eq_false_iff_ne]; exact z1
      have e2 : (z == (9 : Int)) = false := by rw [beq_eq_false_iff_ne]; exact z2
      have e3 : (z == (10 : Int)) = false := by rw [beq_eq_false_iff_ne]; exact z3
      have e4 : (z == (12 : Int)) = false := by rw [beq_eq_false_iff_ne]; exact z4
      have e5 : (z == (13 : Int)) = false := by rw [beq_eq_false_iff_ne]; exact z5
      have HN := Lib.hid (HLF.out false (by rw [e1, e2, e3, e4, e5]; rfl))
      clear HLF z1 z2 z3 z4 z5
      cases h1 : ([45, 45] : Tx).isPrefixOf (s.data.toList.drop a) with
      | true =>
        rw [h1] at hst1
        have HSN := Lib.hid hst1
        have h1' := (pfx2 _ _ _).1 h1
        have hn : R = gapN (g + 1) s (lineEnd s a) := by have := HN.out; rw [if_neg (by decide), if_pos h1'] at this; exact this
        have hle := lineEnd_le s a ha
        have hgt := lineEnd_gt s a h1'
        obtain ⟨L, hL⟩ : ∃ L, lineEnd s a = L := ⟨_, rfl⟩
        rw [hL] at hn hle hgt
        have HN2 := Lib.hid hn
        have HL := Lib.hid hL
        clear hst1 hst2 h1 h1' hn HN hL
        go_wp2_with (go_at_call 73; (with_reducible refine (HSN.out _).mono ?_); rintro e w1 ⟨rfl, hw1⟩; obtain rfl := hw1.symm)
        go_loop [1] (fun u1 => ∃ i : Nat, i ≤ s.size ∧ u1 = .int .i64 i ∧ L = i + rowL notNl (s.data.toList.drop i)) (fun u1 => s.size - (intOf u1).toNat)
        case atStart => exact ⟨a, ha, rfl, HL.out.symm⟩
        case round =>
          obtain ⟨i, hi, rfl, hv⟩ := hrel
          clear cw1 hz
          by_cases hil : i < s.size
          · have j0 : (0 : Int) ≤ (i : Int) := by omega
            have j1 : (i : Int) < (s.size : Int) := by omega
            rw [byte_at s i hil, rowL_cons] at hv
            obtain ⟨y, hy⟩ : ∃ y : Int, ((s[i]'hil).toNat : Int) = y := ⟨_, rfl⟩
            obtain ⟨i1, hi1⟩ : ∃ i1, i + 1 = i1 := ⟨_, rfl⟩
            have ciw : IntKind.i64.wrap ((i : Int) + 1) = (i1 : Int) := by rw [show (i : Int) + 1 = (i1 : Int) by omega]; exact IntWalk.i64_in _ (by omega)
            have hnl : notNl s[i] = (y != 10) := by
              unfold notNl
              rw [← hy, Bool.eq_iff_iff, bne_iff_ne, bne_iff_ne]
              constructor
              · intro h hh; exact h (UInt8.toNat_inj.1 (by show _ = 10; omega))
              · intro h hh; rw [hh] at h; exact h rfl
            rw [hnl] at hv
            have HI1 := Lib.hid hi1
            by_cases h10 : y = 10
            · subst h10
              rw [if_neg (by decide)] at hv
              have HV := Lib.hid hv
              clear hv hnl hi1
              go_wp2
              go_roundg g
              case measure => exact Nat.lt_succ_self _
              case rel => exact ⟨L, hle, by omega, by rw [HV.out]; rfl, rfl, HN2.out⟩
            · have e10 : (y != (10 : Int)) = true := by rw [bne_iff_ne]; exact h10
              rw [e10, if_pos rfl, hi1] at hv
              have HV := Lib.hid hv
              clear hv hnl hi1 h10
              go_wp2
              go_round
              case rel => exact ⟨i1, by have := HI1.out; omega, rfl, by have := HI1.out; have := HV.out; omega⟩
              case measure => have := HI1.out; simp [intOf]; omega
          · have j1 : ¬ ((i : Int) < (s.size : Int)) := by omega
            have hd0 : s.data.toList.drop i = [] := List.drop_eq_nil_of_le (by have : s.size = s.data.toList.length := rfl; omega)
            rw [hd0] at hv
            have HV := Lib.hid hv
            clear hv hd0
            go_wp2
            go_roundg g
            case measure => exact Nat.lt_succ_self _
            case rel => exact ⟨L, hle, by omega, by rw [HV.out]; rfl, rfl, HN2.out⟩
      | false =>
        rw [h1] at hst1
        have h1' := (pfx2_no _ _ _).1 h1
        cases h2 : ([47, 42] : Tx).isPrefixOf (s.data.toList.drop a) with
        | true =>
          rw [h2] at hst2
          have h2' := (pfx2 _ _ _).1 h2
          have hn : R = (match remAt s a with
            | none => (a, true)
            | some n => gapN (g + 1) s n) := by have := HN.out; rw [if_neg (by decide), if_neg h1', if_pos h2'] at this; exact this
          have hre := HRE.out a h2'
          have hrl := remAt_le s a
          cases hra : remAt s a with
          | none =>
            rw [hra] at hn hre
            have hre2 : ∀ w, Calls Tryz.prog 74 #[.string s, .int .i64 (a : Int)] w fun e w' => e = .returned (.int .i64 (-1)) ∧ w' = w := hre
            have HRE2 := Lib.hid hre2
            have HS1 := Lib.hid hst1
            have HS2 := Lib.hid hst2
            have HN2 := Lib.hid hn
            clear hst1 hst2 h1 h1' h2 h2' hn HN hre hre2 hrl hra
            go_wp2_with (first | (go_at_call 73; (with_reducible refine (HS1.out _).mono ?_); rintro e w1 ⟨rfl, hw1⟩; obtain rfl := hw1.symm) | (go_at_call 73; (with_reducible refine (HS2.out _).mono ?_); rintro e w1 ⟨rfl, hw1⟩; obtain rfl := hw1.symm) | (go_at_call 74; (with_reducible refine (HRE2.out _).mono ?_); rintro e w1 ⟨rfl, hw1⟩; obtain rfl := hw1.symm))
            go_ret2
            exact ⟨by rw [HN2.out]; rfl, rfl⟩
          | some n =>
            rw [hra] at hn hre
            obtain ⟨hn1, hn2⟩ := hrl n hra h2'
            have hre2 : ∀ w, Calls Tryz.prog 74 #[.string s, .int .i64 (a : Int)] w fun e w' => e = .returned (.int .i64 (n : Int)) ∧ w' = w := hre
            have HRE2 := Lib.hid hre2
            have HS1 := Lib.hid hst1
            have HS2 := Lib.hid hst2
            have HN2 := Lib.hid hn
            have hnn : ¬ ((n : Int) < 0) := by omega
            clear hst1 hst2 h1 h1' h2 h2' hn HN hre hre2 hrl hra
            go_wp2_with (first | (go_at_call 73; (with_reducible refine (HS1.out _).mono ?_); rintro e w1 ⟨rfl, hw1⟩; obtain rfl := hw1.symm) | (go_at_call 73; (with_reducible refine (HS2.out _).mono ?_); rintro e w1 ⟨rfl, hw1⟩; obtain rfl := hw1.symm) | (go_at_call 74; (with_reducible refine (HRE2.out _).mono ?_); rintro e w1 ⟨rfl, hw1⟩; obtain rfl := hw1.symm))
            go_roundg g
            case measure => exact Nat.lt_succ_self _
            case rel => exact ⟨n, hn2, by omega, rfl, rfl, HN2.out⟩
        | false =>
          rw [h2] at hst2
          have h2' := (pfx2_no _ _ _).1 h2
          have hn : R = (a, false) := by have := HN.out; rw [if_neg (by decide), if_neg h1', if_neg h2'] at this; exact this
          have HS1 := Lib.hid hst1
          have HS2 := Lib.hid hst2
          have HN2 := Lib.hid hn
          clear hst1 hst2 h1 h1' h2 h2' hn HN
          go_wp2_with (first | (go_at_call 73; (with_reducible refine (HS1.out _).mono ?_); rintro e w1 ⟨rfl, hw1⟩; obtain rfl := hw1.symm) | (go_at_call 73; (with_reducible refine (HS2.out _).mono ?_); rintro e w1 ⟨rfl, hw1⟩; obtain rfl := hw1.symm))
          go_ret2
          exact ⟨by rw [HN2.out]; rfl, rfl⟩
    · have l1 : ¬ ((a : Int) < (s.size : Int)) := by omega
      rw [if_pos (by omega)] at hv
      have HV := Lib.hid hv
      clear hv
      go_wp2
      go_ret2
      exact ⟨by rw [HV.out]; rfl, rfl⟩
end Go.Proofs.YtjloookjlnmgdaaGreatDoor
namespace Go.Proofs.YtjloookjlnmgdaaGreatDoor
open Go.ChangeShapes Go.WideShapes Go.ChangeAt Go.RowKit
set_option maxRecDepth 100000
set_option linter.unusedVariables false
set_option linter.unusedSimpArgs false

set_option maxRecDepth 100000 in
theorem rsmall_any (s : ByteArray) (hs : s.size ≤ 281474976710656) (w : World) : Calls Tryz.prog 77 #[.string s] w fun e w' => e = .returned (.string (smallA s)) ∧ Below w.heap.size w w' := by
  have hconv := run_bytes_of_string (P := Tryz.prog) w 9 95 5 s (by kernel_rfl) (by kernel_rfl) (by kernel_rfl)
  have hI : SmI s w 0 (w.drew.alloc (.cells (bytesRow s (grownCap w s.size 0 5)) 5 ((bytesRow s (grownCap w s.size 0 5)).size, (bytesRow s (grownCap w s.size 0 5)).size + 1))) := by
    have e1 : w.drew.heap.size = w.heap.size := by simp
    refine ⟨fun j hj => ?_, fun j hj => ?_, ((Below.refl _ _).drew).alloc (by simp) _⟩
    · rw [if_neg (by omega)]
      rw [← e1, World.cell?_alloc_mark, bytesRow_at s _ j hj]
      rfl
    · rw [← e1, World.frozen?_alloc_mark]
      have : j < (bytesRow s (grownCap w s.size 0 5)).size := by
        have := bytesRow_at s (grownCap w s.size 0 5) j hj
        exact (Array.getElem?_eq_some_iff.1 this).1
      rw [decide_eq_false (by omega)]; rfl
  generalize (w.drew.alloc (.cells (bytesRow s (grownCap w s.size 0 5)) 5 ((bytesRow s (grownCap w s.size 0 5)).size, (bytesRow s (grownCap w s.size 0 5)).size + 1))) = w1 at *
  generalize grownCap w s.size 0 5 = cap at *
  have HI := Lib.hid hI
  clear hI
  go_enter Tryz.func77, Tryz.ntmps77
  go_wp2
  go_loopw [4] (fun u4 wr => ∃ k : Nat, u4 = .int .i64 (k : Int) ∧ k ≤ s.size ∧ SmI s w k wr) (fun u4 _ => s.size - (match u4 with | .int _ k => k.toNat | _ => 0))
  case atStart => exact ⟨0, rfl, Nat.zero_le _, HI.out⟩
  case round =>
    obtain ⟨k, rfl, hks, hS⟩ := hrel
    clear HI hconv
    have HS := Lib.hid hS
    clear hS
    by_cases hk : k < s.size
    · have lw : Hid ((k : Int) + 1 = ((k + 1 : Nat) : Int)) := Lib.hid (by omega)
      obtain ⟨z, hz⟩ : ∃ z : Int, ((s[k]'hk).toNat : Int) = z := ⟨_, rfl⟩
      have hc : wr.cell? ⟨w.heap.size, k, none⟩ = some (.int .u8 z) := by
        have := HS.out.cell k hk
        rwa [if_neg (by omega), hz] at this
      have hf : wr.frozen? ⟨w.heap.size, k, none⟩ = false := HS.out.fro k hk
      have lk : (k : Int) < (s.size : Int) := by omega
      have l0 : (0 : Int) ≤ (k : Int) := by omega
      have HZ := Lib.hid hz
      clear hz
      by_cases h1 : 65 ≤ z ∧ z ≤ 90
      · obtain ⟨ha, hb⟩ := h1
        have s1 : IntKind.u8.wrap (z + 32) = z + 32 := IntWalk.u8_in _ (by omega)
        go_wp2
        refine ⟨⟨k + 1, by rw [lw.out], by omega, HS.out.put hk _ (by rw [HZ.out]; unfold lowI; rw [if_pos ⟨ha, hb⟩])⟩, ?_⟩
        rw [lw.out]; simp only [Int.toNat_natCast]; omega
      · by_cases h2 : 65 ≤ z
        · have h3 : ¬ (z ≤ 90) := by omega
          clear h1
          go_wp2
          refine ⟨⟨k + 1, by rw [lw.out], by omega, HS.out.keep hk (by rw [HZ.out]; unfold lowI; rw [if_neg (by omega)])⟩, ?_⟩
          rw [lw.out]; simp only [Int.toNat_natCast]; omega
        · clear h1
          go_wp2
          refine ⟨⟨k + 1, by rw [lw.out], by omega, HS.out.keep hk (by rw [HZ.out]; unfold lowI; rw [if_neg (by omega)])⟩, ?_⟩
          rw [lw.out]; simp only [Int.toNat_natCast]; omega
    · have lk : ¬ ((k : Int) < (s.size : Int)) := by omega
      have hks2 : k = s.size := by omega
      have hback := run_convert_bytes_back (P := Tryz.prog) wr 95 9 5 ⟨w.heap.size, 0, none⟩ cap (s.data.toList.map lowB) (by kernel_rfl) (by kernel_rfl) (by kernel_rfl) (fun j hj => by
        have hj2 : j < s.size := by rw [Lib.size_eq]; simpa using hj
        have := HS.out.cell j hj2
        rw [if_pos (by omega)] at this
        have ea : (⟨w.heap.size, 0, none⟩ : Addr).add j = ⟨w.heap.size, j, none⟩ := by simp [Addr.add]; exact fun h => h.symm
        rw [ea, this, List.getElem_map]
        rfl)
      rw [List.length_map, ← Lib.size_eq] at hback
      clear hks2
      go_wp2
      go_ret
      exact ⟨rfl, HS.out.bel⟩
theorem idx_mem (l : Tx) (c : UInt8) : 0 ≤ Lib.indexByte l c ↔ c ∈ l := by
  induction l with
  | nil => simp [Lib.indexByte]
  | cons b r ih =>
    have hge := Lib.indexByte_ge r c
    unfold Lib.indexByte
    by_cases h : b = c
    · subst h; simp
    · have hb : (b == c) = false := by rw [beq_eq_false_iff_ne]; exact h
      rw [hb]
      simp only [Bool.false_eq_true, if_false, List.mem_cons]
      by_cases h1 : Lib.indexByte r c = -1
      · rw [h1]
        have : ¬ (c ∈ r) := fun hm => by have := ih.2 hm; omega
        simp [this]
        exact fun hh => h hh.symm
      · have h2 : (Lib.indexByte r c == -1) = false := by rw [beq_eq_false_iff_ne]; exact h1
        rw [h2]
        simp only [Bool.false_eq_true, if_false]
        constructor
        · intro _; exact .inr (ih.1 (by omega))
        · intro hm
          rcases hm with hm | hm
          · exact absurd hm.symm h
          · have := ih.2 hm; omega
set_option maxHeartbeats 1000000 in
set_option maxRecDepth 100000 in
theorem rsign_any (c : UInt8) (w : World) : Calls Tryz.prog 82 #[.int .u8 (c.toNat : Int)] w fun e w' => e = .returned (.bool (decide (0 ≤ signI c))) ∧ w' = w := by
  obtain ⟨z, hz⟩ : ∃ z : Int, (c.toNat : Int) = z := ⟨_, rfl⟩
  rw [hz]
  have HZ := Lib.hid hz
  obtain ⟨R, hR⟩ : ∃ R, decide (0 ≤ signI c) = R := ⟨_, rfl⟩
  rw [hR]
  have HR := Lib.hid hR
  clear hz hR
  go_enter Tryz.func82, Tryz.ntmps82
  go_wp2
  go_loop [4] (fun u4 => ∃ k : Nat, k ≤ 24 ∧ u4 = .int .i64 k ∧ ∀ j, j < k → signT.data.toList[j]? ≠ some c) (fun u4 => 24 - (intOf u4).toNat)
  case atStart => exact ⟨0, Nat.zero_le _, rfl, fun j h => by omega⟩
  case round =>
    obtain ⟨k, hk, rfl, hn⟩ := hrel
    have HN := Lib.hid hn
    clear hn
    by_cases hlt : k < 24
    · have l0 : (0 : Int) ≤ (k : Int) := by omega
      have l1 : (k : Int) < 24 := by omega
      obtain ⟨y, hy⟩ : ∃ y : UInt8, signT.data.toList[k]'hlt = y := ⟨_, rfl⟩
      have hci : ((signT[k]'hlt).toNat : Int) = (y.toNat : Int) := by rw [← hy]; rfl
      have hy2 : signT.data.toList[k]? = some y := by rw [List.getElem?_eq_getElem hlt, hy]
      obtain ⟨x, hx⟩ : ∃ x : Int, (y.toNat : Int) = x := ⟨_, rfl⟩
      rw [hx] at hci
      have HX := Lib.hid hx
      have HY := Lib.hid hy2
      clear hx hy hy2
      by_cases he : x = z
      · have e : (x == z) = true := by rw [beq_iff_eq]; exact he
        have hyc : y = c := UInt8.toNat_inj.1 (by have := HX.out; have := HZ.out; omega)
        have hr : R = true := by
          rw [← HR.out]
          refine decide_eq_true ((idx_mem _ _).2 ?_)
          rw [← hyc]
          exact List.mem_of_getElem? HY.out
        have HRR := Lib.hid hr
        clear he hyc hr
        go_wp2
        go_ret
        exact ⟨by rw [HRR.out]; rfl, rfl⟩
      · have e : (x == z) = false := by rw [beq_eq_false_iff_ne]; exact he
        have hyc : y ≠ c := fun h => he (by have h1 := HX.out; have h2 := HZ.out; rw [h] at h1; omega)
        have HYC := Lib.hid hyc
        clear he hyc
        go_wp2
        go_round
        case rel =>
          refine ⟨k + 1, by omega, by go_num, fun j hj => ?_⟩
          by_cases hjk : j < k
          · exact HN.out j hjk
          · have : j = k := by omega
            subst this
            rw [HY.out]
            intro h
            exact HYC.out (Option.some.inj h)
        case measure => simp [intOf]; omega
    · have l1 : ¬ ((k : Int) < 24) := by omega
      have hr : R = false := by
        rw [← HR.out]
        refine decide_eq_false fun h => ?_
        obtain ⟨j, hj⟩ := List.getElem?_of_mem ((idx_mem _ _).1 h)
        exact HN.out j (by have := (List.getElem?_eq_some_iff.1 hj).1; have h24 : signT.data.toList.length = 24 := rfl; omega) hj
      have HRR := Lib.hid hr
      clear hr
      go_wp2
      go_ret
      exact ⟨by rw [HRR.out]; rfl, rfl⟩
end Go.Proofs.YtjloookjlnmgdaaGreatDoor
namespace Go.Proofs.YtjloookjlnmgdaaGreatDoor
open Go.ChangeShapes Go.WideShapes Go.ChangeAt Go.RowKit
set_option maxRecDepth 100000
set_option linter.unusedVariables false
set_option linter.unusedSimpArgs false

/-- the text in quotes that stand at a place, and the place behind -/
def quoAt (s : ByteArray) (a : Nat) (q : UInt8) : Option (Tx × Nat) := (betL q (s.data.toList.drop (a + 1))).map (fun p => (p.1, p.2 + (a + 1)))
def quoV (o : Option (Tx × Nat)) : Value := match o with
  | some p => .tuple #[.string (bb p.1), .int .i64 (p.2 : Int)]
  | none => .tuple #[.string ⟨#[]⟩, .int .i64 (-1)]
theorem drop_nil (s : ByteArray) (a : Nat) (h : ¬ a < s.size) : s.data.toList.drop a = [] := List.drop_eq_nil_of_le (by have : s.size = s.data.toList.length := rfl; omega)
theorem bet_on (s : ByteArray) (q : UInt8) (i : Nat) (h : i < s.size) (T : Tx) (hc : s[i] ≠ q) : (betL q (s.data.toList.drop i)).map (fun p => (T ++ p.1, p.2 + i)) = (betL q (s.data.toList.drop (i + 1))).map (fun p => ((T ++ [s[i]]) ++ p.1, p.2 + (i + 1))) := by
  rw [byte_at s i h, betL_cons, if_neg hc]
  cases betL q (s.data.toList.drop (i + 1)) with
  | none => rfl
  | some p => simp; omega
theorem bet_two (s : ByteArray) (q : UInt8) (i : Nat) (h : i + 1 < s.size) (T : Tx) (hc : s[i] = q) (hd : s[i + 1] = q) : (betL q (s.data.toList.drop i)).map (fun p => (T ++ p.1, p.2 + i)) = (betL q (s.data.toList.drop (i + 2))).map (fun p => ((T ++ [q]) ++ p.1, p.2 + (i + 2))) := by
  rw [byte_at s i (by omega), betL_cons, if_pos hc, byte_at s (i + 1) h]
  simp only [hd, if_true]
  cases betL q (s.data.toList.drop (i + 1 + 1)) with
  | none => rfl
  | some p => simp; omega
theorem bet_end (s : ByteArray) (q : UInt8) (i : Nat) (h : i < s.size) (T : Tx) (hc : s[i] = q) (hd : ∀ h2 : i + 1 < s.size, s[i + 1] ≠ q) : (betL q (s.data.toList.drop i)).map (fun p => (T ++ p.1, p.2 + i)) = some (T, i + 1) := by
  rw [byte_at s i h, betL_cons, if_pos hc]
  by_cases h2 : i + 1 < s.size
  · rw [byte_at s (i + 1) h2]
    simp only [hd h2, if_false]
    simp; omega
  · rw [drop_nil s (i + 1) h2]
    simp; omega
set_option maxHeartbeats 1000000 in
set_option maxRecDepth 100000 in
theorem rquoted_any (s : ByteArray) (a : Nat) (ha : a < s.size) (w : World) (hs : s.size ≤ 1048000) :
    Calls Tryz.prog 79 #[.string s, .int .i64 (a : Int)] w fun e w' => e = .returned (quoV (quoAt s a s[a])) ∧ w' = w := by
  obtain ⟨q, hq⟩ : ∃ q, s[a] = q := ⟨_, rfl⟩
  rw [hq]
  obtain ⟨qi, hqi⟩ : ∃ z : Int, (q.toNat : Int) = z := ⟨_, rfl⟩
  have hci : ((s[a]'ha).toNat : Int) = qi := by rw [hq, hqi]
  have l0 : (0 : Int) ≤ (a : Int) := by omega
  have l1 : (a : Int) < (s.size : Int) := by omega
  obtain ⟨R, hR⟩ : ∃ R, quoAt s a q = R := ⟨_, rfl⟩
  rw [hR]
  obtain ⟨a1, ha1⟩ : ∃ a1, a + 1 = a1 := ⟨_, rfl⟩
  have cw : IntKind.i64.wrap ((a : Int) + 1) = (a1 : Int) := by rw [show (a : Int) + 1 = (a1 : Int) by omega]; exact IntWalk.i64_in _ (by omega)
  have h0 : R = (betL q (s.data.toList.drop a1)).map (fun p => ([] ++ p.1, p.2 + a1)) := by rw [← hR, ← ha1]; rfl
  have H0 := Lib.hid h0
  have HA1 := Lib.hid ha1
  have HQI := Lib.hid hqi
  clear hR h0 ha1 hq hqi
  go_enter Tryz.func79, Tryz.ntmps79
  go_wp2
  go_loop [7, 8] (fun u7 u8' => ∃ (i : Nat) (T : Tx), i ≤ s.size ∧ T.length ≤ i ∧ u7 = .string (bb T) ∧ u8' = .int .i64 i ∧ R = (betL q (s.data.toList.drop i)).map (fun p => (T ++ p.1, p.2 + i))) (fun _ u8' => s.size - (intOf u8').toNat)
  case atStart => exact ⟨a1, [], by have := HA1.out; omega, Nat.zero_le _, rfl, rfl, H0.out⟩
  case round =>
    obtain ⟨i, T, hi, hT, rfl, rfl, hv⟩ := hrel
    clear hci l0 l1 cw H0 HA1
    have hTs : (bb T).size ≤ 1048000 := by rw [bb_size]; omega
    by_cases hlt : i < s.size
    · have l0 : (0 : Int) ≤ (i : Int) := by omega
      have l1 : (i : Int) < (s.size : Int) := by omega
      obtain ⟨c, hc⟩ : ∃ c, s[i]'hlt = c := ⟨_, rfl⟩
      obtain ⟨z, hz⟩ : ∃ z : Int, (c.toNat : Int) = z := ⟨_, rfl⟩
      have hci : ((s[i]'hlt).toNat : Int) = z := by rw [hc, hz]
      obtain ⟨i1, hi1⟩ : ∃ i1, i + 1 = i1 := ⟨_, rfl⟩
      have cw : IntKind.i64.wrap ((i : Int) + 1) = (i1 : Int) := by rw [show (i : Int) + 1 = (i1 : Int) by omega]; exact IntWalk.i64_in _ (by omega)
      have m1 : (i : Int) ≤ (i1 : Int) := by omega
      have m2 : (i1 : Int) ≤ (s.size : Int) := by omega
      have hxe : s.extract i i1 = bb [c] := by rw [← hi1, ← hc]; exact ext_one s i hlt
      have hxs : (s.extract i i1).size = 1 := by rw [hxe]; rfl
      by_cases hcq : c = q
      · have hzq : z = qi := by have := HQI.out; rw [← hz, hcq]; exact this
        by_cases h2 : i1 < s.size ∧ ∀ h : i1 < s.size, s[i1] = q
        · obtain ⟨h2, h3f⟩ := h2
          have h3 := h3f h2
          clear h3f
          have hci2 : ((s[i1]'h2).toNat : Int) = qi := by rw [h3]; exact HQI.out
          have n0 : (0 : Int) ≤ (i1 : Int) := by omega
          have n1 : (i1 : Int) < (s.size : Int) := by omega
          obtain ⟨i2, hi2⟩ : ∃ i2, i1 + 1 = i2 := ⟨_, rfl⟩
          have cw2 : IntKind.i64.wrap ((i1 : Int) + 1) = (i2 : Int) := by rw [show (i1 : Int) + 1 = (i2 : Int) by omega]; exact IntWalk.i64_in _ (by omega)
          have hn : R = (betL q (s.data.toList.drop i2)).map (fun p => ((T ++ [q]) ++ p.1, p.2 + i2)) := by
            have e : i2 = i + 2 := by omega
            rw [hv, e]
            subst hi1
            exact bet_two s q i h2 T (by rw [hc, hcq]) h3
          have HN := Lib.hid hn
          have HE := Lib.hid (show bb T ++ s.extract i i1 = bb (T ++ [q]) by rw [hxe, bb_app, hcq])
          have HI := Lib.hid (show i2 = i + 2 ∧ i2 ≤ s.size by omega)
          subst hzq
          clear hn hv hxe hi1 hi2 hcq hc hz h3
          generalize bb T = TT at *
          go_wp2
          go_round
          case rel => exact ⟨i2, T ++ [q], by have := HI.out; omega, by have := HI.out; rw [List.length_append, List.length_singleton]; omega, by rw [HE.out], rfl, HN.out⟩
          case measure => have := HI.out; simp [intOf]; omega
        · have hn : R = some (T, i1) := by
            rw [hv, ← hi1]
            refine bet_end s q i hlt T (by rw [hc, hcq]) fun h4 h5 => h2 ⟨by omega, fun h => ?_⟩
            subst hi1; exact h5
          have HN := Lib.hid hn
          subst hzq
          by_cases h4 : i1 < s.size
          · obtain ⟨y, hy⟩ : ∃ y : Int, ((s[i1]'h4).toNat : Int) = y := ⟨_, rfl⟩
            have hyq : (y == z) = false := by
              rw [beq_eq_false_iff_ne]
              intro h
              exact h2 ⟨h4, fun _ => UInt8.toNat_inj.1 (by have := HQI.out; omega)⟩
            have n0 : (0 : Int) ≤ (i1 : Int) := by omega
            have n1 : (i1 : Int) < (s.size : Int) := by omega
            clear hn hv hxe hi1 hcq hc hz h2
            go_wp2
            go_ret2
            exact ⟨by rw [HN.out]; rfl, rfl⟩
          · have n1 : ¬ ((i1 : Int) < (s.size : Int)) := by omega
            clear hn hv hxe hi1 hcq hc hz h2
            go_wp2
            go_ret2
            exact ⟨by rw [HN.out]; rfl, rfl⟩
      · have hzq : (z != qi) = true := by
          rw [bne_iff_ne]
          intro h
          exact hcq (UInt8.toNat_inj.1 (by have := HQI.out; omega))
        have hn : R = (betL q (s.data.toList.drop i1)).map (fun p => ((T ++ [c]) ++ p.1, p.2 + i1)) := by
          rw [hv, ← hi1, bet_on s q i hlt T (by rw [hc]; exact hcq), hc]
        have HN := Lib.hid hn
        have HE := Lib.hid (show bb T ++ s.extract i i1 = bb (T ++ [c]) by rw [hxe, bb_app])
        have HI := Lib.hid (show i1 = i + 1 by omega)
        clear hn hv hxe hi1 hcq hc hz
        generalize bb T = TT at *
        go_wp2
        go_round
        case rel => exact ⟨i1, T ++ [c], by have := HI.out; omega, by have := HI.out; rw [List.length_append, List.length_singleton]; omega, by rw [HE.out], rfl, HN.out⟩
        case measure => have := HI.out; simp [intOf]; omega
    · have l1 : ¬ ((i : Int) < (s.size : Int)) := by omega
      have hn : R = none := by rw [hv, drop_nil s i hlt]; rfl
      have HN := Lib.hid hn
      clear hn hv
      go_wp2
      go_ret2
      exact ⟨by rw [HN.out]; rfl, rfl⟩
end Go.Proofs.YtjloookjlnmgdaaGreatDoor
namespace Go.Proofs.YtjloookjlnmgdaaGreatDoor
open Go.ChangeShapes Go.WideShapes Go.ChangeAt Go.RowKit
set_option maxRecDepth 100000
set_option linter.unusedVariables false
set_option linter.unusedSimpArgs false

/-- how many bytes of a tag stand at the beginning of a text -/
def tagL (l : Tx) : Nat := if rowL letB l = 0 then 0 else rowL tagB l
/-- the place behind a tag with its dollars, that stands at a place -/
def tagAt (s : ByteArray) (a : Nat) : Int :=
  if (s.data.toList.drop (a + 1 + tagL (s.data.toList.drop (a + 1)))).take 1 = [36] then ((a + 1 + tagL (s.data.toList.drop (a + 1)) + 1 : Nat) : Int) else -1
theorem let_tag (c : UInt8) (h : letB c = true) : tagB c = true := by
  show tagN (c.toNat : Int) = true
  have : letN (c.toNat : Int) = true := h
  unfold tagN
  rw [this]; rfl
theorem tagB_eq (c : UInt8) : tagB c = (letN (c.toNat : Int) || digN (c.toNat : Int)) := rfl
theorem tagL_cons (c : UInt8) (r : Tx) : tagL (c :: r) = if letB c = true then rowL tagB r + 1 else 0 := by
  unfold tagL
  rw [rowL_cons letB]
  by_cases h : letB c = true
  · rw [if_pos h, if_pos h, if_neg (by omega), rowL_cons, if_pos (let_tag c h)]
  · rw [if_neg h, if_neg h, if_pos rfl]
theorem tagL_le (l : Tx) : tagL l ≤ l.length := by
  unfold tagL
  split
  · omega
  · exact rowL_le _ _
set_option maxHeartbeats 1000000 in
set_option maxRecDepth 100000 in
theorem rtag_any (s : ByteArray) (a : Nat) (ha : a < s.size) (w : World) (hs : s.size ≤ 1048000) :
    Calls Tryz.prog 80 #[.string s, .int .i64 (a : Int)] w fun e w' => e = .returned (.int .i64 (tagAt s a)) ∧ w' = w := by
  have l0 : (0 : Int) ≤ (a : Int) := by omega
  obtain ⟨a1, ha1⟩ : ∃ a1, a + 1 = a1 := ⟨_, rfl⟩
  have cw : IntKind.i64.wrap ((a : Int) + 1) = (a1 : Int) := by rw [show (a : Int) + 1 = (a1 : Int) by omega]; exact IntWalk.i64_in _ (by omega)
  obtain ⟨R, hR⟩ : ∃ R, tagAt s a = R := ⟨_, rfl⟩
  rw [hR]
  obtain ⟨E, hE⟩ : ∃ E, a1 + tagL (s.data.toList.drop a1) = E := ⟨_, rfl⟩
  have hR2 : R = if (s.data.toList.drop E).take 1 = [36] then ((E + 1 : Nat) : Int) else -1 := by rw [← hR]; unfold tagAt; rw [ha1, hE]
  have hE2 : E ≤ s.size := by
    have h1 := tagL_le (s.data.toList.drop a1)
    rw [List.length_drop] at h1
    have : s.size = s.data.toList.length := rfl
    omega
  have HR := Lib.hid hR2
  have HE := Lib.hid hE
  have HA1 := Lib.hid ha1
  clear hR hE hR2 ha1
  go_enter Tryz.func80, Tryz.ntmps80
  go_wp2
  go_loop [5] (fun u5 => ∃ i : Nat, i ≤ s.size ∧ u5 = .int .i64 i ∧ ((i = a1 ∧ E = i + tagL (s.data.toList.drop i)) ∨ (a1 < i ∧ E = i + rowL tagB (s.data.toList.drop i)))) (fun u5 => s.size - (intOf u5).toNat)
  case atStart => exact ⟨a1, by have := HA1.out; omega, rfl, .inl ⟨rfl, HE.out.symm⟩⟩
  case round =>
    obtain ⟨i, hi, rfl, hv⟩ := hrel
    have HV := Lib.hid hv
    clear hv HE
    have hexit : ∀ (h : E = i), Hid (E = i) := fun h => Lib.hid h
    by_cases hlt : i < s.size
    · have m0 : (0 : Int) ≤ (i : Int) := by omega
      have m1 : (i : Int) < (s.size : Int) := by omega
      obtain ⟨c, hc⟩ : ∃ c, s[i]'hlt = c := ⟨_, rfl⟩
      obtain ⟨z, hz⟩ : ∃ z : Int, (c.toNat : Int) = z := ⟨_, rfl⟩
      have hci : ((s[i]'hlt).toNat : Int) = z := by rw [hc, hz]
      obtain ⟨i1, hi1⟩ : ∃ i1, i + 1 = i1 := ⟨_, rfl⟩
      have cwi : IntKind.i64.wrap ((i : Int) + 1) = (i1 : Int) := by rw [show (i : Int) + 1 = (i1 : Int) by omega]; exact IntWalk.i64_in _ (by omega)
      have HI1 := Lib.hid hi1
      have hlet := fun w => rlet_any z w
      have hdig := fun w => rdig_any z w
      have hd := byte_at s i hlt
      rw [hc] at hd
      have hlb : letB c = letN z := by rw [← hz]; rfl
      have hdb : tagB c = (letN z || digN z) := by rw [tagB_eq, hz]
      have HD := Lib.hid hd
      have HLB := Lib.hid hlb
      have HDB := Lib.hid hdb
      have HLET := Lib.hid hlet
      have HDIG := Lib.hid hdig
      have htk : (s.data.toList.drop i).take 1 = [c] := by rw [hd]; rfl
      have HTK := Lib.hid htk
      have HZ := Lib.hid hz
      clear hlet hdig hd hlb hdb hi1 hc hz htk
      generalize hbl : letN z = bl at *
      generalize hbd : digN z = bd at *
      clear hbl hbd
      cases bl with
      | true =>
        have hn : i1 ≤ s.size ∧ a1 < i1 ∧ E = i1 + rowL tagB (s.data.toList.drop i1) := by
          have h1 := HI1.out
          rcases HV.out with ⟨e, h⟩ | ⟨e, h⟩
          · rw [HD.out, tagL_cons, if_pos HLB.out, h1] at h
            exact ⟨by omega, by omega, by omega⟩
          · rw [HD.out, rowL_cons, if_pos (by rw [HDB.out]; rfl), h1] at h
            exact ⟨by omega, by omega, by omega⟩
        have HN := Lib.hid hn
        clear hn
        go_wp2_with (first
          | (go_at_call 75; (with_reducible refine (HLET.out _).mono ?_); rintro e w1 ⟨rfl, hw1⟩; obtain rfl := hw1.symm)
          | (go_at_call 78; (with_reducible refine (HDIG.out _).mono ?_); rintro e w1 ⟨rfl, hw1⟩; obtain rfl := hw1.symm))
        go_round
        case rel => exact ⟨i1, HN.out.1, rfl, .inr HN.out.2⟩
        case measure => have := HI1.out; simp [intOf]; omega
      | false =>
        have hcases : (i = a1 ∧ E = i) ∨ (((a1 : Int) < (i : Int)) ∧ bd = false ∧ E = i) ∨ (((a1 : Int) < (i : Int)) ∧ bd = true ∧ i1 ≤ s.size ∧ a1 < i1 ∧ E = i1 + rowL tagB (s.data.toList.drop i1)) := by
          have h1 := HI1.out
          rcases HV.out with ⟨e, h⟩ | ⟨e, h⟩
          · left
            rw [HD.out, tagL_cons, if_neg (by rw [HLB.out]; decide)] at h
            exact ⟨e, by omega⟩
          · right
            rw [HD.out, rowL_cons, HDB.out, h1] at h
            cases bd with
            | false => left; rw [if_neg (by decide)] at h; exact ⟨by omega, rfl, by omega⟩
            | true => right; rw [if_pos (by decide)] at h; exact ⟨by omega, rfl, by omega, by omega, by omega⟩
        rcases hcases with ⟨rfl, h⟩ | ⟨hai, rfl, h⟩ | ⟨hai, rfl, h⟩
        · have hai : ¬ ((i : Int) < (i : Int)) := by omega
          have he : R = if z = 36 then (i1 : Int) else -1 := by
            rw [HR.out, h, HTK.out]
            have h1 := HI1.out
            have h2 := HZ.out
            by_cases h36 : c = 36
            · rw [if_pos (by rw [h36]), if_pos (by rw [← h2, h36]; rfl)]; omega
            · rw [if_neg (by intro hh; injection hh with hh; exact h36 hh), if_neg (by intro hh; exact h36 (UInt8.toNat_inj.1 (by show _ = 36; omega)))]
          have HEX := Lib.hid he
          clear he h hexit
          by_cases h36 : z = 36
          · subst h36
            go_wp2_with (first
              | (go_at_call 75; (with_reducible refine (HLET.out _).mono ?_); rintro e w1 ⟨rfl, hw1⟩; obtain rfl := hw1.symm)
              | (go_at_call 78; (with_reducible refine (HDIG.out _).mono ?_); rintro e w1 ⟨rfl, hw1⟩; obtain rfl := hw1.symm))
            go_ret
            exact ⟨by rw [HEX.out]; rfl, rfl⟩
          · have e36 : (z == (36 : Int)) = false := by rw [beq_eq_false_iff_ne]; exact h36
            have HNE := Lib.hid h36
            clear h36
            go_wp2_with (first
              | (go_at_call 75; (with_reducible refine (HLET.out _).mono ?_); rintro e w1 ⟨rfl, hw1⟩; obtain rfl := hw1.symm)
              | (go_at_call 78; (with_reducible refine (HDIG.out _).mono ?_); rintro e w1 ⟨rfl, hw1⟩; obtain rfl := hw1.symm))
            go_ret
            exact ⟨by rw [HEX.out, if_neg HNE.out]; rfl, rfl⟩
        · have he : R = if z = 36 then (i1 : Int) else -1 := by
            rw [HR.out, h, HTK.out]
            have h1 := HI1.out
            have h2 := HZ.out
            by_cases h36 : c = 36
            · rw [if_pos (by rw [h36]), if_pos (by rw [← h2, h36]; rfl)]; omega
            · rw [if_neg (by intro hh; injection hh with hh; exact h36 hh), if_neg (by intro hh; exact h36 (UInt8.toNat_inj.1 (by show _ = 36; omega)))]
          have HEX := Lib.hid he
          clear he h hexit
          by_cases h36 : z = 36
          · subst h36
            go_wp2_with (first
              | (go_at_call 75; (with_reducible refine (HLET.out _).mono ?_); rintro e w1 ⟨rfl, hw1⟩; obtain rfl := hw1.symm)
              | (go_at_call 78; (with_reducible refine (HDIG.out _).mono ?_); rintro e w1 ⟨rfl, hw1⟩; obtain rfl := hw1.symm))
            go_ret
            exact ⟨by rw [HEX.out]; rfl, rfl⟩
          · have e36 : (z == (36 : Int)) = false := by rw [beq_eq_false_iff_ne]; exact h36
            have HNE := Lib.hid h36
            clear h36
            go_wp2_with (first
              | (go_at_call 75; (with_reducible refine (HLET.out _).mono ?_); rintro e w1 ⟨rfl, hw1⟩; obtain rfl := hw1.symm)
              | (go_at_call 78; (with_reducible refine (HDIG.out _).mono ?_); rintro e w1 ⟨rfl, hw1⟩; obtain rfl := hw1.symm))
            go_ret
            exact ⟨by rw [HEX.out, if_neg HNE.out]; rfl, rfl⟩
        · have HN := Lib.hid h
          clear h
          go_wp2_with (first
            | (go_at_call 75; (with_reducible refine (HLET.out _).mono ?_); rintro e w1 ⟨rfl, hw1⟩; obtain rfl := hw1.symm)
            | (go_at_call 78; (with_reducible refine (HDIG.out _).mono ?_); rintro e w1 ⟨rfl, hw1⟩; obtain rfl := hw1.symm))
          go_round
          case rel => exact ⟨i1, HN.out.1, rfl, .inr HN.out.2⟩
          case measure => have := HI1.out; simp [intOf]; omega
    · have m1 : ¬ ((i : Int) < (s.size : Int)) := by omega
      have hd := drop_nil s i hlt
      have hn : R = -1 := by
        have he : E = i := by
          rcases HV.out with ⟨e, h⟩ | ⟨e, h⟩
          · rw [hd] at h; exact h
          · rw [hd] at h; exact h
        rw [HR.out, he, hd]; rfl
      have HN := Lib.hid hn
      clear hn hd hexit
      go_wp2
      go_ret
      exact ⟨by rw [HN.out]; rfl, rfl⟩
end Go.Proofs.YtjloookjlnmgdaaGreatDoor
namespace Go.Proofs.YtjloookjlnmgdaaGreatDoor
open Go.ChangeShapes Go.WideShapes Go.ChangeAt Go.RowKit
set_option maxRecDepth 100000
set_option linter.unusedVariables false
set_option linter.unusedSimpArgs false

/-- the text that a tag begins, and the place behind -/
def dolAt (s : ByteArray) (a t : Nat) : Option (Tx × Nat) :=
  if 0 ≤ Lib.index (s.data.toList.drop t) (s.extract a t).data.toList then
    some ((s.data.toList.drop t).take (Lib.index (s.data.toList.drop t) (s.extract a t).data.toList).toNat, t + (Lib.index (s.data.toList.drop t) (s.extract a t).data.toList).toNat + (t - a)) else none
theorem idx_cons (b : UInt8) (l m : Tx) : Lib.index (b :: l) m = if m.isPrefixOf (b :: l) = true then 0 else if Lib.index l m = -1 then -1 else Lib.index l m + 1 := by
  rw [Lib.index]
  by_cases h : m.isPrefixOf (b :: l) = true
  · rw [if_pos h, if_pos h]
  · rw [if_neg h, if_neg h]
    by_cases h2 : Lib.index l m = -1
    · rw [if_pos h2, if_pos (by rw [h2]; rfl)]
    · rw [if_neg h2, if_neg (by rw [beq_iff_eq]; exact h2)]
theorem idx_nil (m : Tx) (h : m ≠ []) : Lib.index [] m = -1 := by
  rw [Lib.index, if_neg]
  cases m with
  | nil => exact absurd rfl h
  | cons => simp
theorem ext_to (s : ByteArray) (t i : Nat) (h : i ≤ s.size) : s.extract t i = bb ((s.data.toList.drop t).take (i - t)) := by
  apply ByteArray.ext
  apply Array.ext'
  rw [ByteArray.data_extract, Array.toList_extract, List.extract_eq_take_drop]
set_option maxHeartbeats 1000000 in
set_option maxRecDepth 100000 in
theorem rdollar_any (s : ByteArray) (a t : Nat) (hat : a < t) (ht : t ≤ s.size) (w : World) (hs : s.size ≤ 1048000) :
    Calls Tryz.prog 81 #[.string s, .int .i64 (a : Int), .int .i64 (t : Int)] w fun e w' => e = .returned (quoV (dolAt s a t)) ∧ w' = w := by
  have hms : (s.extract a t).size ≤ 1048000 := by rw [ByteArray.size_extract]; omega
  have hmn : (s.extract a t).data.toList ≠ [] := by
    intro h
    have := congrArg List.length h
    have e : (s.extract a t).data.toList.length = (s.extract a t).size := rfl
    rw [e, ByteArray.size_extract] at this
    simp at this; omega
  have hst := fun i hi w => starts_any s (s.extract a t) i w (by omega) (by omega) hi
  obtain ⟨D, hD⟩ : ∃ D, Lib.index (s.data.toList.drop t) (s.extract a t).data.toList = D := ⟨_, rfl⟩
  have hR : dolAt s a t = if 0 ≤ D then some ((s.data.toList.drop t).take D.toNat, t + D.toNat + (t - a)) else none := by rw [← hD]; rfl
  obtain ⟨R, hR1⟩ : ∃ R, dolAt s a t = R := ⟨_, rfl⟩
  rw [hR1] at hR
  rw [hR1]
  have l0 : (0 : Int) ≤ (a : Int) := by omega
  have l1 : (a : Int) ≤ (t : Int) := by omega
  have l2 : (t : Int) ≤ (s.size : Int) := by omega
  have hge := Lib.index_ge
  have HR := Lib.hid hR
  have HD := Lib.hid hD
  have HST := Lib.hid hst
  have HMN := Lib.hid hmn
  clear hR hR1 hD hst hmn hge
  go_enter Tryz.func81, Tryz.ntmps81
  go_wp2
  go_loop [8] (fun u8' => ∃ i : Nat, t ≤ i ∧ i ≤ s.size + 1 ∧ u8' = .int .i64 i ∧ ((i ≤ s.size ∧ D = if Lib.index (s.data.toList.drop i) (s.extract a t).data.toList = -1 then -1 else ((i - t : Nat) : Int) + Lib.index (s.data.toList.drop i) (s.extract a t).data.toList) ∨ (s.size < i ∧ D = -1))) (fun u8' => s.size + 1 - (intOf u8').toNat)
  case atStart =>
    refine ⟨t, Nat.le_refl _, by omega, rfl, .inl ⟨ht, ?_⟩⟩
    rw [HD.out, Nat.sub_self]
    by_cases h : D = -1
    · rw [if_pos h]; exact h
    · rw [if_neg h]; omega
  case round =>
    obtain ⟨i, hti, hi, rfl, hv⟩ := hrel
    have HV := Lib.hid hv
    clear hv HD
    by_cases hle : i ≤ s.size
    · have m1 : (i : Int) ≤ (s.size : Int) := by omega
      have m2 : (t : Int) ≤ (i : Int) := by omega
      have m0 : (0 : Int) ≤ (i : Int) := by omega
      have hcall := HST.out i hle
      have hv : D = if Lib.index (s.data.toList.drop i) (s.extract a t).data.toList = -1 then -1 else ((i - t : Nat) : Int) + Lib.index (s.data.toList.drop i) (s.extract a t).data.toList := by
        rcases HV.out with ⟨_, h⟩ | ⟨h, _⟩
        · exact h
        · omega
      cases hb : (s.extract a t).data.toList.isPrefixOf (s.data.toList.drop i) with
      | true =>
        rw [hb] at hcall
        have hlt : i < s.size := by
          rcases Nat.lt_or_ge i s.size with h | h
          · exact h
          · rw [drop_nil s i (by omega)] at hb
            have := (List.isPrefixOf_iff_prefix.1 hb).length_le
            exact absurd (List.eq_nil_of_length_eq_zero (by simpa using this)) HMN.out
        have hidx : Lib.index (s.data.toList.drop i) (s.extract a t).data.toList = 0 := by
          rw [byte_at s i hlt] at hb ⊢
          rw [idx_cons, if_pos hb]
        rw [hidx, if_neg (by omega)] at hv
        have hn : R = some ((s.data.toList.drop t).take (i - t), i + (t - a)) := by
          have hDn : D.toNat = i - t := by omega
          rw [HR.out, if_pos (by omega), hDn]
          congr 2
          omega
        have hxe := ext_to s t i hle
        obtain ⟨b, hbb⟩ : ∃ b, i + t = b := ⟨_, rfl⟩
        obtain ⟨c, hcc⟩ : ∃ c, i + (t - a) = c := ⟨_, rfl⟩
        have cw1 : IntKind.i64.wrap ((i : Int) + (t : Int)) = (b : Int) := by rw [show (i : Int) + (t : Int) = (b : Int) by omega]; exact IntWalk.i64_in _ (by omega)
        have cw2 : IntKind.i64.wrap ((b : Int) - (a : Int)) = (c : Int) := by rw [show (b : Int) - (a : Int) = (c : Int) by omega]; exact IntWalk.i64_in _ (by omega)
        rw [hcc] at hn
        have HN := Lib.hid hn
        have HXE := Lib.hid hxe
        have HC := Lib.hid hcall
        clear hv hb hidx hn hxe hbb hcc hcall HV
        go_wp2_with (go_at_call 73; (with_reducible refine (HC.out _).mono ?_); rintro e w1 ⟨rfl, hw1⟩; obtain rfl := hw1.symm)
        go_ret2
        exact ⟨by rw [HN.out, HXE.out]; rfl, rfl⟩
      | false =>
        rw [hb] at hcall
        have hn : ((i + 1 ≤ s.size ∧ D = if Lib.index (s.data.toList.drop (i + 1)) (s.extract a t).data.toList = -1 then -1 else ((i + 1 - t : Nat) : Int) + Lib.index (s.data.toList.drop (i + 1)) (s.extract a t).data.toList) ∨ (s.size < i + 1 ∧ D = -1)) := by
          by_cases hlt : i < s.size
          · left
            refine ⟨hlt, ?_⟩
            have hix : Lib.index (s.data.toList.drop i) (s.extract a t).data.toList = if Lib.index (s.data.toList.drop (i + 1)) (s.extract a t).data.toList = -1 then -1 else Lib.index (s.data.toList.drop (i + 1)) (s.extract a t).data.toList + 1 := by
              rw [byte_at s i hlt] at hb ⊢
              rw [idx_cons, if_neg]
              rw [hb]; simp
            rw [hix] at hv
            by_cases h1 : Lib.index (s.data.toList.drop (i + 1)) (s.extract a t).data.toList = -1
            · rw [if_pos h1, if_pos rfl] at hv; rw [if_pos h1]; exact hv
            · have hge := Lib.index_ge (s.data.toList.drop (i + 1)) (s.extract a t).data.toList
              rw [if_neg h1, if_neg (by omega)] at hv
              rw [if_neg h1]; omega
          · right
            rw [drop_nil s i hlt, idx_nil _ HMN.out, if_pos rfl] at hv
            exact ⟨by omega, hv⟩
        have HN := Lib.hid hn
        have HC := Lib.hid hcall
        clear hv hb hn hcall HV
        go_wp2_with (go_at_call 73; (with_reducible refine (HC.out _).mono ?_); rintro e w1 ⟨rfl, hw1⟩; obtain rfl := hw1.symm)
        go_round
        case rel => exact ⟨i + 1, by omega, by omega, by go_num, HN.out⟩
        case measure => simp [intOf]; omega
    · have m1 : ¬ ((i : Int) ≤ (s.size : Int)) := by omega
      have hn : R = none := by
        rcases HV.out with ⟨h, _⟩ | ⟨_, h⟩
        · omega
        · rw [HR.out, if_neg (by omega)]
      have HN := Lib.hid hn
      clear hn HV
      go_wp2
      go_ret2
      exact ⟨by rw [HN.out]; rfl, rfl⟩
end Go.Proofs.YtjloookjlnmgdaaGreatDoor
namespace Go.Proofs.YtjloookjlnmgdaaGreatDoor
open Go.ChangeShapes Go.WideShapes Go.ChangeAt Go.RowKit
set_option maxRecDepth 100000
set_option linter.unusedVariables false
set_option linter.unusedSimpArgs false

def OneP (w : World) (r : Tok × Nat × Int) (e : Ending) (w' : World) : Prop :=
  e = .returned (.tuple #[.agg #[.int .i64 r.1.1, .string r.1.2.1, .int .i64 r.1.2.2], .int .i64 (r.2.1 : Int), .int .i64 r.2.2]) ∧ Below w.heap.size w w'
theorem Own3.tok (w : World) : Own3 w (w.alloc (.cells #[.int .i64 0, .string ⟨#[]⟩, .int .i64 0] 27)) :=
  ⟨(Below.refl _ _).alloc (Nat.le_refl _) _, by simp, by simp [go_sem], by simp [go_sem], by simp [go_sem], by simp [go_sem], by simp [go_sem], by simp [go_sem]⟩
theorem row_end (s : ByteArray) (p : UInt8 → Bool) (a : Nat) (ha : a ≤ s.size) : a + rowL p (s.data.toList.drop a) ≤ s.size := by
  have := rowL_le p (s.data.toList.drop a)
  rw [List.length_drop] at this
  have e : s.size = s.data.toList.length := rfl
  omega
set_option maxHeartbeats 1000000 in
set_option maxRecDepth 100000 in
theorem one_word (s : ByteArray) (a : Nat) (ha : a < s.size) (w : World) (hs : s.size ≤ 1048000) (hl : letB s[a] = true) (E : Nat) (hE : a + rowL wordB (s.data.toList.drop a) = E) :
    Calls Tryz.prog 53 #[.string s, .int .i64 (a : Int)] w (OneP w ((1, smallA (s.extract a E), (a : Int)), E, 0)) := by
  have l0 : (0 : Int) ≤ (a : Int) := by omega
  have l1 : (a : Int) < (s.size : Int) := by omega
  obtain ⟨z, hz⟩ : ∃ z : Int, ((s[a]'ha).toNat : Int) = z := ⟨_, rfl⟩
  have hlet : ∀ w, Calls Tryz.prog 75 #[.int .u8 z] w fun e w' => e = .returned (.bool true) ∧ w' = w := by
    intro w
    have := rlet_any z w
    rw [show letN z = true by rw [← hz]; exact hl] at this
    exact this
  have hrow : ∀ w, Calls Tryz.prog 76 #[.string s, .int .i64 (a : Int), .int .i64 1] w fun e w' => e = .returned (.int .i64 (E : Int)) ∧ w' = w := by
    intro w
    have := rrow_any s a 1 (.inl rfl) w (by omega) (by omega)
    rw [show rowB 1 = wordB from rfl, hE] at this
    exact this
  have e1 : (a : Int) ≤ (E : Int) := by omega
  have e2 : (E : Int) ≤ (s.size : Int) := by have := row_end s wordB a (by omega); omega
  have hsm := fun w => rsmall_any (s.extract a E) (by rw [ByteArray.size_extract]; omega) w
  have HLET := Lib.hid hlet
  have HROW := Lib.hid hrow
  have HSM := Lib.hid hsm
  have HO := Lib.hid (Own3.tok w)
  clear hlet hrow hsm hE hl
  go_enter Tryz.func53, Tryz.ntmps53
  go_wp2_with (first
    | (go_at_call 75; (with_reducible refine (HLET.out _).mono ?_); rintro e w1 ⟨rfl, hw1⟩; obtain rfl := hw1.symm)
    | (go_at_call 76; (with_reducible refine (HROW.out _).mono ?_); rintro e w1 ⟨rfl, hw1⟩; obtain rfl := hw1.symm)
    | (go_at_call 77; (with_reducible refine (HSM.out _).mono ?_); rintro e w2 ⟨rfl, hb2⟩; have F1 := HO.out.step hb2; obtain ⟨hB, hL, k0, k1, k2, f0, f1, f2⟩ := id F1))
  refine bodyPost_ret (v := .tuple #[.agg #[.int .i64 1, .string (smallA (s.extract a E)), .int .i64 (a : Int)], .int .i64 (E : Int), .int .i64 0]) (by simp [results, Tryz.results53, go_sem, k0, k1, k2]) rfl ?_
  refine ⟨rfl, ((hB.setCell ?_ _).setCell ?_ _).setCell ?_ _⟩ <;> exact Nat.le_refl _
end Go.Proofs.YtjloookjlnmgdaaGreatDoor
namespace Go.Proofs.YtjloookjlnmgdaaGreatDoor
open Go.ChangeShapes Go.WideShapes Go.ChangeAt Go.RowKit
set_option maxRecDepth 100000
set_option linter.unusedVariables false
set_option linter.unusedSimpArgs false

theorem rlet_is (z : Int) (b : Bool) (h : letN z = b) : ∀ w, Calls Tryz.prog 75 #[.int .u8 z] w fun e w' => e = .returned (.bool b) ∧ w' = w := by
  subst h; exact rlet_any z
theorem rdig_is (z : Int) (b : Bool) (h : digN z = b) : ∀ w, Calls Tryz.prog 78 #[.int .u8 z] w fun e w' => e = .returned (.bool b) ∧ w' = w := by
  subst h; exact rdig_any z
theorem rrow_is (s : ByteArray) (a : Nat) (k : Int) (hk : k = 1 ∨ k = 4 ∨ k = 0) (hs : s.size ≤ 1048576) (ha : a ≤ s.size) (E : Nat) (hE : a + rowL (rowB k) (s.data.toList.drop a) = E) :
    ∀ w, Calls Tryz.prog 76 #[.string s, .int .i64 (a : Int), .int .i64 k] w fun e w' => e = .returned (.int .i64 (E : Int)) ∧ w' = w := by
  subst hE; exact fun w => rrow_any s a k hk w hs ha
theorem rquo_is (s : ByteArray) (a : Nat) (ha : a < s.size) (hs : s.size ≤ 1048000) (v : Value) (h : quoV (quoAt s a s[a]) = v) :
    ∀ w, Calls Tryz.prog 79 #[.string s, .int .i64 (a : Int)] w fun e w' => e = .returned v ∧ w' = w := by
  subst h; exact fun w => rquoted_any s a ha w hs
theorem rtag_is (s : ByteArray) (a : Nat) (ha : a < s.size) (hs : s.size ≤ 1048000) (t : Int) (h : tagAt s a = t) :
    ∀ w, Calls Tryz.prog 80 #[.string s, .int .i64 (a : Int)] w fun e w' => e = .returned (.int .i64 t) ∧ w' = w := by
  subst h; exact fun w => rtag_any s a ha w hs
theorem rdol_is (s : ByteArray) (a t : Nat) (hat : a < t) (ht : t ≤ s.size) (hs : s.size ≤ 1048000) (v : Value) (h : quoV (dolAt s a t) = v) :
    ∀ w, Calls Tryz.prog 81 #[.string s, .int .i64 (a : Int), .int .i64 (t : Int)] w fun e w' => e = .returned v ∧ w' = w := by
  subst h; exact fun w => rdollar_any s a t hat ht w hs
theorem rsign_is (c : UInt8) (z : Int) (hz : (c.toNat : Int) = z) (b : Bool) (h : decide (0 ≤ signI c) = b) : ∀ w, Calls Tryz.prog 82 #[.int .u8 z] w fun e w' => e = .returned (.bool b) ∧ w' = w := by
  subst hz h; exact rsign_any c
set_option maxHeartbeats 2000000 in
set_option maxRecDepth 100000 in
theorem one_num (s : ByteArray) (a : Nat) (ha : a < s.size) (w : World) (hs : s.size ≤ 1048000) (hl : letB s[a] = false) (hd : digB s[a] = true) (E : Nat) (hE : a + rowL numB (s.data.toList.drop a) = E) :
    Calls Tryz.prog 53 #[.string s, .int .i64 (a : Int)] w (OneP w ((4, s.extract a E, (a : Int)), E, 0)) := by
  have l0 : (0 : Int) ≤ (a : Int) := by omega
  have l1 : (a : Int) < (s.size : Int) := by omega
  obtain ⟨z, hz⟩ : ∃ z : Int, ((s[a]'ha).toNat : Int) = z := ⟨_, rfl⟩
  have HLET := Lib.hid (rlet_is z false (by first | rfl | (rw [← hz]; exact hl)))
  have HDIG := Lib.hid (rdig_is z true (by rw [← hz]; exact hd))
  have HROW := Lib.hid (rrow_is s a 4 (.inr (.inl rfl)) (by omega) (by omega) E hE)
  have e1 : (a : Int) ≤ (E : Int) := by omega
  have e2 : (E : Int) ≤ (s.size : Int) := by have := row_end s numB a (by omega); omega
  clear hl hd hE
  go_enter Tryz.func53, Tryz.ntmps53
  go_wp2_with (first
    | (go_at_call 75; (with_reducible refine (HLET.out _).mono ?_); rintro e w1 ⟨rfl, hw1⟩; obtain rfl := hw1.symm)
    | (go_at_call 78; (with_reducible refine (HDIG.out _).mono ?_); rintro e w1 ⟨rfl, hw1⟩; obtain rfl := hw1.symm)
    | (go_at_call 76; (with_reducible refine (HROW.out _).mono ?_); rintro e w1 ⟨rfl, hw1⟩; obtain rfl := hw1.symm))
  refine bodyPost_ret (v := .tuple #[.agg #[.int .i64 4, .string (s.extract a E), .int .i64 (a : Int)], .int .i64 ((E : Nat) : Int), .int .i64 0]) (by simp [results, Tryz.results53, go_sem]) rfl ?_
  exact ⟨rfl, (Below.refl _ _).alloc (Nat.le_refl _) _⟩
set_option maxHeartbeats 2000000 in
set_option maxRecDepth 100000 in
theorem one_quo34_no (s : ByteArray) (a : Nat) (ha : a < s.size) (w : World) (hs : s.size ≤ 1048000) (hc : s[a] = 34) (hq : quoAt s a 34 = none) :
    Calls Tryz.prog 53 #[.string s, .int .i64 (a : Int)] w (OneP w ((0, ⟨#[]⟩, 0), 0, 6)) := by
  have l0 : (0 : Int) ≤ (a : Int) := by omega
  have l1 : (a : Int) < (s.size : Int) := by omega
  have hci : ((s[a]'ha).toNat : Int) = 34 := by rw [hc]; rfl
  have HLET := Lib.hid (rlet_is 34 false (by decide))
  have HDIG := Lib.hid (rdig_is 34 false (by decide))
  have HQUO := Lib.hid (rquo_is s a ha hs (.tuple #[.string ⟨#[]⟩, .int .i64 (-1)]) (by rw [hc, hq]; rfl))
  clear hc hq
  go_enter Tryz.func53, Tryz.ntmps53
  go_wp2_with (first
    | (go_at_call 75; (with_reducible refine (HLET.out _).mono ?_); rintro e w1 ⟨rfl, hw1⟩; obtain rfl := hw1.symm)
    | (go_at_call 78; (with_reducible refine (HDIG.out _).mono ?_); rintro e w1 ⟨rfl, hw1⟩; obtain rfl := hw1.symm)
    | (go_at_call 79; (with_reducible refine (HQUO.out _).mono ?_); rintro e w1 ⟨rfl, hw1⟩; obtain rfl := hw1.symm))
  refine bodyPost_ret (v := .tuple #[.agg #[.int .i64 0, .string ⟨#[]⟩, .int .i64 0], .int .i64 ((0 : Nat) : Int), .int .i64 6]) (by simp [results, Tryz.results53, go_sem]) rfl ?_
  exact ⟨rfl, (Below.refl _ _).alloc (Nat.le_refl _) _⟩
set_option maxHeartbeats 2000000 in
set_option maxRecDepth 100000 in
theorem one_quo34_yes (s : ByteArray) (a : Nat) (ha : a < s.size) (w : World) (hs : s.size ≤ 1048000) (hc : s[a] = 34) (t : Tx) (n : Nat) (hq : quoAt s a 34 = some (t, n)) :
    Calls Tryz.prog 53 #[.string s, .int .i64 (a : Int)] w (OneP w ((2, bb t, (a : Int)), n, 0)) := by
  have l0 : (0 : Int) ≤ (a : Int) := by omega
  have l1 : (a : Int) < (s.size : Int) := by omega
  have hci : ((s[a]'ha).toNat : Int) = 34 := by rw [hc]; rfl
  have HLET := Lib.hid (rlet_is 34 false (by decide))
  have HDIG := Lib.hid (rdig_is 34 false (by decide))
  have HQUO := Lib.hid (rquo_is s a ha hs (.tuple #[.string (bb t), .int .i64 (n : Int)]) (by rw [hc, hq]; rfl))
  have hn : ¬ ((n : Int) < 0) := by omega
  clear hc hq
  go_enter Tryz.func53, Tryz.ntmps53
  go_wp2_with (first
    | (go_at_call 75; (with_reducible refine (HLET.out _).mono ?_); rintro e w1 ⟨rfl, hw1⟩; obtain rfl := hw1.symm)
    | (go_at_call 78; (with_reducible refine (HDIG.out _).mono ?_); rintro e w1 ⟨rfl, hw1⟩; obtain rfl := hw1.symm)
    | (go_at_call 79; (with_reducible refine (HQUO.out _).mono ?_); rintro e w1 ⟨rfl, hw1⟩; obtain rfl := hw1.symm))
  refine bodyPost_ret (v := .tuple #[.agg #[.int .i64 2, .string (bb t), .int .i64 (a : Int)], .int .i64 ((n : Nat) : Int), .int .i64 0]) (by simp [results, Tryz.results53, go_sem]) rfl ?_
  exact ⟨rfl, (Below.refl _ _).alloc (Nat.le_refl _) _⟩
set_option maxHeartbeats 2000000 in
set_option maxRecDepth 100000 in
theorem one_quo39_no (s : ByteArray) (a : Nat) (ha : a < s.size) (w : World) (hs : s.size ≤ 1048000) (hc : s[a] = 39) (hq : quoAt s a 39 = none) :
    Calls Tryz.prog 53 #[.string s, .int .i64 (a : Int)] w (OneP w ((0, ⟨#[]⟩, 0), 0, 6)) := by
  have l0 : (0 : Int) ≤ (a : Int) := by omega
  have l1 : (a : Int) < (s.size : Int) := by omega
  have hci : ((s[a]'ha).toNat : Int) = 39 := by rw [hc]; rfl
  have HLET := Lib.hid (rlet_is 39 false (by decide))
  have HDIG := Lib.hid (rdig_is 39 false (by decide))
  have HQUO := Lib.hid (rquo_is s a ha hs (.tuple #[.string ⟨#[]⟩, .int .i64 (-1)]) (by rw [hc, hq]; rfl))
  clear hc hq
  go_enter Tryz.func53, Tryz.ntmps53
  go_wp2_with (first
    | (go_at_call 75; (with_reducible refine (HLET.out _).mono ?_); rintro e w1 ⟨rfl, hw1⟩; obtain rfl := hw1.symm)
    | (go_at_call 78; (with_reducible refine (HDIG.out _).mono ?_); rintro e w1 ⟨rfl, hw1⟩; obtain rfl := hw1.symm)
    | (go_at_call 79; (with_reducible refine (HQUO.out _).mono ?_); rintro e w1 ⟨rfl, hw1⟩; obtain rfl := hw1.symm))
  refine bodyPost_ret (v := .tuple #[.agg #[.int .i64 0, .string ⟨#[]⟩, .int .i64 0], .int .i64 ((0 : Nat) : Int), .int .i64 6]) (by simp [results, Tryz.results53, go_sem]) rfl ?_
  exact ⟨rfl, (Below.refl _ _).alloc (Nat.le_refl _) _⟩
set_option maxHeartbeats 2000000 in
set_option maxRecDepth 100000 in
theorem one_quo39_yes (s : ByteArray) (a : Nat) (ha : a < s.size) (w : World) (hs : s.size ≤ 1048000) (hc : s[a] = 39) (t : Tx) (n : Nat) (hq : quoAt s a 39 = some (t, n)) :
    Calls Tryz.prog 53 #[.string s, .int .i64 (a : Int)] w (OneP w ((3, bb t, (a : Int)), n, 0)) := by
  have l0 : (0 : Int) ≤ (a : Int) := by omega
  have l1 : (a : Int) < (s.size : Int) := by omega
  have hci : ((s[a]'ha).toNat : Int) = 39 := by rw [hc]; rfl
  have HLET := Lib.hid (rlet_is 39 false (by decide))
  have HDIG := Lib.hid (rdig_is 39 false (by decide))
  have HQUO := Lib.hid (rquo_is s a ha hs (.tuple #[.string (bb t), .int .i64 (n : Int)]) (by rw [hc, hq]; rfl))
  have hn : ¬ ((n : Int) < 0) := by omega
  clear hc hq
  go_enter Tryz.func53, Tryz.ntmps53
  go_wp2_with (first
    | (go_at_call 75; (with_reducible refine (HLET.out _).mono ?_); rintro e w1 ⟨rfl, hw1⟩; obtain rfl := hw1.symm)
    | (go_at_call 78; (with_reducible refine (HDIG.out _).mono ?_); rintro e w1 ⟨rfl, hw1⟩; obtain rfl := hw1.symm)
    | (go_at_call 79; (with_reducible refine (HQUO.out _).mono ?_); rintro e w1 ⟨rfl, hw1⟩; obtain rfl := hw1.symm))
  refine bodyPost_ret (v := .tuple #[.agg #[.int .i64 3, .string (bb t), .int .i64 (a : Int)], .int .i64 ((n : Nat) : Int), .int .i64 0]) (by simp [results, Tryz.results53, go_sem]) rfl ?_
  exact ⟨rfl, (Below.refl _ _).alloc (Nat.le_refl _) _⟩
set_option maxHeartbeats 2000000 in
set_option maxRecDepth 100000 in
theorem one_dol_no (s : ByteArray) (a : Nat) (ha : a < s.size) (w : World) (hs : s.size ≤ 1048000) (hc : s[a] = 36) (t : Nat) (hat : a < t) (hts : t ≤ s.size) (ht : tagAt s a = (t : Int)) (hq : dolAt s a t = none) :
    Calls Tryz.prog 53 #[.string s, .int .i64 (a : Int)] w (OneP w ((0, ⟨#[]⟩, 0), 0, 6)) := by
  have l0 : (0 : Int) ≤ (a : Int) := by omega
  have l1 : (a : Int) < (s.size : Int) := by omega
  have hci : ((s[a]'ha).toNat : Int) = 36 := by rw [hc]; rfl
  have HLET := Lib.hid (rlet_is 36 false (by decide))
  have HDIG := Lib.hid (rdig_is 36 false (by decide))
  have HTAG := Lib.hid (rtag_is s a ha hs (t : Int) ht)
  have HDOL := Lib.hid (rdol_is s a t hat hts hs (.tuple #[.string ⟨#[]⟩, .int .i64 (-1)]) (by rw [hq]; rfl))
  have htp : (0 : Int) < (t : Int) := by omega
  clear hc hq ht hat hts
  go_enter Tryz.func53, Tryz.ntmps53
  go_wp2_with (first
    | (go_at_call 75; (with_reducible refine (HLET.out _).mono ?_); rintro e w1 ⟨rfl, hw1⟩; obtain rfl := hw1.symm)
    | (go_at_call 78; (with_reducible refine (HDIG.out _).mono ?_); rintro e w1 ⟨rfl, hw1⟩; obtain rfl := hw1.symm)
    | (go_at_call 80; (with_reducible refine (HTAG.out _).mono ?_); rintro e w1 ⟨rfl, hw1⟩; obtain rfl := hw1.symm)
    | (go_at_call 81; (with_reducible refine (HDOL.out _).mono ?_); rintro e w1 ⟨rfl, hw1⟩; obtain rfl := hw1.symm))
  refine bodyPost_ret (v := .tuple #[.agg #[.int .i64 0, .string ⟨#[]⟩, .int .i64 0], .int .i64 ((0 : Nat) : Int), .int .i64 6]) (by simp [results, Tryz.results53, go_sem]) rfl ?_
  exact ⟨rfl, (Below.refl _ _).alloc (Nat.le_refl _) _⟩
set_option maxHeartbeats 2000000 in
set_option maxRecDepth 100000 in
theorem one_dol_yes (s : ByteArray) (a : Nat) (ha : a < s.size) (w : World) (hs : s.size ≤ 1048000) (hc : s[a] = 36) (t : Nat) (hat : a < t) (hts : t ≤ s.size) (ht : tagAt s a = (t : Int)) (x : Tx) (n : Nat) (hq : dolAt s a t = some (x, n)) :
    Calls Tryz.prog 53 #[.string s, .int .i64 (a : Int)] w (OneP w ((3, bb x, (a : Int)), n, 0)) := by
  have l0 : (0 : Int) ≤ (a : Int) := by omega
  have l1 : (a : Int) < (s.size : Int) := by omega
  have hci : ((s[a]'ha).toNat : Int) = 36 := by rw [hc]; rfl
  have HLET := Lib.hid (rlet_is 36 false (by decide))
  have HDIG := Lib.hid (rdig_is 36 false (by decide))
  have HTAG := Lib.hid (rtag_is s a ha hs (t : Int) ht)
  have HDOL := Lib.hid (rdol_is s a t hat hts hs (.tuple #[.string (bb x), .int .i64 (n : Int)]) (by rw [hq]; rfl))
  have htp : (0 : Int) < (t : Int) := by omega
  have hn : ¬ ((n : Int) < 0) := by omega
  clear hc hq ht hat hts
  go_enter Tryz.func53, Tryz.ntmps53
  go_wp2_with (first
    | (go_at_call 75; (with_reducible refine (HLET.out _).mono ?_); rintro e w1 ⟨rfl, hw1⟩; obtain rfl := hw1.symm)
    | (go_at_call 78; (with_reducible refine (HDIG.out _).mono ?_); rintro e w1 ⟨rfl, hw1⟩; obtain rfl := hw1.symm)
    | (go_at_call 80; (with_reducible refine (HTAG.out _).mono ?_); rintro e w1 ⟨rfl, hw1⟩; obtain rfl := hw1.symm)
    | (go_at_call 81; (with_reducible refine (HDOL.out _).mono ?_); rintro e w1 ⟨rfl, hw1⟩; obtain rfl := hw1.symm))
  refine bodyPost_ret (v := .tuple #[.agg #[.int .i64 3, .string (bb x), .int .i64 (a : Int)], .int .i64 ((n : Nat) : Int), .int .i64 0]) (by simp [results, Tryz.results53, go_sem]) rfl ?_
  exact ⟨rfl, (Below.refl _ _).alloc (Nat.le_refl _) _⟩
set_option maxHeartbeats 2000000 in
set_option maxRecDepth 100000 in
theorem one_par (s : ByteArray) (a : Nat) (ha : a < s.size) (w : World) (hs : s.size ≤ 1048000) (hc : s[a] = 36) (ht : tagAt s a = -1) (E : Nat) (hE : a + 1 + rowL digB (s.data.toList.drop (a + 1)) = E) (hp : a + 1 < E) :
    Calls Tryz.prog 53 #[.string s, .int .i64 (a : Int)] w (OneP w ((5, s.extract a E, (a : Int)), E, 0)) := by
  have l0 : (0 : Int) ≤ (a : Int) := by omega
  have l1 : (a : Int) < (s.size : Int) := by omega
  have hci : ((s[a]'ha).toNat : Int) = 36 := by rw [hc]; rfl
  have HLET := Lib.hid (rlet_is 36 false (by decide))
  have HDIG := Lib.hid (rdig_is 36 false (by decide))
  obtain ⟨a1, ha1⟩ : ∃ a1, a + 1 = a1 := ⟨_, rfl⟩
  have cw : IntKind.i64.wrap ((a : Int) + 1) = (a1 : Int) := by rw [show (a : Int) + 1 = (a1 : Int) by omega]; exact IntWalk.i64_in _ (by omega)
  rw [ha1] at hE hp
  have HTAG := Lib.hid (rtag_is s a ha hs (-1) ht)
  have HROW := Lib.hid (rrow_is s a1 0 (.inr (.inr rfl)) (by omega) (by omega) E hE)
  have hp2 : (a1 : Int) < (E : Int) := by omega
  have e1 : (a : Int) ≤ (E : Int) := by omega
  have e2 : (E : Int) ≤ (s.size : Int) := by have := row_end s digB a1 (by omega); omega
  have HA1 := Lib.hid ha1
  clear hc ht hE hp ha1
  go_enter Tryz.func53, Tryz.ntmps53
  go_wp2_with (first
    | (go_at_call 75; (with_reducible refine (HLET.out _).mono ?_); rintro e w1 ⟨rfl, hw1⟩; obtain rfl := hw1.symm)
    | (go_at_call 78; (with_reducible refine (HDIG.out _).mono ?_); rintro e w1 ⟨rfl, hw1⟩; obtain rfl := hw1.symm)
    | (go_at_call 80; (with_reducible refine (HTAG.out _).mono ?_); rintro e w1 ⟨rfl, hw1⟩; obtain rfl := hw1.symm)
    | (go_at_call 76; (with_reducible refine (HROW.out _).mono ?_); rintro e w1 ⟨rfl, hw1⟩; obtain rfl := hw1.symm))
  refine bodyPost_ret (v := .tuple #[.agg #[.int .i64 5, .string (s.extract a E), .int .i64 (a : Int)], .int .i64 ((E : Nat) : Int), .int .i64 0]) (by simp [results, Tryz.results53, go_sem]) rfl ?_
  exact ⟨rfl, (Below.refl _ _).alloc (Nat.le_refl _) _⟩
set_option maxHeartbeats 2000000 in
set_option maxRecDepth 100000 in
theorem one_dol_none (s : ByteArray) (a : Nat) (ha : a < s.size) (w : World) (hs : s.size ≤ 1048000) (hc : s[a] = 36) (ht : tagAt s a = -1) (hp : rowL digB (s.data.toList.drop (a + 1)) = 0) :
    Calls Tryz.prog 53 #[.string s, .int .i64 (a : Int)] w (OneP w ((0, ⟨#[]⟩, 0), 0, 7)) := by
  have l0 : (0 : Int) ≤ (a : Int) := by omega
  have l1 : (a : Int) < (s.size : Int) := by omega
  have hci : ((s[a]'ha).toNat : Int) = 36 := by rw [hc]; rfl
  have HLET := Lib.hid (rlet_is 36 false (by decide))
  have HDIG := Lib.hid (rdig_is 36 false (by decide))
  obtain ⟨a1, ha1⟩ : ∃ a1, a + 1 = a1 := ⟨_, rfl⟩
  have cw : IntKind.i64.wrap ((a : Int) + 1) = (a1 : Int) := by rw [show (a : Int) + 1 = (a1 : Int) by omega]; exact IntWalk.i64_in _ (by omega)
  rw [ha1] at hp
  have HTAG := Lib.hid (rtag_is s a ha hs (-1) ht)
  have HROW := Lib.hid (rrow_is s a1 0 (.inr (.inr rfl)) (by omega) (by omega) a1 (by rw [show rowB 0 = digB from rfl, hp]; rfl))
  have HSIG := Lib.hid (rsign_is s[a] 36 hci false (by rw [hc]; decide))
  have hp2 : ¬ ((a1 : Int) < (a1 : Int)) := by omega
  have HA1 := Lib.hid ha1
  clear hc ht hp ha1
  go_enter Tryz.func53, Tryz.ntmps53
  go_wp2_with (first
    | (go_at_call 75; (with_reducible refine (HLET.out _).mono ?_); rintro e w1 ⟨rfl, hw1⟩; obtain rfl := hw1.symm)
    | (go_at_call 78; (with_reducible refine (HDIG.out _).mono ?_); rintro e w1 ⟨rfl, hw1⟩; obtain rfl := hw1.symm)
    | (go_at_call 80; (with_reducible refine (HTAG.out _).mono ?_); rintro e w1 ⟨rfl, hw1⟩; obtain rfl := hw1.symm)
    | (go_at_call 76; (with_reducible refine (HROW.out _).mono ?_); rintro e w1 ⟨rfl, hw1⟩; obtain rfl := hw1.symm)
    | (go_at_call 82; (with_reducible refine (HSIG.out _).mono ?_); rintro e w1 ⟨rfl, hw1⟩; obtain rfl := hw1.symm))
  refine bodyPost_ret (v := .tuple #[.agg #[.int .i64 0, .string ⟨#[]⟩, .int .i64 0], .int .i64 ((0 : Nat) : Int), .int .i64 7]) (by simp [results, Tryz.results53, go_sem]) rfl ?_
  exact ⟨rfl, (Below.refl _ _).alloc (Nat.le_refl _) _⟩
set_option maxHeartbeats 2000000 in
set_option maxRecDepth 100000 in
theorem one_sig_yes (s : ByteArray) (a : Nat) (ha : a < s.size) (w : World) (hs : s.size ≤ 1048000) (hl : letB s[a] = false) (hd : digB s[a] = false) (h34 : s[a] ≠ 34) (h39 : s[a] ≠ 39) (h36 : s[a] ≠ 36) (hg : 0 ≤ signI s[a]) (a1 : Nat) (ha1 : a + 1 = a1) :
    Calls Tryz.prog 53 #[.string s, .int .i64 (a : Int)] w (OneP w ((5, s.extract a a1, (a : Int)), a1, 0)) := by
  have l0 : (0 : Int) ≤ (a : Int) := by omega
  have l1 : (a : Int) < (s.size : Int) := by omega
  obtain ⟨z, hz⟩ : ∃ z : Int, ((s[a]'ha).toNat : Int) = z := ⟨_, rfl⟩
  have HLET := Lib.hid (rlet_is z false (by first | rfl | (rw [← hz]; exact hl)))
  have HDIG := Lib.hid (rdig_is z false (by first | rfl | (rw [← hz]; exact hd)))
  have e34 : (z == (34 : Int)) = false := by rw [beq_eq_false_iff_ne]; intro h; exact h34 (UInt8.toNat_inj.1 (by show _ = 34; omega))
  have e39 : (z == (39 : Int)) = false := by rw [beq_eq_false_iff_ne]; intro h; exact h39 (UInt8.toNat_inj.1 (by show _ = 39; omega))
  have e36 : (z == (36 : Int)) = false := by rw [beq_eq_false_iff_ne]; intro h; exact h36 (UInt8.toNat_inj.1 (by show _ = 36; omega))
  have cw : IntKind.i64.wrap ((a : Int) + 1) = (a1 : Int) := by rw [show (a : Int) + 1 = (a1 : Int) by omega]; exact IntWalk.i64_in _ (by omega)
  have HSIG := Lib.hid (rsign_is s[a] z hz true (decide_eq_true hg))
  have e1 : (a : Int) ≤ (a1 : Int) := by omega
  have e2 : (a1 : Int) ≤ (s.size : Int) := by omega
  have HA1 := Lib.hid ha1
  clear hl hd h34 h39 h36 hg ha1
  go_enter Tryz.func53, Tryz.ntmps53
  go_wp2_with (first
    | (go_at_call 75; (with_reducible refine (HLET.out _).mono ?_); rintro e w1 ⟨rfl, hw1⟩; obtain rfl := hw1.symm)
    | (go_at_call 78; (with_reducible refine (HDIG.out _).mono ?_); rintro e w1 ⟨rfl, hw1⟩; obtain rfl := hw1.symm)
    | (go_at_call 82; (with_reducible refine (HSIG.out _).mono ?_); rintro e w1 ⟨rfl, hw1⟩; obtain rfl := hw1.symm))
  refine bodyPost_ret (v := .tuple #[.agg #[.int .i64 5, .string (s.extract a a1), .int .i64 (a : Int)], .int .i64 ((a1 : Nat) : Int), .int .i64 0]) (by simp [results, Tryz.results53, go_sem]) rfl ?_
  exact ⟨rfl, (Below.refl _ _).alloc (Nat.le_refl _) _⟩
set_option maxHeartbeats 2000000 in
set_option maxRecDepth 100000 in
theorem one_sig_no (s : ByteArray) (a : Nat) (ha : a < s.size) (w : World) (hs : s.size ≤ 1048000) (hl : letB s[a] = false) (hd : digB s[a] = false) (h34 : s[a] ≠ 34) (h39 : s[a] ≠ 39) (h36 : s[a] ≠ 36) (hg : signI s[a] < 0) :
    Calls Tryz.prog 53 #[.string s, .int .i64 (a : Int)] w (OneP w ((0, ⟨#[]⟩, 0), 0, 7)) := by
  have l0 : (0 : Int) ≤ (a : Int) := by omega
  have l1 : (a : Int) < (s.size : Int) := by omega
  obtain ⟨z, hz⟩ : ∃ z : Int, ((s[a]'ha).toNat : Int) = z := ⟨_, rfl⟩
  have HLET := Lib.hid (rlet_is z false (by first | rfl | (rw [← hz]; exact hl)))
  have HDIG := Lib.hid (rdig_is z false (by first | rfl | (rw [← hz]; exact hd)))
  have e34 : (z == (34 : Int)) = false := by rw [beq_eq_false_iff_ne]; intro h; exact h34 (UInt8.toNat_inj.1 (by show _ = 34; omega))
  have e39 : (z == (39 : Int)) = false := by rw [beq_eq_false_iff_ne]; intro h; exact h39 (UInt8.toNat_inj.1 (by show _ = 39; omega))
  have e36 : (z == (36 : Int)) = false := by rw [beq_eq_false_iff_ne]; intro h; exact h36 (UInt8.toNat_inj.1 (by show _ = 36; omega))
  have HSIG := Lib.hid (rsign_is s[a] z hz false (decide_eq_false (by omega)))
  clear hl hd h34 h39 h36 hg
  go_enter Tryz.func53, Tryz.ntmps53
  go_wp2_with (first
    | (go_at_call 75; (with_reducible refine (HLET.out _).mono ?_); rintro e w1 ⟨rfl, hw1⟩; obtain rfl := hw1.symm)
    | (go_at_call 78; (with_reducible refine (HDIG.out _).mono ?_); rintro e w1 ⟨rfl, hw1⟩; obtain rfl := hw1.symm)
    | (go_at_call 82; (with_reducible refine (HSIG.out _).mono ?_); rintro e w1 ⟨rfl, hw1⟩; obtain rfl := hw1.symm))
  refine bodyPost_ret (v := .tuple #[.agg #[.int .i64 0, .string ⟨#[]⟩, .int .i64 0], .int .i64 ((0 : Nat) : Int), .int .i64 7]) (by simp [results, Tryz.results53, go_sem]) rfl ?_
  exact ⟨rfl, (Below.refl _ _).alloc (Nat.le_refl _) _⟩
end Go.Proofs.YtjloookjlnmgdaaGreatDoor
namespace Go.Proofs.YtjloookjlnmgdaaGreatDoor
open Go.ChangeShapes Go.WideShapes Go.ChangeAt Go.RowKit
set_option maxRecDepth 100000
set_option linter.unusedVariables false
set_option linter.unusedSimpArgs false

theorem SpI.reset {w0 w : World} {als : List (List Tok)} {va vo : Value} (h : SpI w0 als [] va vo w) : SpI w0 als [] va (.slice none 0 0) w := by
  obtain ⟨vs, h1, h2, h3⟩ := h.all
  refine ⟨h.bel, ⟨vs, h1, h2, fun i u l hu hl => ⟨(h3 i u l hu hl).1, ?_⟩⟩, World.ownsRow_nil _ _ _ _⟩
  cases e : u.ownBlock with
  | none => exact .inl rfl
  | some g => right; simp [Value.ownBlock]
theorem two_alloc (w : World) (n : Nat) (vo : Value) (hn : w.heap.size = n) : ∀ (j : Nat) (u : Value), [vo][j]? = some u → (w.alloc (.cells #[vo] 22)).cell? ((⟨n, 0, none⟩ : Addr).add j) = some u := by
  subst hn
  intro j u hj
  match j, hj with
  | 0, hj => simp at hj; subst hj; simp [Addr.add]
end Go.Proofs.YtjloookjlnmgdaaGreatDoor
namespace Go.Proofs.YtjloookjlnmgdaaGreatDoor
open Go.ChangeShapes Go.WideShapes Go.ChangeAt Go.RowKit
set_option maxRecDepth 100000
set_option linter.unusedVariables false
set_option linter.unusedSimpArgs false

/-- what Scan answers -/
def scanA (s : ByteArray) : List Tok × Int × Int := if 2000 < s.size then ([], 2, 2000) else scanN (s.size + 1) s 0 []
theorem scan_any (s : ByteArray) (m : Int) (w : World) (hm : Wd m w) :
    Calls Tryz.prog 31 #[.string s] w (ScanP w (scanA s)) := by
  by_cases h : 2000 < s.size
  · have e : scanA s = ([], 2, 2000) := if_pos h
    rw [e]
    have hl : (2000 : Int) < (s.size : Int) := by omega
    clear e
    go_enter Tryz.func31, Tryz.ntmps31
    go_wp2
    go_step3
    go_wp2
    try rw [Exit.noGoto_ret]
    go_ret3
    exact ⟨_, rfl, World.ownsRow_nil _ _ _ _, Below.refl _ _⟩
  · exact scan_small s m w (by omega) hm _ (if_neg h)
abbrev kn1 : ByteArray := ⟨#[83, 69, 76, 69, 67, 84, 32, 97, 36, 49, 32, 70, 82, 79, 77, 32, 34, 84, 34, 34, 120, 34, 32, 45, 45, 32, 120, 10, 44, 32, 36, 120, 36, 105, 116, 39, 115, 36, 120, 36, 32, 47, 42, 32, 97, 32, 47, 42, 32, 98, 32, 42, 47, 32, 99, 32, 42, 47, 32, 36, 49]⟩
abbrev kn2 : ByteArray := ⟨#[97, 32, 39, 98, 39, 39]⟩
abbrev kn3 : ByteArray := ⟨#[97, 32, 92]⟩
def knL : List Tok := [(1, ⟨#[115, 101, 108, 101, 99, 116]⟩, 0), (1, ⟨#[97, 36, 49]⟩, 7), (1, ⟨#[102, 114, 111, 109]⟩, 11), (2, ⟨#[84, 34, 120]⟩, 16), (5, ⟨#[44]⟩, 28), (3, ⟨#[105, 116, 39, 115]⟩, 30), (5, ⟨#[36, 49]⟩, 59)]
def knW : List Tok := [(1, ⟨#[115, 101, 108, 101, 99, 116]⟩, 0), (1, ⟨#[97, 36, 49]⟩, 0), (1, ⟨#[102, 114, 111, 109]⟩, 0), (2, ⟨#[84, 34, 120]⟩, 0), (5, ⟨#[44]⟩, 0), (3, ⟨#[105, 116, 39, 115]⟩, 0), (5, ⟨#[36, 49]⟩, 0)]
theorem kn1_eq : scanA kn1 = (knL, 0, 0) := by kernel_rfl
theorem kn2_eq : scanA kn2 = ([], 6, 2) := by kernel_rfl
theorem kn3_eq : scanA kn3 = ([], 7, 2) := by kernel_rfl
theorem kns_eq : bb (showL knL) = ⟨#[115, 101, 108, 101, 99, 116, 32, 97, 36, 49, 32, 102, 114, 111, 109, 32, 34, 84, 34, 34, 120, 34, 32, 44, 32, 39, 105, 116, 39, 39, 115, 39, 32, 36, 49]⟩ := by kernel_rfl
theorem kn_split : splitL [(5, ⟨#[59]⟩, 0), (1, ⟨#[97]⟩, 0)] = [[(1, ⟨#[97]⟩, 0)]] := by kernel_rfl
theorem kn_alike : Alike false knL knW := by
  refine ⟨rfl, ?_⟩
  have h : ((List.range 7).all fun i => decide ((knL[i]?).map (fun x => (x.1, x.2.1.data.toList)) = (knW[i]?).map (fun x => (x.1, x.2.1.data.toList)))) = true := by kernel_rfl
  intro i x y hx hy
  have hlt : i < 7 := (List.getElem?_eq_some_iff.1 hx).1
  have := of_decide_eq_true (List.all_eq_true.1 h i (List.mem_range.2 hlt))
  rw [hx, hy] at this
  simp only [Option.map_some, Option.some.injEq, Prod.mk.injEq] at this
  refine ⟨this.1, ?_, fun h => by cases h⟩
  apply ByteArray.ext
  exact Array.ext' this.2
theorem kn_at : ∃ t, knL[3]? = some t ∧ t.2.2 = 16 := ⟨_, rfl, rfl⟩
theorem kn_small : ∀ t ∈ knL, t.2.1.size ≤ 65536 := by
  have h : (knL.all fun t => decide (t.2.1.size ≤ 65536)) = true := by kernel_rfl
  exact fun t ht => of_decide_eq_true (List.all_eq_true.1 h t ht)
end Go.Proofs.YtjloookjlnmgdaaGreatDoor
namespace Go.Proofs.YtjloookjlnmgdaaGreatDoor
open Go.ChangeShapes Go.WideShapes Go.ChangeAt Go.RowKit
set_option maxRecDepth 100000
set_option linter.unusedVariables false
set_option linter.unusedSimpArgs false

theorem hp_eq (x p : ByteArray) : hpB x p = p.data.toList.isPrefixOf x.data.toList := by
  unfold hpB
  by_cases h : p.size ≤ x.size
  · rw [decide_eq_true h, Bool.true_and]
    have := starts_eq x p 0 (by omega)
    rw [Nat.zero_add, List.drop_zero] at this
    exact this
  · rw [decide_eq_false h, Bool.false_and]
    have := starts_short x p 0 (by omega) (by omega)
    rw [List.drop_zero] at this
    exact this.symm
theorem find_sized (k : Nat) (hk : k ≤ 10) (r : ByteArray) (hr : 0 < r.size) (p : Pc) (h : findR k r = some p) : p.2.2 = -1 ∨ (1 ≤ p.2.2 ∧ p.2.2 ≤ (r.size : Int)) := by
  induction k with
  | zero => cases h
  | succ k ih =>
    rw [findR] at h
    by_cases h0 : (rdP (9 - k) r).2.2 = 0
    · rw [if_pos h0] at h
      exact ih (by omega) h
    · rw [if_neg h0] at h
      cases h
      rcases rd_sized (9 - k) r hr with h1 | h1 | h1
      · exact absurd h1 h0
      · exact .inl h1
      · exact .inr h1
/-- how much fuel makes no difference, if it is enough -/
theorem scan_fuel (s : ByteArray) : ∀ (n f g a : Nat) (acc : List Tok), s.size - a ≤ n → n < f → n < g → scanN f s a acc = scanN g s a acc := by
  intro n
  induction n with
  | zero =>
    intro f g a acc hn hf hg
    obtain ⟨f, rfl⟩ : ∃ x, f = x + 1 := ⟨f - 1, by omega⟩
    obtain ⟨g, rfl⟩ : ∃ x, g = x + 1 := ⟨g - 1, by omega⟩
    rw [scanN, scanN, if_pos (by omega), if_pos (by omega)]
  | succ n ih =>
    intro f g a acc hn hf hg
    obtain ⟨f, rfl⟩ : ∃ x, f = x + 1 := ⟨f - 1, by omega⟩
    obtain ⟨g, rfl⟩ : ∃ x, g = x + 1 := ⟨g - 1, by omega⟩
    rw [scanN, scanN]
    by_cases h : s.size ≤ a
    · rw [if_pos h, if_pos h]
    · rw [if_neg h, if_neg h]
      cases hf2 : findR 10 (s.extract a s.size) with
      | none => rfl
      | some p =>
        have hsz := find_sized 10 (Nat.le_refl _) _ (by rw [ByteArray.size_extract]; omega) p hf2
        by_cases hp : p.2.2 = -1
        · simp only [hp, if_true]
        · simp only [hp, if_false]
          exact ih f g _ _ (by omega) (by omega) (by omega)
/-- Scan from a place on -/
def scanF (s : ByteArray) (a : Nat) (acc : List Tok) : List Tok × Int × Int := scanN (s.size + 1) s a acc
theorem scanF_end (s : ByteArray) (a : Nat) (acc : List Tok) (h : s.size ≤ a) : scanF s a acc = (acc, 0, 0) := by
  unfold scanF; rw [scanN, if_pos h]
theorem scanF_none (s : ByteArray) (a : Nat) (acc : List Tok) (h : a < s.size) (hf : findR 10 (s.extract a s.size) = none) : scanF s a acc = ([], 7, (a : Int)) := by
  unfold scanF; rw [scanN, if_neg (by omega), hf]
theorem scanF_bad (s : ByteArray) (a : Nat) (acc : List Tok) (h : a < s.size) (p : Pc) (hf : findR 10 (s.extract a s.size) = some p) (hp : p.2.2 = -1) : scanF s a acc = ([], 6, (a : Int)) := by
  unfold scanF; rw [scanN, if_neg (by omega), hf]; simp only [hp, if_true]
theorem scanF_step (s : ByteArray) (a : Nat) (acc : List Tok) (h : a < s.size) (k : Int) (t : ByteArray) (n : Nat) (hn : 0 < n) (hf : findR 10 (s.extract a s.size) = some (k, t, (n : Int))) :
    scanF s a acc = scanF s (a + n) (if k = 0 then acc else acc ++ [(k, t, (a : Int))]) := by
  unfold scanF
  rw [scanN, if_neg (by omega), hf]
  have : ¬ ((n : Int) = -1) := by omega
  simp only [this, if_false, Int.toNat_natCast]
  exact scan_fuel s (s.size - (a + n)) _ _ _ _ (Nat.le_refl _) (by omega) (by omega)
theorem find_first (i : Nat) (hi : i < 10) (r : ByteArray) (h0 : ∀ j, j < i → (rdP j r).2.2 = 0) (h1 : (rdP i r).2.2 ≠ 0) : findR 10 r = some (rdP i r) := by
  have key : ∀ d j, j + d = i → findR (10 - j) r = some (rdP i r) := by
    intro d
    induction d with
    | zero => intro j hj; have : j = i := by omega
              subst this; rw [findR_at j hi, if_neg h1]
    | succ d ih =>
      intro j hj
      rw [findR_at j (by omega), if_pos (h0 j (by omega))]
      exact ih (j + 1) (by omega)
  exact key i 0 (by omega)
theorem find_none (r : ByteArray) (h0 : ∀ j, j < 10 → (rdP j r).2.2 = 0) : findR 10 r = none := by
  have key : ∀ d j, j + d = 10 → findR (10 - j) r = none := by
    intro d
    induction d with
    | zero => intro j hj; have : j = 10 := by omega
              subst this; rfl
    | succ d ih =>
      intro j hj
      rw [findR_at j (by omega), if_pos (h0 j (by omega))]
      exact ih (j + 1) (by omega)
  exact key 10 0 (by omega)
end Go.Proofs.YtjloookjlnmgdaaGreatDoor
namespace Go.Proofs.YtjloookjlnmgdaaGreatDoor
open Go.ChangeShapes Go.WideShapes Go.ChangeAt Go.RowKit
set_option maxRecDepth 100000
set_option linter.unusedVariables false
set_option linter.unusedSimpArgs false

theorem cut_line (l : Tx) : (Lib.cut l [10]).1 = l.takeWhile notNl := by
  unfold Lib.cut
  induction l with
  | nil => rw [idx_nil _ (by simp)]; rfl
  | cons c r ih =>
    rw [List.takeWhile_cons]
    by_cases h : c = 10
    · subst h
      have e : Lib.index (10 :: r) [10] = 0 := by rw [idx_cons, if_pos]; simp
      rw [e]
      rfl
    · have h1 : ¬ ([10] : Tx).isPrefixOf (c :: r) = true := by
        simp [List.isPrefixOf]; exact fun h2 => h h2.symm
      have h2 : notNl c = true := by unfold notNl; rw [bne_iff_ne]; exact h
      rw [idx_cons, if_neg h1, if_pos h2, ← ih]
      have hge := Lib.index_ge r [10]
      by_cases h3 : Lib.index r [10] = -1
      · rw [if_pos h3, if_neg (by omega), if_neg (by omega)]
      · rw [if_neg h3, if_pos (by omega), if_pos (by omega)]
        obtain ⟨n, hn⟩ : ∃ n : Nat, Lib.index r [10] = (n : Int) := ⟨(Lib.index r [10]).toNat, by omega⟩
        rw [hn]
        show (c :: r).take (n + 1) = c :: r.take n
        rfl
theorem line_size (r : ByteArray) : (lineA r).size = rowL notNl r.data.toList := by
  unfold lineA
  show (Lib.cut r.data.toList [10]).1.toArray.size = _
  rw [cut_line, List.size_toArray]; rfl
theorem z0 (s : ByteArray) (a : Nat) : (rdP 0 (s.extract a s.size)).2.2 = ((rowL fiveQ (s.data.toList.drop a) : Nat) : Int) := by
  show ((rowL fiveQ (s.extract a s.size).data.toList : Nat) : Int) = _
  rw [ext_list]
theorem z1_no (s : ByteArray) (a : Nat) (h : (s.data.toList.drop a).take 2 ≠ [45, 45]) : (rdP 1 (s.extract a s.size)).2.2 = 0 := by
  show (if hpB (s.extract a s.size) dashT = true then ((lineA (s.extract a s.size)).size : Int) else 0) = 0
  rw [hp_eq, ext_list, if_neg]
  exact fun h2 => h ((pfx2 _ _ _).1 h2)
theorem z1_yes (s : ByteArray) (a : Nat) (h : (s.data.toList.drop a).take 2 = [45, 45]) : rdP 1 (s.extract a s.size) = (0, ⟨#[]⟩, ((rowL notNl (s.data.toList.drop a) : Nat) : Int)) := by
  show ((0 : Int), (⟨#[]⟩ : ByteArray), (if hpB (s.extract a s.size) dashT = true then ((lineA (s.extract a s.size)).size : Int) else 0)) = _
  rw [hp_eq, ext_list, if_pos ((pfx2 _ _ _).2 h), line_size, ext_list]
theorem z2_no (s : ByteArray) (a : Nat) (h : (s.data.toList.drop a).take 2 ≠ [47, 42]) : (rdP 2 (s.extract a s.size)).2.2 = 0 := by
  show (if hpB (s.extract a s.size) opnT = true then _ else pc0).2.2 = 0
  rw [hp_eq, ext_list, if_neg]
  · rfl
  · exact fun h2 => h ((pfx2 _ _ _).1 h2)
theorem z2_yes (s : ByteArray) (a : Nat) (h : (s.data.toList.drop a).take 2 = [47, 42]) : rdP 2 (s.extract a s.size) = (0, ⟨#[]⟩, remI ((remL 1 (s.data.toList.drop (a + 2))).map (· + 2))) := by
  show (if hpB (s.extract a s.size) opnT = true then ((0 : Int), (⟨#[]⟩ : ByteArray), remI ((remL 1 ((s.extract a s.size).data.toList.drop 2)).map (· + 2))) else pc0) = _
  rw [hp_eq, ext_list, if_pos ((pfx2 _ _ _).2 h), List.drop_drop]
/-- what stands behind a gap -/
structure Solid (s : ByteArray) (a : Nat) : Prop where
  lt : a < s.size
  blank : fiveQ ((s.data.toList.drop a).headD 0) = false
  line : (s.data.toList.drop a).take 2 ≠ [45, 45]
  rem : (s.data.toList.drop a).take 2 ≠ [47, 42]
theorem five_row (s : ByteArray) (a : Nat) (h : a < s.size) : rowL fiveQ (s.data.toList.drop a) = if fiveQ ((s.data.toList.drop a).headD 0) = true then rowL fiveQ (s.data.toList.drop (a + 1)) + 1 else 0 := by
  rw [byte_at s a h, rowL_cons]; rfl
theorem scan_blank (s : ByteArray) (a : Nat) (acc : List Tok) (h : a < s.size) (hb : fiveQ ((s.data.toList.drop a).headD 0) = true) : scanF s a acc = scanF s (a + 1) acc := by
  have h0 := five_row s a h
  rw [if_pos hb] at h0
  have one : ∀ b, b < s.size → 0 < rowL fiveQ (s.data.toList.drop b) → scanF s b acc = scanF s (b + rowL fiveQ (s.data.toList.drop b)) acc := by
    intro b hb2 hp
    have hf := find_first 0 (by omega) (s.extract b s.size) (fun j hj => by omega) (by rw [z0]; omega)
    have e : rdP 0 (s.extract b s.size) = (0, ⟨#[]⟩, ((rowL fiveQ (s.data.toList.drop b) : Nat) : Int)) := by
      show ((0 : Int), (⟨#[]⟩ : ByteArray), ((rowL fiveQ (s.extract b s.size).data.toList : Nat) : Int)) = _
      rw [ext_list]
    rw [e] at hf
    have := scanF_step s b acc hb2 0 ⟨#[]⟩ _ hp hf
    rwa [if_pos rfl] at this
  rw [one a h (by omega), h0]
  by_cases hn : rowL fiveQ (s.data.toList.drop (a + 1)) = 0
  · rw [hn]
  · have h1 : a + 1 < s.size := by
      rcases Nat.lt_or_ge (a + 1) s.size with h2 | h2
      · exact h2
      · rw [drop_nil s (a + 1) (by omega)] at hn; exact absurd rfl hn
    rw [one (a + 1) h1 (by omega), show a + 1 + rowL fiveQ (s.data.toList.drop (a + 1)) = a + (rowL fiveQ (s.data.toList.drop (a + 1)) + 1) by omega]
theorem scan_line (s : ByteArray) (a : Nat) (acc : List Tok) (h : a < s.size) (hb : fiveQ ((s.data.toList.drop a).headD 0) = false) (hl : (s.data.toList.drop a).take 2 = [45, 45]) : scanF s a acc = scanF s (lineEnd s a) acc := by
  have hg := lineEnd_gt s a hl
  unfold lineEnd at hg ⊢
  have h0 := five_row s a h
  rw [hb, if_neg (by decide)] at h0
  have hj : ∀ j, j < 1 → (rdP j (s.extract a s.size)).2.2 = 0 := by
    intro j hj
    obtain rfl : j = 0 := by omega
    rw [z0, h0]; rfl
  have hf := find_first 1 (by omega) (s.extract a s.size) hj (by rw [z1_yes s a hl]; show ((rowL notNl (s.data.toList.drop a) : Nat) : Int) ≠ 0; omega)
  rw [z1_yes s a hl] at hf
  have := scanF_step s a acc h 0 ⟨#[]⟩ _ (by omega) hf
  rwa [if_pos rfl] at this
theorem scan_rem (s : ByteArray) (a : Nat) (acc : List Tok) (h : a < s.size) (hb : fiveQ ((s.data.toList.drop a).headD 0) = false) (hl : (s.data.toList.drop a).take 2 = [47, 42]) :
    scanF s a acc = (match remAt s a with | none => ([], 6, (a : Int)) | some n => scanF s n acc) := by
  have h0 := five_row s a h
  rw [hb, if_neg (by decide)] at h0
  have hz := z2_yes s a hl
  have h1 : (s.data.toList.drop a).take 2 ≠ [45, 45] := by rw [hl]; decide
  have hj : ∀ j, j < 2 → (rdP j (s.extract a s.size)).2.2 = 0 := by
    intro j hj
    have : j = 0 ∨ j = 1 := by omega
    rcases this with rfl | rfl
    · rw [z0, h0]; rfl
    · exact z1_no s a h1
  unfold remAt
  cases hr : remL 1 (s.data.toList.drop (a + 2)) with
  | none =>
    rw [hr] at hz
    have hf := find_first 2 (by omega) (s.extract a s.size) hj (by rw [hz]; show (-1 : Int) ≠ 0; decide)
    rw [hz] at hf
    exact scanF_bad s a acc h _ hf rfl
  | some n =>
    rw [hr] at hz
    have hz2 : rdP 2 (s.extract a s.size) = (0, ⟨#[]⟩, ((n + 2 : Nat) : Int)) := hz
    have hf := find_first 2 (by omega) (s.extract a s.size) hj (by rw [hz2]; show ((n + 2 : Nat) : Int) ≠ 0; omega)
    rw [hz2] at hf
    have := scanF_step s a acc h 0 ⟨#[]⟩ (n + 2) (by omega) hf
    rw [if_pos rfl] at this
    rw [this]
    show scanF s (a + (n + 2)) acc = scanF s (n + (a + 2)) acc
    rw [show a + (n + 2) = n + (a + 2) by omega]
theorem gapN_end (f : Nat) (s : ByteArray) (a : Nat) (h : s.size ≤ a) : gapN (f + 1) s a = (a, false) := by rw [gapN, if_pos h]
theorem gapN_blank (f : Nat) (s : ByteArray) (a : Nat) (h : ¬ s.size ≤ a) (hb : fiveQ ((s.data.toList.drop a).headD 0) = true) : gapN (f + 1) s a = gapN f s (a + 1) := by rw [gapN, if_neg h, if_pos hb]
theorem gapN_line (f : Nat) (s : ByteArray) (a : Nat) (h : ¬ s.size ≤ a) (hb : fiveQ ((s.data.toList.drop a).headD 0) = false) (hl : (s.data.toList.drop a).take 2 = [45, 45]) : gapN (f + 1) s a = gapN f s (lineEnd s a) := by
  rw [gapN, if_neg h, hb, if_neg (by simp), if_pos hl]
theorem gapN_rem (f : Nat) (s : ByteArray) (a : Nat) (h : ¬ s.size ≤ a) (hb : fiveQ ((s.data.toList.drop a).headD 0) = false) (hl : (s.data.toList.drop a).take 2 ≠ [45, 45]) (hr : (s.data.toList.drop a).take 2 = [47, 42]) :
    gapN (f + 1) s a = (match remAt s a with | none => (a, true) | some n => gapN f s n) := by
  rw [gapN, if_neg h, hb, if_neg (by simp), if_neg hl, if_pos hr]
  all_goals (cases remAt s a <;> rfl)
theorem gapN_stop (f : Nat) (s : ByteArray) (a : Nat) (h : ¬ s.size ≤ a) (hb : fiveQ ((s.data.toList.drop a).headD 0) = false) (hl : (s.data.toList.drop a).take 2 ≠ [45, 45]) (hr : (s.data.toList.drop a).take 2 ≠ [47, 42]) :
    gapN (f + 1) s a = (a, false) := by
  rw [gapN, if_neg h, hb, if_neg (by simp), if_neg hl, if_neg hr]
/-- Scan and the document's gap -/
theorem scan_gap (s : ByteArray) (acc : List Tok) : ∀ (n f a : Nat), s.size - a ≤ n → n < f → a ≤ s.size →
    scanF s a acc = (if (gapN f s a).2 = true then ([], 6, ((gapN f s a).1 : Int)) else scanF s (gapN f s a).1 acc) ∧ a ≤ (gapN f s a).1 ∧ (gapN f s a).1 ≤ s.size ∧
      ((gapN f s a).2 = false → (gapN f s a).1 < s.size → Solid s (gapN f s a).1) := by
  intro n
  induction n with
  | zero =>
    intro f a hn hf ha
    obtain ⟨f, rfl⟩ : ∃ x, f = x + 1 := ⟨f - 1, by omega⟩
    rw [gapN_end f s a (by omega)]
    exact ⟨by simp, Nat.le_refl _, ha, fun _ h => by simp only at h; omega⟩
  | succ n ih =>
    intro f a hn hf ha
    obtain ⟨f, rfl⟩ : ∃ x, f = x + 1 := ⟨f - 1, by omega⟩
    by_cases h : s.size ≤ a
    · rw [gapN_end f s a h]
      exact ⟨by simp, Nat.le_refl _, ha, fun _ h2 => by simp only at h2; omega⟩
    · cases hb : fiveQ ((s.data.toList.drop a).headD 0) with
      | true =>
        rw [gapN_blank f s a h hb]
        obtain ⟨i1, i2, i3, i4⟩ := ih f (a + 1) (by omega) (by omega) (by omega)
        exact ⟨by rw [scan_blank s a acc (by omega) hb]; exact i1, by omega, i3, i4⟩
      | false =>
        by_cases hl : (s.data.toList.drop a).take 2 = [45, 45]
        · rw [gapN_line f s a h hb hl]
          have hg := lineEnd_gt s a hl
          obtain ⟨i1, i2, i3, i4⟩ := ih f (lineEnd s a) (by omega) (by omega) (lineEnd_le s a ha)
          exact ⟨by rw [scan_line s a acc (by omega) hb hl]; exact i1, by omega, i3, i4⟩
        · by_cases hr : (s.data.toList.drop a).take 2 = [47, 42]
          · rw [gapN_rem f s a h hb hl hr]
            have hsr := scan_rem s a acc (by omega) hb hr
            cases hra : remAt s a with
            | none =>
              rw [hra] at hsr
              simp only at hsr ⊢
              exact ⟨by simpa using hsr, Nat.le_refl _, ha, fun h => by cases h⟩
            | some m =>
              rw [hra] at hsr
              simp only at hsr ⊢
              obtain ⟨m1, m2⟩ := remAt_le s a m hra hr
              obtain ⟨i1, i2, i3, i4⟩ := ih f m (by omega) (by omega) m2
              exact ⟨by rw [hsr]; exact i1, by omega, i3, i4⟩
          · rw [gapN_stop f s a h hb hl hr]
            exact ⟨by simp, Nat.le_refl _, ha, fun _ _ => ⟨by omega, hb, hl, hr⟩⟩
end Go.Proofs.YtjloookjlnmgdaaGreatDoor
