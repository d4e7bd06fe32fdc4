/- What the document's own gap answers. Conditions: a text's length.
   What the document's own small, sign, quoted, tag and dollar answer. Conditions: a text's length; where they are asked. -/
import Derived.Test.YtgnpkpboilnijaaGreatDoorG12
import Derived.Test.YtgnpkpboilnijaaGreatDoorG7
import Derived.Deep.LoopGhost
set_option linter.unusedSimpArgs false
set_option linter.unusedVariables false
namespace Go.Proofs.YtgnpkpboilnijaaGreatDoor
open Go.ChangeShapes Go.WideShapes Go.ChangeAt Go.RowKit
set_option maxRecDepth 100000
set_option linter.unusedVariables false
set_option linter.unusedSimpArgs false

def notNl (c : UInt8) : Bool := c != 10
/-- where the line ends -/
def lineEnd (s : ByteArray) (a : Nat) : Nat := a + rowL notNl (s.data.toList.drop a)
/-- the place behind blanks and remarks, and whether a remark there does not end -/
def gapN : Nat → ByteArray → Nat → Nat × Bool
  | 0, _, a => (a, false)
  | f + 1, s, a =>
    if s.size ≤ a then (a, false) else
    if fiveQ ((s.data.toList.drop a).headD 0) = true then gapN f s (a + 1) else
    if (s.data.toList.drop a).take 2 = [45, 45] then gapN f s (lineEnd s a) else
    if (s.data.toList.drop a).take 2 = [47, 42] then (match remAt s a with
      | none => (a, true)
      | some n => gapN f s n) else (a, false)
theorem five_all : ((List.range 256).all fun n => fiveB (n : Int) == (n == 32 || n == 9 || n == 10 || n == 12 || n == 13)) = true := by kernel_rfl
theorem five_eq (c : UInt8) : fiveQ c = (((c.toNat : Int) == 32) || ((c.toNat : Int) == 9) || ((c.toNat : Int) == 10) || ((c.toNat : Int) == 12) || ((c.toNat : Int) == 13)) := by
  have h := beq_iff_eq.1 (List.all_eq_true.1 five_all c.toNat (List.mem_range.2 c.toNat_lt))
  show fiveB (c.toNat : Int) = _
  rw [h]
  have e : ∀ k : Nat, (c.toNat == k) = ((c.toNat : Int) == (k : Int)) := by
    intro k
    rw [Bool.eq_iff_iff, beq_iff_eq, beq_iff_eq]; omega
  rw [e 32, e 9, e 10, e 12, e 13]
  rfl
theorem lineEnd_le (s : ByteArray) (a : Nat) (ha : a ≤ s.size) : lineEnd s a ≤ s.size := by
  unfold lineEnd
  have h1 : rowL notNl (s.data.toList.drop a) ≤ (s.data.toList.drop a).length := rowL_le _ _
  rw [List.length_drop] at h1
  have : s.size = s.data.toList.length := rfl
  omega
theorem lineEnd_gt (s : ByteArray) (a : Nat) (h : (s.data.toList.drop a).take 2 = [45, 45]) : a + 1 ≤ lineEnd s a := by
  have hl := len2 _ _ s a h
  unfold lineEnd
  rw [byte_at s a (by omega), rowL_cons]
  rw [byte_at s a (by omega), List.take_succ_cons] at h
  injection h with h _
  rw [h, if_pos (by decide)]
  omega
theorem remAt_le (s : ByteArray) (a n : Nat) (h : remAt s a = some n) (h2 : (s.data.toList.drop a).take 2 = [47, 42]) : a + 1 ≤ n ∧ n ≤ s.size := by
  have hl := len2 _ _ s a h2
  unfold remAt at h
  cases hr : remL 1 (s.data.toList.drop (a + 2)) with
  | none => rw [hr] at h; cases h
  | some k =>
    rw [hr] at h
    simp at h
    have := remL_le _ _ _ hr
    rw [List.length_drop] at this
    have hs : s.size = s.data.toList.length := rfl
    omega
set_option maxHeartbeats 2000000 in
set_option maxRecDepth 100000 in
theorem rgap_any (s : ByteArray) (a0 : Nat) (w : World) (hs : s.size ≤ 1048000) (ha0 : a0 ≤ s.size) (R : Nat × Bool) (hR : R = gapN (s.size + 1) s a0) :
    Calls Tryz.prog 29 #[.string s, .int .i64 (a0 : Int)] w fun e w' => e = .returned (.tuple #[.int .i64 (R.1 : Int), .bool R.2]) ∧ w' = w := by
  have hst := fun a p ha hp w => starts_any s p a w (by omega) hp ha
  have hre := fun a h w => rremark_any s a w hs h
  have HST := Lib.hid hst
  have HRE := Lib.hid hre
  have HE := Lib.hid hR
  have HA0 := Lib.hid ha0
  clear hst hre hR ha0
  go_enter Tryz.func29, Tryz.ntmps29
  go_wp2
  go_loopg [1] s.size (fun g u1 wx => ∃ a : Nat, a ≤ s.size ∧ s.size - a ≤ g ∧ u1 = .int .i64 (a : Int) ∧ wx = w ∧ R = gapN (g + 1) s a)
  case atStart => exact ⟨a0, HA0.out, by omega, rfl, rfl, HE.out⟩
  case round =>
    obtain ⟨a, ha, hg, rfl, rfl, hv⟩ := hrel
    rw [gapN] at hv
    clear HE HA0
    by_cases hlt : a < s.size
    · obtain ⟨g, rfl⟩ : ∃ g, gk = g + 1 := ⟨gk - 1, by omega⟩
      rw [if_neg (by omega)] at hv
      have l0 : (0 : Int) ≤ (a : Int) := by omega
      have l1 : (a : Int) < (s.size : Int) := by omega
      have hst1 : ∀ w, Calls Tryz.prog 45 #[.string s, .int .i64 (a : Int), .string ⟨#[45, 45]⟩] w fun e w' => e = .returned (.bool ([45, 45].isPrefixOf (s.data.toList.drop a))) ∧ w' = w := fun w => HST.out a ⟨#[45, 45]⟩ ha (by show 2 ≤ _; omega) w
      have hst2 : ∀ w, Calls Tryz.prog 45 #[.string s, .int .i64 (a : Int), .string ⟨#[47, 42]⟩] w fun e w' => e = .returned (.bool ([47, 42].isPrefixOf (s.data.toList.drop a))) ∧ w' = w := fun w => HST.out a ⟨#[47, 42]⟩ ha (by show 2 ≤ _; omega) w
      have hd := byte_at s a hlt
      have hh : (s.data.toList.drop a).headD 0 = s[a] := by rw [hd]; rfl
      rw [hh, five_eq] at hv
      obtain ⟨z, hz⟩ : ∃ z : Int, ((s[a]'hlt).toNat : Int) = z := ⟨_, rfl⟩
      rw [hz] at hv
      obtain ⟨a1, ha1⟩ : ∃ a1, a + 1 = a1 := ⟨_, rfl⟩
      have cw1 : IntKind.i64.wrap ((a : Int) + 1) = (a1 : Int) := by rw [show (a : Int) + 1 = (a1 : Int) by omega]; exact IntWalk.i64_in _ (by omega)
      rw [ha1] at hv
      have HA1 := Lib.hid ha1
      have HV := Lib.hid hv
      clear hd hh ha1 hv
      have leaf : ∀ b, (((z == 32) || (z == 9) || (z == 10) || (z == 12) || (z == 13)) = b) → (if b = true then R = gapN (g + 1) s a1 else R = (if (s.data.toList.drop a).take 2 = [45, 45] then gapN (g + 1) s (lineEnd s a) else
          if (s.data.toList.drop a).take 2 = [47, 42] then (match remAt s a with
            | none => (a, true)
            | some n => gapN (g + 1) s n) else (a, false))) := by
        intro b hb
        have := HV.out
        rw [hb] at this
        cases b with
        | true => rw [if_pos rfl] at this ⊢; exact this
        | false => rw [if_neg (by decide)] at this ⊢; exact this
      have HLF := Lib.hid leaf
      clear leaf HV
      by_cases z1 : z = 32
      · subst z1
        have HN := Lib.hid (show R = gapN (g + 1) s a1 from by have := HLF.out true rfl; rwa [if_pos rfl] at this)
        clear HLF hst1 hst2
        go_wp2
        go_roundg g
        case measure => exact Nat.lt_succ_self _
        case rel => exact ⟨a1, by have := HA1.out; omega, by have := HA1.out; omega, rfl, rfl, HN.out⟩
      by_cases z2 : z = 9
      · subst z2
        have HN := Lib.hid (show R = gapN (g + 1) s a1 from by have := HLF.out true rfl; rwa [if_pos rfl] at this)
        clear HLF hst1 hst2 z1
        go_wp2
        go_roundg g
        case measure => exact Nat.lt_succ_self _
        case rel => exact ⟨a1, by have := HA1.out; omega, by have := HA1.out; omega, rfl, rfl, HN.out⟩
      by_cases z3 : z = 10
      · subst z3
        have HN := Lib.hid (show R = gapN (g + 1) s a1 from by have := HLF.out true rfl; rwa [if_pos rfl] at this)
        clear HLF hst1 hst2 z1 z2
        go_wp2
        go_roundg g
        case measure => exact Nat.lt_succ_self _
        case rel => exact ⟨a1, by have := HA1.out; omega, by have := HA1.out; omega, rfl, rfl, HN.out⟩
      by_cases z4 : z = 12
      · subst z4
        have HN := Lib.hid (show R = gapN (g + 1) s a1 from by have := HLF.out true rfl; rwa [if_pos rfl] at this)
        clear HLF hst1 hst2 z1 z2 z3
        go_wp2
        go_roundg g
        case measure => exact Nat.lt_succ_self _
        case rel => exact ⟨a1, by have := HA1.out; omega, by have := HA1.out; omega, rfl, rfl, HN.out⟩
      by_cases z5 : z = 13
      · subst z5
        have HN := Lib.hid (show R = gapN (g + 1) s a1 from by have := HLF.out true rfl; rwa [if_pos rfl] at this)
        clear HLF hst1 hst2 z1 z2 z3 z4
        go_wp2
        go_roundg g
        case measure => exact Nat.lt_succ_self _
        case rel => exact ⟨a1, by have := HA1.out; omega, by have := HA1.out; omega, rfl, rfl, HN.out⟩
      have e1 : (z == (32 : Int)) = false := by rw [beq_eq_false_iff_ne]; exact z1
      have e2 : (z == (9 : Int)) = false := by rw [beq_eq_false_iff_ne]; exact z2
      have e3 : (z == (10 : Int)) = false := by rw [beq_eq_false_iff_ne]; exact z3
      have e4 : (z == (12 : Int)) = false := by rw [beq_eq_false_iff_ne]; exact z4
      have e5 : (z == (13 : Int)) = false := by rw [beq_eq_false_iff_ne]; exact z5
      have HN := Lib.hid (HLF.out false (by rw [e1, e2, e3, e4, e5]; rfl))
      clear HLF z1 z2 z3 z4 z5
      cases h1 : ([45, 45] : Tx).isPrefixOf (s.data.toList.drop a) with
      | true =>
        rw [h1] at hst1
        have HSN := Lib.hid hst1
        have h1' := (pfx2 _ _ _).1 h1
        have hn : R = gapN (g + 1) s (lineEnd s a) := by have := HN.out; rw [if_neg (by decide), if_pos h1'] at this; exact this
        have hle := lineEnd_le s a ha
        have hgt := lineEnd_gt s a h1'
        obtain ⟨L, hL⟩ : ∃ L, lineEnd s a = L := ⟨_, rfl⟩
        rw [hL] at hn hle hgt
        have HN2 := Lib.hid hn
        have HL := Lib.hid hL
        clear hst1 hst2 h1 h1' hn HN hL
        go_wp2_with (go_at_call 45; (with_reducible refine (HSN.out _).mono ?_); rintro e w1 ⟨rfl, hw1⟩; obtain rfl := hw1.symm)
        go_loop [1] (fun u1 => ∃ i : Nat, i ≤ s.size ∧ u1 = .int .i64 i ∧ L = i + rowL notNl (s.data.toList.drop i)) (fun u1 => s.size - (intOf u1).toNat)
        case atStart => exact ⟨a, ha, rfl, HL.out.symm⟩
        case round =>
          obtain ⟨i, hi, rfl, hv⟩ := hrel
          clear cw1 hz
          by_cases hil : i < s.size
          · have j0 : (0 : Int) ≤ (i : Int) := by omega
            have j1 : (i : Int) < (s.size : Int) := by omega
            rw [byte_at s i hil, rowL_cons] at hv
            obtain ⟨y, hy⟩ : ∃ y : Int, ((s[i]'hil).toNat : Int) = y := ⟨_, rfl⟩
            obtain ⟨i1, hi1⟩ : ∃ i1, i + 1 = i1 := ⟨_, rfl⟩
            have ciw : IntKind.i64.wrap ((i : Int) + 1) = (i1 : Int) := by rw [show (i : Int) + 1 = (i1 : Int) by omega]; exact IntWalk.i64_in _ (by omega)
            have hnl : notNl s[i] = (y != 10) := by
              unfold notNl
              rw [← hy, Bool.eq_iff_iff, bne_iff_ne, bne_iff_ne]
              constructor
              · intro h hh; exact h (UInt8.toNat_inj.1 (by show _ = 10; omega))
              · intro h hh; rw [hh] at h; exact h rfl
            rw [hnl] at hv
            have HI1 := Lib.hid hi1
            by_cases h10 : y = 10
            · subst h10
              rw [if_neg (by decide)] at hv
              have HV := Lib.hid hv
              clear hv hnl hi1
              go_wp2
              go_roundg g
              case measure => exact Nat.lt_succ_self _
              case rel => exact ⟨L, hle, by omega, by rw [HV.out]; rfl, rfl, HN2.out⟩
            · have e10 : (y != (10 : Int)) = true := by rw [bne_iff_ne]; exact h10
              rw [e10, if_pos rfl, hi1] at hv
              have HV := Lib.hid hv
              clear hv hnl hi1 h10
              go_wp2
              go_round
              case rel => exact ⟨i1, by have := HI1.out; omega, rfl, by have := HI1.out; have := HV.out; omega⟩
              case measure => have := HI1.out; simp [intOf]; omega
          · have j1 : ¬ ((i : Int) < (s.size : Int)) := by omega
            have hd0 : s.data.toList.drop i = [] := List.drop_eq_nil_of_le (by have : s.size = s.data.toList.length := rfl; omega)
            rw [hd0] at hv
            have HV := Lib.hid hv
            clear hv hd0
            go_wp2
            go_roundg g
            case measure => exact Nat.lt_succ_self _
            case rel => exact ⟨L, hle, by omega, by rw [HV.out]; rfl, rfl, HN2.out⟩
      | false =>
        rw [h1] at hst1
        have h1' := (pfx2_no _ _ _).1 h1
        cases h2 : ([47, 42] : Tx).isPrefixOf (s.data.toList.drop a) with
        | true =>
          rw [h2] at hst2
          have h2' := (pfx2 _ _ _).1 h2
          have hn : R = (match remAt s a with
            | none => (a, true)
            | some n => gapN (g + 1) s n) := by have := HN.out; rw [if_neg (by decide), if_neg h1', if_pos h2'] at this; exact this
          have hre := HRE.out a h2'
          have hrl := remAt_le s a
          cases hra : remAt s a with
          | none =>
            rw [hra] at hn hre
            have hre2 : ∀ w, Calls Tryz.prog 46 #[.string s, .int .i64 (a : Int)] w fun e w' => e = .returned (.int .i64 (-1)) ∧ w' = w := hre
            have HRE2 := Lib.hid hre2
            have HS1 := Lib.hid hst1
            have HS2 := Lib.hid hst2
            have HN2 := Lib.hid hn
            clear hst1 hst2 h1 h1' h2 h2' hn HN hre hre2 hrl hra
            go_wp2_with (first | (go_at_call 45; (with_reducible refine (HS1.out _).mono ?_); rintro e w1 ⟨rfl, hw1⟩; obtain rfl := hw1.symm) | (go_at_call 45; (with_reducible refine (HS2.out _).mono ?_); rintro e w1 ⟨rfl, hw1⟩; obtain rfl := hw1.symm) | (go_at_call 46; (with_reducible refine (HRE2.out _).mono ?_); rintro e w1 ⟨rfl, hw1⟩; obtain rfl := hw1.symm))
            go_ret2
            exact ⟨by rw [HN2.out]; rfl, rfl⟩
          | some n =>
            rw [hra] at hn hre
            obtain ⟨hn1, hn2⟩ := hrl n hra h2'
            have hre2 : ∀ w, Calls Tryz.prog 46 #[.string s, .int .i64 (a : Int)] w fun e w' => e = .returned (.int .i64 (n : Int)) ∧ w' = w := hre
            have HRE2 := Lib.hid hre2
            have HS1 := Lib.hid hst1
            have HS2 := Lib.hid hst2
            have HN2 := Lib.hid hn
            have hnn : ¬ ((n : Int) < 0) := by omega
            clear hst1 hst2 h1 h1' h2 h2' hn HN hre hre2 hrl hra
            go_wp2_with (first | (go_at_call 45; (with_reducible refine (HS1.out _).mono ?_); rintro e w1 ⟨rfl, hw1⟩; obtain rfl := hw1.symm) | (go_at_call 45; (with_reducible refine (HS2.out _).mono ?_); rintro e w1 ⟨rfl, hw1⟩; obtain rfl := hw1.symm) | (go_at_call 46; (with_reducible refine (HRE2.out _).mono ?_); rintro e w1 ⟨rfl, hw1⟩; obtain rfl := hw1.symm))
            go_roundg g
            case measure => exact Nat.lt_succ_self _
            case rel => exact ⟨n, hn2, by omega, rfl, rfl, HN2.out⟩
        | false =>
          rw [h2] at hst2
          have h2' := (pfx2_no _ _ _).1 h2
          have hn : R = (a, false) := by have := HN.out; rw [if_neg (by decide), if_neg h1', if_neg h2'] at this; exact this
          have HS1 := Lib.hid hst1
          have HS2 := Lib.hid hst2
          have HN2 := Lib.hid hn
          clear hst1 hst2 h1 h1' h2 h2' hn HN
          go_wp2_with (first | (go_at_call 45; (with_reducible refine (HS1.out _).mono ?_); rintro e w1 ⟨rfl, hw1⟩; obtain rfl := hw1.symm) | (go_at_call 45; (with_reducible refine (HS2.out _).mono ?_); rintro e w1 ⟨rfl, hw1⟩; obtain rfl := hw1.symm))
          go_ret2
          exact ⟨by rw [HN2.out]; rfl, rfl⟩
    · have l1 : ¬ ((a : Int) < (s.size : Int)) := by omega
      rw [if_pos (by omega)] at hv
      have HV := Lib.hid hv
      clear hv
      go_wp2
      go_ret2
      exact ⟨by rw [HV.out]; rfl, rfl⟩
end Go.Proofs.YtgnpkpboilnijaaGreatDoor
namespace Go.Proofs.YtgnpkpboilnijaaGreatDoor
open Go.ChangeShapes Go.WideShapes Go.ChangeAt Go.RowKit
set_option maxRecDepth 100000
set_option linter.unusedVariables false
set_option linter.unusedSimpArgs false

set_option maxRecDepth 100000 in
theorem rsmall_any (s : ByteArray) (hs : s.size ≤ 281474976710656) (w : World) : Calls Tryz.prog 49 #[.string s] w fun e w' => e = .returned (.string (smallA s)) ∧ Below w.heap.size w w' := by
  have hconv := run_bytes_of_string (P := Tryz.prog) w 9 58 5 s (by kernel_rfl) (by kernel_rfl) (by kernel_rfl)
  have hI : SmI s w 0 (w.drew.alloc (.cells (bytesRow s (grownCap w s.size 0 5)) 5 ((bytesRow s (grownCap w s.size 0 5)).size, (bytesRow s (grownCap w s.size 0 5)).size + 1))) := by
    have e1 : w.drew.heap.size = w.heap.size := by simp
    refine ⟨fun j hj => ?_, fun j hj => ?_, ((Below.refl _ _).drew).alloc (by simp) _⟩
    · rw [if_neg (by omega)]
      rw [← e1, World.cell?_alloc_mark, bytesRow_at s _ j hj]
      rfl
    · rw [← e1, World.frozen?_alloc_mark]
      have : j < (bytesRow s (grownCap w s.size 0 5)).size := by
        have := bytesRow_at s (grownCap w s.size 0 5) j hj
        exact (Array.getElem?_eq_some_iff.1 this).1
      rw [decide_eq_false (by omega)]; rfl
  generalize (w.drew.alloc (.cells (bytesRow s (grownCap w s.size 0 5)) 5 ((bytesRow s (grownCap w s.size 0 5)).size, (bytesRow s (grownCap w s.size 0 5)).size + 1))) = w1 at *
  generalize grownCap w s.size 0 5 = cap at *
  have HI := Lib.hid hI
  clear hI
  go_enter Tryz.func49, Tryz.ntmps49
  go_wp2
  go_loopw [4] (fun u4 wr => ∃ k : Nat, u4 = .int .i64 (k : Int) ∧ k ≤ s.size ∧ SmI s w k wr) (fun u4 _ => s.size - (match u4 with | .int _ k => k.toNat | _ => 0))
  case atStart => exact ⟨0, rfl, Nat.zero_le _, HI.out⟩
  case round =>
    obtain ⟨k, rfl, hks, hS⟩ := hrel
    clear HI hconv
    have HS := Lib.hid hS
    clear hS
    by_cases hk : k < s.size
    · have lw : Hid ((k : Int) + 1 = ((k + 1 : Nat) : Int)) := Lib.hid (by omega)
      obtain ⟨z, hz⟩ : ∃ z : Int, ((s[k]'hk).toNat : Int) = z := ⟨_, rfl⟩
      have hc : wr.cell? ⟨w.heap.size, k, none⟩ = some (.int .u8 z) := by
        have := HS.out.cell k hk
        rwa [if_neg (by omega), hz] at this
      have hf : wr.frozen? ⟨w.heap.size, k, none⟩ = false := HS.out.fro k hk
      have lk : (k : Int) < (s.size : Int) := by omega
      have l0 : (0 : Int) ≤ (k : Int) := by omega
      have HZ := Lib.hid hz
      clear hz
      by_cases h1 : 65 ≤ z ∧ z ≤ 90
      · obtain ⟨ha, hb⟩ := h1
        have s1 : IntKind.u8.wrap (z + 32) = z + 32 := IntWalk.u8_in _ (by omega)
        go_wp2
        refine ⟨⟨k + 1, by rw [lw.out], by omega, HS.out.put hk _ (by rw [HZ.out]; unfold lowI; rw [if_pos ⟨ha, hb⟩])⟩, ?_⟩
        rw [lw.out]; simp only [Int.toNat_natCast]; omega
      · by_cases h2 : 65 ≤ z
        · have h3 : ¬ (z ≤ 90) := by omega
          clear h1
          go_wp2
          refine ⟨⟨k + 1, by rw [lw.out], by omega, HS.out.keep hk (by rw [HZ.out]; unfold lowI; rw [if_neg (by omega)])⟩, ?_⟩
          rw [lw.out]; simp only [Int.toNat_natCast]; omega
        · clear h1
          go_wp2
          refine ⟨⟨k + 1, by rw [lw.out], by omega, HS.out.keep hk (by rw [HZ.out]; unfold lowI; rw [if_neg (by omega)])⟩, ?_⟩
          rw [lw.out]; simp only [Int.toNat_natCast]; omega
    · have lk : ¬ ((k : Int) < (s.size : Int)) := by omega
      have hks2 : k = s.size := by omega
      have hback := run_convert_bytes_back (P := Tryz.prog) wr 58 9 5 ⟨w.heap.size, 0, none⟩ cap (s.data.toList.map lowB) (by kernel_rfl) (by kernel_rfl) (by kernel_rfl) (fun j hj => by
        have hj2 : j < s.size := by rw [Lib.size_eq]; simpa using hj
        have := HS.out.cell j hj2
        rw [if_pos (by omega)] at this
        have ea : (⟨w.heap.size, 0, none⟩ : Addr).add j = ⟨w.heap.size, j, none⟩ := by simp [Addr.add]; exact fun h => h.symm
        rw [ea, this, List.getElem_map]
        rfl)
      rw [List.length_map, ← Lib.size_eq] at hback
      clear hks2
      go_wp2
      go_ret
      exact ⟨rfl, HS.out.bel⟩
theorem idx_mem (l : Tx) (c : UInt8) : 0 ≤ Lib.indexByte l c ↔ c ∈ l := by
  induction l with
  | nil => simp [Lib.indexByte]
  | cons b r ih =>
    have hge := Lib.indexByte_ge r c
    unfold Lib.indexByte
    by_cases h : b = c
    · subst h; simp
    · have hb : (b == c) = false := by rw [beq_eq_false_iff_ne]; exact h
      rw [hb]
      simp only [Bool.false_eq_true, if_false, List.mem_cons]
      by_cases h1 : Lib.indexByte r c = -1
      · rw [h1]
        have : ¬ (c ∈ r) := fun hm => by have := ih.2 hm; omega
        simp [this]
        exact fun hh => h hh.symm
      · have h2 : (Lib.indexByte r c == -1) = false := by rw [beq_eq_false_iff_ne]; exact h1
        rw [h2]
        simp only [Bool.false_eq_true, if_false]
        constructor
        · intro _; exact .inr (ih.1 (by omega))
        · intro hm
          rcases hm with hm | hm
          · exact absurd hm.symm h
          · have := ih.2 hm; omega
set_option maxHeartbeats 1000000 in
set_option maxRecDepth 100000 in
theorem rsign_any (c : UInt8) (w : World) : Calls Tryz.prog 54 #[.int .u8 (c.toNat : Int)] w fun e w' => e = .returned (.bool (decide (0 ≤ signI c))) ∧ w' = w := by
  obtain ⟨z, hz⟩ : ∃ z : Int, (c.toNat : Int) = z := ⟨_, rfl⟩
  rw [hz]
  have HZ := Lib.hid hz
  obtain ⟨R, hR⟩ : ∃ R, decide (0 ≤ signI c) = R := ⟨_, rfl⟩
  rw [hR]
  have HR := Lib.hid hR
  clear hz hR
  go_enter Tryz.func54, Tryz.ntmps54
  go_wp2
  go_loop [4] (fun u4 => ∃ k : Nat, k ≤ 24 ∧ u4 = .int .i64 k ∧ ∀ j, j < k → signT.data.toList[j]? ≠ some c) (fun u4 => 24 - (intOf u4).toNat)
  case atStart => exact ⟨0, Nat.zero_le _, rfl, fun j h => by omega⟩
  case round =>
    obtain ⟨k, hk, rfl, hn⟩ := hrel
    have HN := Lib.hid hn
    clear hn
    by_cases hlt : k < 24
    · have l0 : (0 : Int) ≤ (k : Int) := by omega
      have l1 : (k : Int) < 24 := by omega
      obtain ⟨y, hy⟩ : ∃ y : UInt8, signT.data.toList[k]'hlt = y := ⟨_, rfl⟩
      have hci : ((signT[k]'hlt).toNat : Int) = (y.toNat : Int) := by rw [← hy]; rfl
      have hy2 : signT.data.toList[k]? = some y := by rw [List.getElem?_eq_getElem hlt, hy]
      obtain ⟨x, hx⟩ : ∃ x : Int, (y.toNat : Int) = x := ⟨_, rfl⟩
      rw [hx] at hci
      have HX := Lib.hid hx
      have HY := Lib.hid hy2
      clear hx hy hy2
      by_cases he : x = z
      · have e : (x == z) = true := by rw [beq_iff_eq]; exact he
        have hyc : y = c := UInt8.toNat_inj.1 (by have := HX.out; have := HZ.out; omega)
        have hr : R = true := by
          rw [← HR.out]
          refine decide_eq_true ((idx_mem _ _).2 ?_)
          rw [← hyc]
          exact List.mem_of_getElem? HY.out
        have HRR := Lib.hid hr
        clear he hyc hr
        go_wp2
        go_ret
        exact ⟨by rw [HRR.out]; rfl, rfl⟩
      · have e : (x == z) = false := by rw [beq_eq_false_iff_ne]; exact he
        have hyc : y ≠ c := fun h => he (by have h1 := HX.out; have h2 := HZ.out; rw [h] at h1; omega)
        have HYC := Lib.hid hyc
        clear he hyc
        go_wp2
        go_round
        case rel =>
          refine ⟨k + 1, by omega, by go_num, fun j hj => ?_⟩
          by_cases hjk : j < k
          · exact HN.out j hjk
          · have : j = k := by omega
            subst this
            rw [HY.out]
            intro h
            exact HYC.out (Option.some.inj h)
        case measure => simp [intOf]; omega
    · have l1 : ¬ ((k : Int) < 24) := by omega
      have hr : R = false := by
        rw [← HR.out]
        refine decide_eq_false fun h => ?_
        obtain ⟨j, hj⟩ := List.getElem?_of_mem ((idx_mem _ _).1 h)
        exact HN.out j (by have := (List.getElem?_eq_some_iff.1 hj).1; have h24 : signT.data.toList.length = 24 := rfl; omega) hj
      have HRR := Lib.hid hr
      clear hr
      go_wp2
      go_ret
      exact ⟨by rw [HRR.out]; rfl, rfl⟩
end Go.Proofs.YtgnpkpboilnijaaGreatDoor
