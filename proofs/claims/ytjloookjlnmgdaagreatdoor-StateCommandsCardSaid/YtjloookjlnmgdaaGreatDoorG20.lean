/- What package state's Right tells. Condition: none. -/
import Derived.Test.YtjloookjlnmgdaaGreatDoorG19
import Derived.Sort.Walk0
set_option linter.unusedSimpArgs false
set_option linter.unusedVariables false
namespace Go.Proofs.YtjloookjlnmgdaaGreatDoor
open Go.ChangeShapes Go.WideShapes Go.ChangeAt Go.RowKit
set_option maxRecDepth 100000
set_option linter.unusedVariables false
set_option linter.unusedSimpArgs false

/-- a table may stand there -/
def tabAt (s : List Tb) (i : Nat) : Bool := match s[i]? with
  | none => true
  | some t => (i == 0 || (match s[i - 1]? with | some q => decide (q.1.toList < t.1.toList) | none => true)) && (decide (t.1.size ≠ 0) && (decide (t.1.size ≤ 30) && rowsOk t.2))
def tabsGo (s : List Tb) : Nat → Nat → Bool
  | 0, _ => true
  | n + 1, i => tabAt s i && tabsGo s n (i + 1)
def rightL (s : List Tb) : Bool := decide (s.length ≤ 16) && tabsGo s s.length 0
theorem emp_iff (s : ByteArray) : s.toList.isEmpty = decide (s.size = 0) := by
  rcases tail_empty s with ⟨h, rfl⟩ | ⟨h, h2⟩
  · rw [h]; rfl
  · rw [h]; exact (decide_eq_false (by omega)).symm
set_option maxHeartbeats 4000000 in
theorem right_any (v : Value) (s : List Tb) (w : World) (h : SR w v s) :
    Calls Tryz.prog 15 #[v] w fun e w' => e = .returned (.bool (rightL s)) ∧ Below w.heap.size w w' := by
  obtain ⟨R, hR⟩ : ∃ R, rightL s = R := ⟨_, rfl⟩
  rw [hR]
  obtain ⟨a, cap, rfl⟩ := h.form
  have HH := Lib.hid h
  by_cases h16 : s.length ≤ 16
  · have hg : tabsGo s s.length 0 = R := by rw [← hR]; unfold rightL; rw [decide_eq_true h16, Bool.true_and]
    have l16 : ¬ ((16 : Int) < (s.length : Int)) := by omega
    have HG := Lib.hid hg
    have H16 := Lib.hid h16
    clear h hR hg
    go_enter Tryz.func15, Tryz.ntmps15
    go_wp2
    go_loopg [11] s.length (fun gk u11 wx => ∃ i : Nat, u11 = .int .i64 (i : Int) ∧ i + gk = s.length ∧ Below w.heap.size w wx ∧ tabsGo s gk i = R)
    case atStart => exact ⟨0, rfl, by omega, Below.refl _ _, HG.out⟩
    case round =>
      obtain ⟨i, rfl, hi, hB, hr⟩ := hrel
      have HB := Lib.hid hB
      have HI := Lib.hid hi
      cases gk with
      | zero =>
        have l1 : ¬ ((i : Int) < (s.length : Int)) := by omega
        have hR : R = true := hr.symm
        subst hR
        clear hB hi hr
        go_wp2
        go_ret
        exact ⟨rfl, HB.out⟩
      | succ gk =>
        have hlt : i < s.length := by omega
        have hRR := HH.out.below hB
        obtain ⟨b, o, cp, he, hcp, hx⟩ := hRR.inv (by omega)
        injection he with ea _ ec
        subst ea ec
        obtain ⟨t, ht0⟩ : ∃ t, s[i] = t := ⟨_, rfl⟩
        obtain ⟨x0, u, x1, hu⟩ := hx i t (by rw [List.getElem?_eq_getElem hlt, ht0])
        have hbl : b < wr.heap.size := World.block_lt_of_cell? wr _ x0
        have l0 : (0 : Int) ≤ (i : Int) := by omega
        have l1 : (i : Int) < (s.length : Int) := by omega
        obtain ⟨i1, hi1⟩ : ∃ i1, i + 1 = i1 := ⟨_, rfl⟩
        have wk : IntKind.i64.wrap ((i : Int) + 1) = (i1 : Int) := by rw [show (i : Int) + 1 = (i1 : Int) by omega]; exact IntWalk.i64_in _ (by have := H16.out; omega)
        have HI1 := Lib.hid hi1
        rw [tabsGo, hi1] at hr
        have hra : tabAt s i = ((i == 0 || (match s[i - 1]? with | some q => decide (q.1.toList < t.1.toList) | none => true)) && (decide (t.1.size ≠ 0) && (decide (t.1.size ≤ 30) && rowsOk t.2))) := by
          unfold tabAt; rw [List.getElem?_eq_getElem hlt, ht0]
        rw [hra] at hr
        obtain ⟨n, rs⟩ := t
        obtain ⟨ua, ucap, rfl⟩ := hu.form
        have hbe := (hB.alloc hB.size (.cells #[.string n, .slice ua rs.length ucap] 43))
        have HBE := Lib.hid hbe
        have HU := Lib.hid (fun nq => rightRows_any _ rs ((wr.alloc (.cells #[.string n, .slice ua rs.length ucap] 43)).drewN nq) ((hu.below ((Below.refl _ _).alloc (Nat.le_refl _) _)).below (belN _ _ _)))
        obtain ⟨A, hA⟩ : ∃ A, rowsOk rs = A := ⟨_, rfl⟩
        rw [hA] at HU
        simp only [hA] at hr
        have HEM := emp_iff n
        by_cases h0 : i = 0
        · subst h0
          have hr2 : ((decide (n.size ≠ 0) && (decide (n.size ≤ 30) && A)) && tabsGo s gk i1) = R := by simpa using hr
          have HR2 := Lib.hid hr2
          clear hB hi hr hRR hx ht0 hi1 hra hA hbe hr2 hlt hu
          simp only [Int.natCast_zero, Nat.zero_mul, Nat.add_zero] at x0 x1 l0 l1 wk
          by_cases hz : n.size = 0
          · have hem : n.toList.isEmpty = true := by rw [HEM]; exact decide_eq_true hz
            have HRF : Hid (R = false) := Lib.hid (by have := HR2.out; simpa [*] using this.symm)
            clear HEM hz
            go_wp2
            go_quiet (fail)
            go_wp2
            go_ret
            exact ⟨by rw [HRF.out]; rfl, HBE.out.trans (belN _ _ _)⟩
          · have hem : n.toList.isEmpty = false := by rw [HEM]; exact decide_eq_false hz
            by_cases h30 : n.size ≤ 30
            · have l30 : ¬ ((30 : Int) < (n.size : Int)) := by omega
              cases A with
              | false =>
                have HRF : Hid (R = false) := Lib.hid (by have := HR2.out; simpa [*] using this.symm)
                clear HEM hz h30
                go_wp2
                go_quiet (fail)
                go_wp2_with (go_at_call 35; (refine (HU.out _).mono ?_); rintro e w2 ⟨rfl, hb2⟩; have HB2 := Lib.hid hb2; clear hb2)
                go_ret
                exact ⟨by rw [HRF.out]; rfl, (HBE.out.trans (belN _ _ _)).trans (HB2.out.mono HBE.out.size)⟩
              | true =>
                have HR3 : Hid (tabsGo s gk i1 = R) := Lib.hid (by have := HR2.out; simpa [hz, h30] using this)
                clear HEM hz h30
                go_wp2
                go_quiet (fail)
                go_wp2_with (go_at_call 35; (refine (HU.out _).mono ?_); rintro e w2 ⟨rfl, hb2⟩; have HB2 := Lib.hid hb2; clear hb2)
                go_roundg gk
                case measure => exact Nat.lt_succ_self _
                case rel => exact ⟨i1, by rw [← HI1.out]; rfl, by have := HI1.out; have := HI.out; omega, (HBE.out.trans (belN _ _ _)).trans (HB2.out.mono HBE.out.size), HR3.out⟩
            · have l30 : (30 : Int) < (n.size : Int) := by omega
              have HRF : Hid (R = false) := Lib.hid (by have := HR2.out; simpa [*] using this.symm)
              clear HEM hz h30
              go_wp2
              go_quiet (fail)
              go_wp2
              go_ret
              exact ⟨by rw [HRF.out]; rfl, HBE.out.trans (belN _ _ _)⟩
        · obtain ⟨j, hj⟩ : ∃ j, j + 1 = i := ⟨i - 1, by omega⟩
          have hjl : j < s.length := by omega
          obtain ⟨q, hq⟩ : ∃ q, s[j] = q := ⟨_, rfl⟩
          obtain ⟨y0, _⟩ := hx j q (by rw [List.getElem?_eq_getElem hjl, hq])
          have hq2 : s[i - 1]? = some q := by rw [show i - 1 = j by omega, List.getElem?_eq_getElem hjl, hq]
          obtain ⟨qn, qr⟩ := q
          have e0 : ((i : Int) == 0) = false := by rw [beq_eq_false_iff_ne]; omega
          have e1 : decide ((i : Int) = 0) = false := by rw [decide_eq_false_iff_not]; omega
          have n0 : (i == 0) = false := by rw [beq_eq_false_iff_ne]; exact h0
          have wj : IntKind.i64.wrap ((i : Int) - 1) = (j : Int) := by rw [show (i : Int) - 1 = (j : Int) by omega]; exact IntWalk.i64_in _ (by have := H16.out; omega)
          have j0 : (0 : Int) ≤ (j : Int) := by omega
          have j1 : (j : Int) < (s.length : Int) := by omega
          rw [n0, hq2] at hr
          simp only [Bool.false_or] at hr
          have HR0 := Lib.hid hr
          have hne : ¬ (i : Int) = 0 := by omega
          clear hB hi hr hRR hx ht0 hi1 hra hA hbe hlt hq hq2 hj hjl h0 n0 hu
          by_cases hc : qn.toList < n.toList
          · have hr2 : ((decide (n.size ≠ 0) && (decide (n.size ≤ 30) && A)) && tabsGo s gk i1) = R := by have := HR0.out; rw [decide_eq_true hc, Bool.true_and] at this; exact this
            have HR2 := Lib.hid hr2
            have hless : Op.bytesLess qn.toList n.toList = true := by rw [Go.Proofs.bytesLess_eq]; exact decide_eq_true hc
            clear hr2 hc
            by_cases hz : n.size = 0
            · have hem : n.toList.isEmpty = true := by rw [HEM]; exact decide_eq_true hz
              have HRF : Hid (R = false) := Lib.hid (by have := HR2.out; simpa [*] using this.symm)
              clear HEM hz
              go_wp2
              go_quiet (fail)
              go_wp2
              go_ret
              exact ⟨by rw [HRF.out]; rfl, HBE.out.trans (belN _ _ _)⟩
            · have hem : n.toList.isEmpty = false := by rw [HEM]; exact decide_eq_false hz
              by_cases h30 : n.size ≤ 30
              · have l30 : ¬ ((30 : Int) < (n.size : Int)) := by omega
                cases A with
                | false =>
                  have HRF : Hid (R = false) := Lib.hid (by have := HR2.out; simpa [*] using this.symm)
                  clear HEM hz h30
                  go_wp2
                  go_quiet (fail)
                  go_wp2_with (go_at_call 35; (refine (HU.out _).mono ?_); rintro e w2 ⟨rfl, hb2⟩; have HB2 := Lib.hid hb2; clear hb2)
                  go_ret
                  exact ⟨by rw [HRF.out]; rfl, (HBE.out.trans (belN _ _ _)).trans (HB2.out.mono HBE.out.size)⟩
                | true =>
                  have HR3 : Hid (tabsGo s gk i1 = R) := Lib.hid (by have := HR2.out; simpa [hz, h30] using this)
                  clear HEM hz h30
                  go_wp2
                  go_quiet (fail)
                  go_wp2_with (go_at_call 35; (refine (HU.out _).mono ?_); rintro e w2 ⟨rfl, hb2⟩; have HB2 := Lib.hid hb2; clear hb2)
                  go_roundg gk
                  case measure => exact Nat.lt_succ_self _
                  case rel => exact ⟨i1, rfl, by have := HI1.out; have := HI.out; omega, (HBE.out.trans (belN _ _ _)).trans (HB2.out.mono HBE.out.size), HR3.out⟩
              · have l30 : (30 : Int) < (n.size : Int) := by omega
                have HRF : Hid (R = false) := Lib.hid (by have := HR2.out; simpa [*] using this.symm)
                clear HEM hz h30
                go_wp2
                go_quiet (fail)
                go_wp2
                go_ret
                exact ⟨by rw [HRF.out]; rfl, HBE.out.trans (belN _ _ _)⟩
          · have hRf : R = false := by have := HR0.out; rw [decide_eq_false hc, Bool.false_and, Bool.false_and] at this; exact this.symm
            have HRF := Lib.hid hRf
            have hless : Op.bytesLess qn.toList n.toList = false := by rw [Go.Proofs.bytesLess_eq]; exact decide_eq_false hc
            clear hRf hc
            go_wp2
            go_quiet (fail)
            go_wp2
            go_ret
            exact ⟨by rw [HRF.out]; rfl, HBE.out.trans (belN _ _ _)⟩
  · have l16 : (16 : Int) < (s.length : Int) := by omega
    have hR2 : R = false := by rw [← hR]; unfold rightL; rw [decide_eq_false h16, Bool.false_and]
    subst hR2
    clear h hR h16
    go_enter Tryz.func15, Tryz.ntmps15
    go_wp2
    go_ret
    exact ⟨rfl, Below.refl _ _⟩
end Go.Proofs.YtjloookjlnmgdaaGreatDoor
