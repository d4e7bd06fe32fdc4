/- Tem Ten Dt -/
import Derived.Test.YtjmmninopagpjaaGreatDoorG34
import Derived.Sort.Walk0
import Derived.Test.YtjmmninopagpjaaGreatDoorG3
import Derived.Test.YtjmmninopagpjaaGreatDoorG1
set_option linter.unusedSimpArgs false
set_option linter.unusedVariables false
namespace Go.Proofs.YtjmmninopagpjaaGreatDoor
open Go.ChangeShapes Go.WideShapes Go.ChangeAt Go.RowKit
set_option maxRecDepth 100000
set_option linter.unusedVariables false
set_option linter.unusedSimpArgs false

set_option maxHeartbeats 4000000 in
theorem rightRows_any (v : Value) (l : List Rw) (w : World) (h : RR w v l) :
  Calls Tryz.prog 53 #[v] w fun e w' => e = .returned (.bool (rowsOk l)) ∧ Below w.heap.size w w' := by
 obtain ⟨R,hR⟩ : ∃ R,rowsOk l = R := ⟨_,rfl⟩
 rw [hR]
 obtain ⟨a,cap,rfl⟩ := h.form
 have HH := Lib.hid h
 by_cases h64 : l.length ≤ 64
 ·have hg : rowsGo l l.length 0 = R := by rw [← hR]; unfold rowsOk; rw [decide_eq_true h64,Bool.true_and]
  have l64 : ¬ ((64 : Int) < (l.length : Int)) := by omega
  have HG := Lib.hid hg
  have H64 := Lib.hid h64
  clear h hR hg
  go_enter Tryz.func53,Tryz.ntmps53
  go_wp2
  go_loopg [11] l.length (fun gk u11 wx => ∃ i : Nat,u11 = .int .i64 (i : Int) ∧ i + gk = l.length ∧ Below w.heap.size w wx ∧ rowsGo l gk i = R)
  case atStart => exact ⟨0,rfl,by omega,Below.refl _ _,HG.out⟩
  case round =>
   obtain ⟨i,rfl,hi,hB,hr⟩ := hrel
   have HB := Lib.hid hB
   have HI := Lib.hid hi
   cases gk with
   | zero =>
    have l1 : ¬ ((i : Int) < (l.length : Int)) := by omega
    have hR : R = true := hr.symm
    subst hR
    clear hB hi hr
    go_wp2
    go_ret
    exact ⟨rfl,HB.out⟩
   | succ gk =>
    have hlt : i < l.length := by omega
    have hRR := HH.out.below hB
    obtain ⟨b,o,cp,he,hcp,hx⟩ := hRR.inv (by omega)
    injection he with ea _ ec
    subst ea ec
    obtain ⟨r,hr0⟩ : ∃ r,l[i] = r := ⟨_,rfl⟩
    obtain ⟨x0,x1⟩ := hx i r (by rw [List.getElem?_eq_getElem hlt,hr0])
    have hbl : b < wr.heap.size := World.block_lt_of_cell? wr _ x0
    have l0 : (0 : Int) ≤ (i : Int) := by omega
    have l1 : (i : Int) < (l.length : Int) := by omega
    obtain ⟨i1,hi1⟩ : ∃ i1,i + 1 = i1 := ⟨_,rfl⟩
    have wk : IntKind.i64.wrap ((i : Int) + 1) = (i1 : Int) := by rw [show (i : Int) + 1 = (i1 : Int) by omega]; exact IntWalk.i64_in _ (by have := H64.out; omega)
    have HI1 := Lib.hid hi1
    rw [rowsGo,hi1] at hr
    have hra : rowAt l i = ((i == 0 || (match l[i - 1]? with | some q => decide (q.1 < r.1) | none => true)) && (inN r.1 && inN r.2)) := by
     unfold rowAt; rw [List.getElem?_eq_getElem hlt,hr0]; all_goals rfl
    rw [hra] at hr
    obtain ⟨r0,r1⟩ := r
    have HN0 := Lib.hid (inn_any r0)
    have HN1 := Lib.hid (inn_any r1)
    obtain ⟨a0,ha0⟩ : ∃ a0,inN r0 = a0 := ⟨_,rfl⟩
    obtain ⟨a1,ha1⟩ : ∃ a1,inN r1 = a1 := ⟨_,rfl⟩
    rw [ha0] at HN0
    rw [ha1] at HN1
    simp only [ha0,ha1] at hr
    have hbe := (hB.alloc hB.size (.cells #[.int .i64 r0,.int .i64 r1] 65))
    have HBE := Lib.hid hbe
    by_cases h0 : i = 0
    ·subst h0
     have hr2 : ((a0 && a1) && rowsGo l gk i1) = R := by simpa using hr
     have HR2 := Lib.hid hr2
     clear hB hi hr hRR hx hr0 hi1 hra ha0 ha1 hbe hr2 hlt
     simp only [Int.natCast_zero,Nat.zero_mul,Nat.add_zero] at x0 x1 l0 l1 wk
     cases a0 with
     | false =>
      have hRf : R = false := by have := HR2.out; simpa using this.symm
      have HRF := Lib.hid hRf
      clear hRf
      go_wp2
      go_quiet (fail)
      go_wp2_with (first
       | (go_at_call 73; (with_reducible refine (HN0.out _).mono ?_); rintro e w2 ⟨rfl,hw2⟩; obtain rfl := hw2)
       | (go_at_call 73; (with_reducible refine (HN1.out _).mono ?_); rintro e w3 ⟨rfl,hw3⟩; obtain rfl := hw3))
      go_ret
      exact ⟨by rw [HRF.out]; rfl,HBE.out.trans (belN _ _ _)⟩
     | true =>
      cases a1 with
      | false =>
       have hRf : R = false := by have := HR2.out; simpa using this.symm
       have HRF := Lib.hid hRf
       clear hRf
       go_wp2
       go_quiet (fail)
       go_wp2_with (first
        | (go_at_call 73; (with_reducible refine (HN0.out _).mono ?_); rintro e w2 ⟨rfl,hw2⟩; obtain rfl := hw2)
        | (go_at_call 73; (with_reducible refine (HN1.out _).mono ?_); rintro e w3 ⟨rfl,hw3⟩; obtain rfl := hw3))
       go_ret
       exact ⟨by rw [HRF.out]; rfl,HBE.out.trans (belN _ _ _)⟩
      | true =>
       go_wp2
       go_quiet (fail)
       go_wp2_with (first
        | (go_at_call 73; (with_reducible refine (HN0.out _).mono ?_); rintro e w2 ⟨rfl,hw2⟩; obtain rfl := hw2)
        | (go_at_call 73; (with_reducible refine (HN1.out _).mono ?_); rintro e w3 ⟨rfl,hw3⟩; obtain rfl := hw3))
       go_roundg gk
       case measure => exact Nat.lt_succ_self _
       case rel => exact ⟨i1,by rw [← HI1.out]; rfl,by have := HI1.out; have := HI.out; omega,HBE.out.trans (belN _ _ _),by have := HR2.out; simpa using this⟩
    ·obtain ⟨j,hj⟩ : ∃ j,j + 1 = i := ⟨i - 1,by omega⟩
     have hjl : j < l.length := by omega
     obtain ⟨q,hq⟩ : ∃ q,l[j] = q := ⟨_,rfl⟩
     obtain ⟨y0,y1⟩ := hx j q (by rw [List.getElem?_eq_getElem hjl,hq])
     have hq2 : l[i - 1]? = some q := by rw [show i - 1 = j by omega,List.getElem?_eq_getElem hjl,hq]
     obtain ⟨q0,q1⟩ := q
     have e0 : ((i : Int) == 0) = false := by rw [beq_eq_false_iff_ne]; omega
     have e1 : decide ((i : Int) = 0) = false := by rw [decide_eq_false_iff_not]; omega
     have n0 : (i == 0) = false := by rw [beq_eq_false_iff_ne]; exact h0
     have wj : IntKind.i64.wrap ((i : Int) - 1) = (j : Int) := by rw [show (i : Int) - 1 = (j : Int) by omega]; exact IntWalk.i64_in _ (by have := H64.out; omega)
     have j0 : (0 : Int) ≤ (j : Int) := by omega
     have j1 : (j : Int) < (l.length : Int) := by omega
     rw [n0,hq2] at hr
     simp only [Bool.false_or] at hr
     have HR0 := Lib.hid hr
     have hne : ¬ (i : Int) = 0 := by omega
     clear hB hi hr hRR hx hr0 hi1 hra ha0 ha1 hbe hlt hq hq2 hj hjl h0 n0
     by_cases hc : q0 < r0
     ·have hr2 : ((a0 && a1) && rowsGo l gk i1) = R := by have := HR0.out; rw [decide_eq_true hc,Bool.true_and] at this; exact this
      have HR2 := Lib.hid hr2
      clear hr2
      cases a0 with
      | false =>
       have hRf : R = false := by have := HR2.out; simpa using this.symm
       have HRF := Lib.hid hRf
       clear hRf
       go_wp2
       go_quiet (fail)
       go_wp2_with (first
        | (go_at_call 73; (with_reducible refine (HN0.out _).mono ?_); rintro e w2 ⟨rfl,hw2⟩; obtain rfl := hw2)
        | (go_at_call 73; (with_reducible refine (HN1.out _).mono ?_); rintro e w3 ⟨rfl,hw3⟩; obtain rfl := hw3))
       go_ret
       exact ⟨by rw [HRF.out]; rfl,HBE.out.trans (belN _ _ _)⟩
      | true =>
       cases a1 with
       | false =>
        have hRf : R = false := by have := HR2.out; simpa using this.symm
        have HRF := Lib.hid hRf
        clear hRf
        go_wp2
        go_quiet (fail)
        go_wp2_with (first
         | (go_at_call 73; (with_reducible refine (HN0.out _).mono ?_); rintro e w2 ⟨rfl,hw2⟩; obtain rfl := hw2)
         | (go_at_call 73; (with_reducible refine (HN1.out _).mono ?_); rintro e w3 ⟨rfl,hw3⟩; obtain rfl := hw3))
        go_ret
        exact ⟨by rw [HRF.out]; rfl,HBE.out.trans (belN _ _ _)⟩
       | true =>
        go_wp2
        go_quiet (fail)
        go_wp2_with (first
         | (go_at_call 73; (with_reducible refine (HN0.out _).mono ?_); rintro e w2 ⟨rfl,hw2⟩; obtain rfl := hw2)
         | (go_at_call 73; (with_reducible refine (HN1.out _).mono ?_); rintro e w3 ⟨rfl,hw3⟩; obtain rfl := hw3))
        go_roundg gk
        case measure => exact Nat.lt_succ_self _
        case rel => exact ⟨i1,rfl,by have := HI1.out; have := HI.out; omega,HBE.out.trans (belN _ _ _),by have := HR2.out; simpa using this⟩
     ·have hRf : R = false := by have := HR0.out; rw [decide_eq_false hc,Bool.false_and,Bool.false_and] at this; exact this.symm
      have HRF := Lib.hid hRf
      clear hRf
      go_wp2
      go_quiet (fail)
      go_wp2
      go_ret
      exact ⟨by rw [HRF.out]; rfl,HBE.out.trans (belN _ _ _)⟩
 ·have l64 : (64 : Int) < (l.length : Int) := by omega
  have hR2 : R = false := by rw [← hR]; unfold rowsOk; rw [decide_eq_false h64,Bool.false_and]
  subst hR2
  clear h hR h64
  go_enter Tryz.func53,Tryz.ntmps53
  go_wp2
  go_ret
  exact ⟨rfl,Below.refl _ _⟩

def tabAt (s : List Tb) (i : Nat) : Bool := match s[i]? with
 | none => true
 | some t => (i == 0 || (match s[i - 1]? with | some q => decide (q.1.toList < t.1.toList) | none => true)) && (decide (t.1.size ≠ 0) && (decide (t.1.size ≤ 30) && rowsOk t.2))
def tabsGo (s : List Tb) : Nat → Nat → Bool
 | 0,_ => true
 | n + 1,i => tabAt s i && tabsGo s n (i + 1)
def rightL (s : List Tb) : Bool := decide (s.length ≤ 16) && tabsGo s s.length 0
theorem emp_iff (s : ByteArray) : s.toList.isEmpty = decide (s.size = 0) := by
 rcases tail_empty s with ⟨h,rfl⟩ | ⟨h,h2⟩
 ·rw [h]; rfl
 ·rw [h]; exact (decide_eq_false (by omega)).symm
set_option maxHeartbeats 4000000 in
theorem right_any (v : Value) (s : List Tb) (w : World) (h : SR w v s) :
  Calls Tryz.prog 29 #[v] w fun e w' => e = .returned (.bool (rightL s)) ∧ Below w.heap.size w w' := by
 obtain ⟨R,hR⟩ : ∃ R,rightL s = R := ⟨_,rfl⟩
 rw [hR]
 obtain ⟨a,cap,rfl⟩ := h.form
 have HH := Lib.hid h
 by_cases h16 : s.length ≤ 16
 ·have hg : tabsGo s s.length 0 = R := by rw [← hR]; unfold rightL; rw [decide_eq_true h16,Bool.true_and]
  have l16 : ¬ ((16 : Int) < (s.length : Int)) := by omega
  have HG := Lib.hid hg
  have H16 := Lib.hid h16
  clear h hR hg
  go_enter Tryz.func29,Tryz.ntmps29
  go_wp2
  go_loopg [11] s.length (fun gk u11 wx => ∃ i : Nat,u11 = .int .i64 (i : Int) ∧ i + gk = s.length ∧ Below w.heap.size w wx ∧ tabsGo s gk i = R)
  case atStart => exact ⟨0,rfl,by omega,Below.refl _ _,HG.out⟩
  case round =>
   obtain ⟨i,rfl,hi,hB,hr⟩ := hrel
   have HB := Lib.hid hB
   have HI := Lib.hid hi
   cases gk with
   | zero =>
    have l1 : ¬ ((i : Int) < (s.length : Int)) := by omega
    have hR : R = true := hr.symm
    subst hR
    clear hB hi hr
    go_wp2
    go_ret
    exact ⟨rfl,HB.out⟩
   | succ gk =>
    have hlt : i < s.length := by omega
    have hRR := HH.out.below hB
    obtain ⟨b,o,cp,he,hcp,hx⟩ := hRR.inv (by omega)
    injection he with ea _ ec
    subst ea ec
    obtain ⟨t,ht0⟩ : ∃ t,s[i] = t := ⟨_,rfl⟩
    obtain ⟨x0,u,x1,hu⟩ := hx i t (by rw [List.getElem?_eq_getElem hlt,ht0])
    have hbl : b < wr.heap.size := World.block_lt_of_cell? wr _ x0
    have l0 : (0 : Int) ≤ (i : Int) := by omega
    have l1 : (i : Int) < (s.length : Int) := by omega
    obtain ⟨i1,hi1⟩ : ∃ i1,i + 1 = i1 := ⟨_,rfl⟩
    have wk : IntKind.i64.wrap ((i : Int) + 1) = (i1 : Int) := by rw [show (i : Int) + 1 = (i1 : Int) by omega]; exact IntWalk.i64_in _ (by have := H16.out; omega)
    have HI1 := Lib.hid hi1
    rw [tabsGo,hi1] at hr
    have hra : tabAt s i = ((i == 0 || (match s[i - 1]? with | some q => decide (q.1.toList < t.1.toList) | none => true)) && (decide (t.1.size ≠ 0) && (decide (t.1.size ≤ 30) && rowsOk t.2))) := by
     unfold tabAt; rw [List.getElem?_eq_getElem hlt,ht0]
    rw [hra] at hr
    obtain ⟨n,rs⟩ := t
    obtain ⟨ua,ucap,rfl⟩ := hu.form
    have hbe := (hB.alloc hB.size (.cells #[.string n,.slice ua rs.length ucap] 63))
    have HBE := Lib.hid hbe
    have HU := Lib.hid (fun nq => rightRows_any _ rs ((wr.alloc (.cells #[.string n,.slice ua rs.length ucap] 63)).drewN nq) ((hu.below ((Below.refl _ _).alloc (Nat.le_refl _) _)).below (belN _ _ _)))
    obtain ⟨A,hA⟩ : ∃ A,rowsOk rs = A := ⟨_,rfl⟩
    rw [hA] at HU
    simp only [hA] at hr
    have HEM := emp_iff n
    by_cases h0 : i = 0
    ·subst h0
     have hr2 : ((decide (n.size ≠ 0) && (decide (n.size ≤ 30) && A)) && tabsGo s gk i1) = R := by simpa using hr
     have HR2 := Lib.hid hr2
     clear hB hi hr hRR hx ht0 hi1 hra hA hbe hr2 hlt hu
     simp only [Int.natCast_zero,Nat.zero_mul,Nat.add_zero] at x0 x1 l0 l1 wk
     by_cases hz : n.size = 0
     ·have hem : n.toList.isEmpty = true := by rw [HEM]; exact decide_eq_true hz
      have HRF : Hid (R = false) := Lib.hid (by have := HR2.out; simpa [*] using this.symm)
      clear HEM hz
      go_wp2
      go_quiet (fail)
      go_wp2
      go_ret
      exact ⟨by rw [HRF.out]; rfl,HBE.out.trans (belN _ _ _)⟩
     ·have hem : n.toList.isEmpty = false := by rw [HEM]; exact decide_eq_false hz
      by_cases h30 : n.size ≤ 30
      ·have l30 : ¬ ((30 : Int) < (n.size : Int)) := by omega
       cases A with
       | false =>
        have HRF : Hid (R = false) := Lib.hid (by have := HR2.out; simpa [*] using this.symm)
        clear HEM hz h30
        go_wp2
        go_quiet (fail)
        go_wp2_with (go_at_call 53; (refine (HU.out _).mono ?_); rintro e w2 ⟨rfl,hb2⟩; have HB2 := Lib.hid hb2; clear hb2)
        go_ret
        exact ⟨by rw [HRF.out]; rfl,(HBE.out.trans (belN _ _ _)).trans (HB2.out.mono HBE.out.size)⟩
       | true =>
        have HR3 : Hid (tabsGo s gk i1 = R) := Lib.hid (by have := HR2.out; simpa [hz,h30] using this)
        clear HEM hz h30
        go_wp2
        go_quiet (fail)
        go_wp2_with (go_at_call 53; (refine (HU.out _).mono ?_); rintro e w2 ⟨rfl,hb2⟩; have HB2 := Lib.hid hb2; clear hb2)
        go_roundg gk
        case measure => exact Nat.lt_succ_self _
        case rel => exact ⟨i1,by rw [← HI1.out]; rfl,by have := HI1.out; have := HI.out; omega,(HBE.out.trans (belN _ _ _)).trans (HB2.out.mono HBE.out.size),HR3.out⟩
      ·have l30 : (30 : Int) < (n.size : Int) := by omega
       have HRF : Hid (R = false) := Lib.hid (by have := HR2.out; simpa [*] using this.symm)
       clear HEM hz h30
       go_wp2
       go_quiet (fail)
       go_wp2
       go_ret
       exact ⟨by rw [HRF.out]; rfl,HBE.out.trans (belN _ _ _)⟩
    ·obtain ⟨j,hj⟩ : ∃ j,j + 1 = i := ⟨i - 1,by omega⟩
     have hjl : j < s.length := by omega
     obtain ⟨q,hq⟩ : ∃ q,s[j] = q := ⟨_,rfl⟩
     obtain ⟨y0,_⟩ := hx j q (by rw [List.getElem?_eq_getElem hjl,hq])
     have hq2 : s[i - 1]? = some q := by rw [show i - 1 = j by omega,List.getElem?_eq_getElem hjl,hq]
     obtain ⟨qn,qr⟩ := q
     have e0 : ((i : Int) == 0) = false := by rw [beq_eq_false_iff_ne]; omega
     have e1 : decide ((i : Int) = 0) = false := by rw [decide_eq_false_iff_not]; omega
     have n0 : (i == 0) = false := by rw [beq_eq_false_iff_ne]; exact h0
     have wj : IntKind.i64.wrap ((i : Int) - 1) = (j : Int) := by rw [show (i : Int) - 1 = (j : Int) by omega]; exact IntWalk.i64_in _ (by have := H16.out; omega)
     have j0 : (0 : Int) ≤ (j : Int) := by omega
     have j1 : (j : Int) < (s.length : Int) := by omega
     rw [n0,hq2] at hr
     simp only [Bool.false_or] at hr
     have HR0 := Lib.hid hr
     have hne : ¬ (i : Int) = 0 := by omega
     clear hB hi hr hRR hx ht0 hi1 hra hA hbe hlt hq hq2 hj hjl h0 n0 hu
     by_cases hc : qn.toList < n.toList
     ·have hr2 : ((decide (n.size ≠ 0) && (decide (n.size ≤ 30) && A)) && tabsGo s gk i1) = R := by have := HR0.out; rw [decide_eq_true hc,Bool.true_and] at this; exact this
      have HR2 := Lib.hid hr2
      have hless : Op.bytesLess qn.toList n.toList = true := by rw [Go.Proofs.bytesLess_eq]; exact decide_eq_true hc
      clear hr2 hc
      by_cases hz : n.size = 0
      ·have hem : n.toList.isEmpty = true := by rw [HEM]; exact decide_eq_true hz
       have HRF : Hid (R = false) := Lib.hid (by have := HR2.out; simpa [*] using this.symm)
       clear HEM hz
       go_wp2
       go_quiet (fail)
       go_wp2
       go_ret
       exact ⟨by rw [HRF.out]; rfl,HBE.out.trans (belN _ _ _)⟩
      ·have hem : n.toList.isEmpty = false := by rw [HEM]; exact decide_eq_false hz
       by_cases h30 : n.size ≤ 30
       ·have l30 : ¬ ((30 : Int) < (n.size : Int)) := by omega
        cases A with
        | false =>
         have HRF : Hid (R = false) := Lib.hid (by have := HR2.out; simpa [*] using this.symm)
         clear HEM hz h30
         go_wp2
         go_quiet (fail)
         go_wp2_with (go_at_call 53; (refine (HU.out _).mono ?_); rintro e w2 ⟨rfl,hb2⟩; have HB2 := Lib.hid hb2; clear hb2)
         go_ret
         exact ⟨by rw [HRF.out]; rfl,(HBE.out.trans (belN _ _ _)).trans (HB2.out.mono HBE.out.size)⟩
        | true =>
         have HR3 : Hid (tabsGo s gk i1 = R) := Lib.hid (by have := HR2.out; simpa [hz,h30] using this)
         clear HEM hz h30
         go_wp2
         go_quiet (fail)
         go_wp2_with (go_at_call 53; (refine (HU.out _).mono ?_); rintro e w2 ⟨rfl,hb2⟩; have HB2 := Lib.hid hb2; clear hb2)
         go_roundg gk
         case measure => exact Nat.lt_succ_self _
         case rel => exact ⟨i1,rfl,by have := HI1.out; have := HI.out; omega,(HBE.out.trans (belN _ _ _)).trans (HB2.out.mono HBE.out.size),HR3.out⟩
       ·have l30 : (30 : Int) < (n.size : Int) := by omega
        have HRF : Hid (R = false) := Lib.hid (by have := HR2.out; simpa [*] using this.symm)
        clear HEM hz h30
        go_wp2
        go_quiet (fail)
        go_wp2
        go_ret
        exact ⟨by rw [HRF.out]; rfl,HBE.out.trans (belN _ _ _)⟩
     ·have hRf : R = false := by have := HR0.out; rw [decide_eq_false hc,Bool.false_and,Bool.false_and] at this; exact this.symm
      have HRF := Lib.hid hRf
      have hless : Op.bytesLess qn.toList n.toList = false := by rw [Go.Proofs.bytesLess_eq]; exact decide_eq_false hc
      clear hRf hc
      go_wp2
      go_quiet (fail)
      go_wp2
      go_ret
      exact ⟨by rw [HRF.out]; rfl,HBE.out.trans (belN _ _ _)⟩
 ·have l16 : (16 : Int) < (s.length : Int) := by omega
  have hR2 : R = false := by rw [← hR]; unfold rightL; rw [decide_eq_false h16,Bool.false_and]
  subst hR2
  clear h hR h16
  go_enter Tryz.func29,Tryz.ntmps29
  go_wp2
  go_ret
  exact ⟨rfl,Below.refl _ _⟩

theorem go_iff {q : Nat → Bool} {f : Nat → Nat → Bool} (h0 : ∀ i,f 0 i = true) (h1 : ∀ n i,f (n + 1) i = (q i && f n (i + 1))) : ∀ n i,f n i = true ↔ ∀ j,i ≤ j → j < i + n → q j = true
 | 0,i => by
  constructor
  ·intro _ j h2 h3; omega
  ·intro _; exact h0 i
 | n + 1,i => by
  rw [h1,Bool.and_eq_true,go_iff h0 h1 n (i + 1)]
  constructor
  ·rintro ⟨a,b⟩ j h2 h3
   rcases Nat.lt_or_ge i j with h | h
   ·exact b j (by omega) (by omega)
   ·have : j = i := by omega
    subst this; exact a
  ·intro h
   exact ⟨h i (Nat.le_refl _) (by omega),fun j h2 h3 => h j (by omega) (by omega)⟩
theorem inN_iff (n : Int) : inN n = true ↔ inI n := by unfold inN inI; exact decide_eq_true_iff
theorem rows_iff (l : List Rw) : rowsOk l = true ↔ RowsP l := by
 unfold rowsOk
 rw [Bool.and_eq_true,decide_eq_true_iff,go_iff (f := rowsGo l) (q := rowAt l) (fun _ => rfl) (fun _ _ => rfl)]
 constructor
 ·rintro ⟨h1,h2⟩
  refine ⟨h1,?_,fun r hr => ?_⟩
  ·refine up_step (R := fun a b : Rw => a.1 < b.1) (fun a b c h3 h4 => Int.lt_trans h3 h4) fun i a b ha hb => ?_
   have hl := (List.getElem?_eq_some_iff.1 hb).1
   have := h2 (i + 1) (Nat.zero_le _) (by omega)
   unfold rowAt at this
   rw [hb] at this
   simp only [Nat.add_sub_cancel,ha,Bool.and_eq_true,Bool.or_eq_true,beq_iff_eq,decide_eq_true_eq] at this
   rcases this.1 with h | h
   ·omega
   ·exact h
  ·obtain ⟨i,hi⟩ := List.getElem?_of_mem hr
   have hl := (List.getElem?_eq_some_iff.1 hi).1
   have := h2 i (Nat.zero_le _) (by omega)
   unfold rowAt at this
   rw [hi] at this
   simp only [Bool.and_eq_true] at this
   exact ⟨(inN_iff _).1 this.2.1,(inN_iff _).1 this.2.2⟩
 ·intro h
  refine ⟨h.len,fun j _ hj => ?_⟩
  unfold rowAt
  rw [List.getElem?_eq_getElem (by omega)]
  have hi := h.ins _ (List.getElem_mem (by omega : j < l.length))
  simp only [Bool.and_eq_true,Bool.or_eq_true,beq_iff_eq]
  refine ⟨?_,(inN_iff _).2 hi.1,(inN_iff _).2 hi.2⟩
  by_cases h0 : j = 0
  ·exact .inl h0
  ·right
   rw [List.getElem?_eq_getElem (by omega : j - 1 < l.length)]
   exact decide_eq_true (h.up (j - 1) j _ _ (by omega) (List.getElem?_eq_getElem (by omega)) (List.getElem?_eq_getElem (by omega)))
theorem right_iff (s : List Tb) : rightL s = true ↔ StateP s := by
 unfold rightL
 rw [Bool.and_eq_true,decide_eq_true_iff,go_iff (f := tabsGo s) (q := tabAt s) (fun _ => rfl) (fun _ _ => rfl)]
 constructor
 ·rintro ⟨h1,h2⟩
  refine ⟨h1,?_,fun t ht => ?_⟩
  ·refine up_step (R := fun a b : Tb => a.1.data.toList < b.1.data.toList) (fun a b c h3 h4 => List.lt_trans h3 h4) fun i a b ha hb => ?_
   have hl := (List.getElem?_eq_some_iff.1 hb).1
   have := h2 (i + 1) (Nat.zero_le _) (by omega)
   unfold tabAt at this
   rw [hb] at this
   simp only [Nat.add_sub_cancel,ha,Bool.and_eq_true,Bool.or_eq_true,beq_iff_eq,decide_eq_true_eq,Lib.toList_data] at this
   rcases this.1 with h | h
   ·omega
   ·exact h
  ·obtain ⟨i,hi⟩ := List.getElem?_of_mem ht
   have hl := (List.getElem?_eq_some_iff.1 hi).1
   have := h2 i (Nat.zero_le _) (by omega)
   unfold tabAt at this
   rw [hi] at this
   simp only [Bool.and_eq_true,decide_eq_true_eq] at this
   exact ⟨by have := this.2.1; omega,this.2.2.1,(rows_iff _).1 this.2.2.2⟩
 ·intro h
  refine ⟨h.len,fun j _ hj => ?_⟩
  unfold tabAt
  rw [List.getElem?_eq_getElem (by omega)]
  have hi := h.each _ (List.getElem_mem (by omega : j < s.length))
  simp only [Bool.and_eq_true,Bool.or_eq_true,beq_iff_eq,decide_eq_true_eq]
  refine ⟨?_,by have := hi.1; omega,hi.2.1,(rows_iff _).2 hi.2.2⟩
  by_cases h0 : j = 0
  ·exact .inl h0
  ·right
   rw [List.getElem?_eq_getElem (by omega : j - 1 < s.length)]
   simp only [decide_eq_true_eq,Lib.toList_data]
   exact h.up (j - 1) j _ _ (by omega) (List.getElem?_eq_getElem (by omega)) (List.getElem?_eq_getElem (by omega))
theorem self_emp : selfB ⟨#[]⟩ = false := by kernel_rfl
theorem txt_facts {kd : Int} {n : ByteArray} {K V : Int} {kb : Bool} (h : textC (kd,n,K,V,kb) ≠ []) : (1 ≤ kd ∧ kd ≤ 5) ∧ (0 < n.size ∧ n.size ≤ 30) ∧ inI K ∧ inI V ∧ nameB n = true ∧ ((kd = 2 ∨ kd = 3) → kb = true) := by
 obtain ⟨q,hq,h1,h2,hok,_⟩ := text_some _ h
 obtain ⟨⟨p1,p2,p3⟩,_⟩ := ok_parts _ hok
 simp only at h1 h2 p1 p2 p3
 have hn := p1
 unfold nameB at hn
 simp only [Bool.and_eq_true,decide_eq_true_eq] at hn
 refine ⟨?_,⟨?_,hn.1.1.1⟩,(inN_iff _).1 p2,(inN_iff _).1 p3,p1,?_⟩
 ·simp only [formsP,List.mem_cons,List.not_mem_nil,or_false] at hq
  rcases hq with rfl | rfl | rfl | rfl | rfl | rfl | rfl <;> simp only at h1 <;> omega
 ·rcases Nat.eq_zero_or_pos n.size with h0 | h0
  ·have : n = ⟨#[]⟩ := is_empty n h0
   rw [this,self_emp] at hn
   exact absurd hn.1.1.2 (by decide)
  ·exact h0
 ·simp only [formsP,List.mem_cons,List.not_mem_nil,or_false] at hq
  rcases hq with rfl | rfl | rfl | rfl | rfl | rfl | rfl <;> simp only at h1 h2 <;> (intro h3; first | exact h2 | omega)
end Go.Proofs.YtjmmninopagpjaaGreatDoor
