/- Ten Dp Crd Dq -/
import Derived.Test.YtgdabkpahmlkpaaGreatDoorG13
import Derived.Sort.Walk0
import Derived.Test.YtgdabkpahmlkpaaGreatDoorG7
import Derived.Test.YtgdabkpahmlkpaaGreatDoorG6
import Derived.Test.YtgdabkpahmlkpaaGreatDoorG9
import Derived.Test.YtgdabkpahmlkpaaGreatDoorTie
import Derived.Test.YtgdabkpahmlkpaaGreatDoorCards
import Derived.HandedShaped
import Derived.Handed
import Derived.Lay
import Derived.LaidMore
import Derived.SevenTiedAt
import Derived.Shelf.Vars
import Derived.SizedLaws
import Derived.ChangeOld
import Derived.Carry
import Derived.Test.YtgdabkpahmlkpaaGreatDoorG12
import Derived.Lib.LaidU8
import Derived.Stop.LaidErr
set_option linter.unusedSimpArgs false
set_option linter.unusedVariables false
namespace Go.Proofs.YtgdabkpahmlkpaaGreatDoor
open Go.ChangeShapes Go.WideShapes Go.ChangeAt Go.RowKit
set_option maxRecDepth 100000
set_option linter.unusedVariables false
set_option linter.unusedSimpArgs false

def tabAt (s : List Tb) (i : Nat) : Bool := match s[i]? with
 | none => true
 | some t => (i == 0 || (match s[i - 1]? with | some q => decide (q.1.toList < t.1.toList) | none => true)) && (decide (t.1.size ≠ 0) && (decide (t.1.size ≤ 30) && rowsOk t.2))
def tabsGo (s : List Tb) : Nat → Nat → Bool
 | 0,_ => true
 | n + 1,i => tabAt s i && tabsGo s n (i + 1)
def rightL (s : List Tb) : Bool := decide (s.length ≤ 16) && tabsGo s s.length 0
theorem emp_iff (s : ByteArray) : s.toList.isEmpty = decide (s.size = 0) := by
 rcases tail_empty s with ⟨h,rfl⟩ | ⟨h,h2⟩
 ·rw [h]; rfl
 ·rw [h]; exact (decide_eq_false (by omega)).symm
set_option maxHeartbeats 4000000 in
theorem right_any (v : Value) (s : List Tb) (w : World) (h : SR w v s) :
  Calls Tryz.prog 11 #[v] w fun e w' => e = .returned (.bool (rightL s)) ∧ Below w.heap.size w w' := by
 obtain ⟨R,hR⟩ : ∃ R,rightL s = R := ⟨_,rfl⟩
 rw [hR]
 obtain ⟨a,cap,rfl⟩ := h.form
 have HH := Lib.hid h
 by_cases h16 : s.length ≤ 16
 ·have hg : tabsGo s s.length 0 = R := by rw [← hR]; unfold rightL; rw [decide_eq_true h16,Bool.true_and]
  have l16 : ¬ ((16 : Int) < (s.length : Int)) := by omega
  have HG := Lib.hid hg
  have H16 := Lib.hid h16
  clear h hR hg
  go_enter Tryz.func11,Tryz.ntmps11
  go_wp2
  go_loopg [11] s.length (fun gk u11 wx => ∃ i : Nat,u11 = .int .i64 (i : Int) ∧ i + gk = s.length ∧ Below w.heap.size w wx ∧ tabsGo s gk i = R)
  case atStart => exact ⟨0,rfl,by omega,Below.refl _ _,HG.out⟩
  case round =>
   obtain ⟨i,rfl,hi,hB,hr⟩ := hrel
   have HB := Lib.hid hB
   have HI := Lib.hid hi
   cases gk with
   | zero =>
    have l1 : ¬ ((i : Int) < (s.length : Int)) := by omega
    have hR : R = true := hr.symm
    subst hR
    clear hB hi hr
    go_wp2
    go_ret
    exact ⟨rfl,HB.out⟩
   | succ gk =>
    have hlt : i < s.length := by omega
    have hRR := HH.out.below hB
    obtain ⟨b,o,cp,he,hcp,hx⟩ := hRR.inv (by omega)
    injection he with ea _ ec
    subst ea ec
    obtain ⟨t,ht0⟩ : ∃ t,s[i] = t := ⟨_,rfl⟩
    obtain ⟨x0,u,x1,hu⟩ := hx i t (by rw [List.getElem?_eq_getElem hlt,ht0])
    have hbl : b < wr.heap.size := World.block_lt_of_cell? wr _ x0
    have l0 : (0 : Int) ≤ (i : Int) := by omega
    have l1 : (i : Int) < (s.length : Int) := by omega
    obtain ⟨i1,hi1⟩ : ∃ i1,i + 1 = i1 := ⟨_,rfl⟩
    have wk : IntKind.i64.wrap ((i : Int) + 1) = (i1 : Int) := by rw [show (i : Int) + 1 = (i1 : Int) by omega]; exact IntWalk.i64_in _ (by have := H16.out; omega)
    have HI1 := Lib.hid hi1
    rw [tabsGo,hi1] at hr
    have hra : tabAt s i = ((i == 0 || (match s[i - 1]? with | some q => decide (q.1.toList < t.1.toList) | none => true)) && (decide (t.1.size ≠ 0) && (decide (t.1.size ≤ 30) && rowsOk t.2))) := by
     unfold tabAt; rw [List.getElem?_eq_getElem hlt,ht0]
    rw [hra] at hr
    obtain ⟨n,rs⟩ := t
    obtain ⟨ua,ucap,rfl⟩ := hu.form
    have hbe := (hB.alloc hB.size (.cells #[.string n,.slice ua rs.length ucap] 37))
    have HBE := Lib.hid hbe
    have HU := Lib.hid (fun nq => rightRows_any _ rs ((wr.alloc (.cells #[.string n,.slice ua rs.length ucap] 37)).drewN nq) ((hu.below ((Below.refl _ _).alloc (Nat.le_refl _) _)).below (belN _ _ _)))
    obtain ⟨A,hA⟩ : ∃ A,rowsOk rs = A := ⟨_,rfl⟩
    rw [hA] at HU
    simp only [hA] at hr
    have HEM := emp_iff n
    by_cases h0 : i = 0
    ·subst h0
     have hr2 : ((decide (n.size ≠ 0) && (decide (n.size ≤ 30) && A)) && tabsGo s gk i1) = R := by simpa using hr
     have HR2 := Lib.hid hr2
     clear hB hi hr hRR hx ht0 hi1 hra hA hbe hr2 hlt hu
     simp only [Int.natCast_zero,Nat.zero_mul,Nat.add_zero] at x0 x1 l0 l1 wk
     by_cases hz : n.size = 0
     ·have hem : n.toList.isEmpty = true := by rw [HEM]; exact decide_eq_true hz
      have HRF : Hid (R = false) := Lib.hid (by have := HR2.out; simpa [*] using this.symm)
      clear HEM hz
      go_wp2
      go_quiet (fail)
      go_wp2
      go_ret
      exact ⟨by rw [HRF.out]; rfl,HBE.out.trans (belN _ _ _)⟩
     ·have hem : n.toList.isEmpty = false := by rw [HEM]; exact decide_eq_false hz
      by_cases h30 : n.size ≤ 30
      ·have l30 : ¬ ((30 : Int) < (n.size : Int)) := by omega
       cases A with
       | false =>
        have HRF : Hid (R = false) := Lib.hid (by have := HR2.out; simpa [*] using this.symm)
        clear HEM hz h30
        go_wp2
        go_quiet (fail)
        go_wp2_with (go_at_call 42; (refine (HU.out _).mono ?_); rintro e w2 ⟨rfl,hb2⟩; have HB2 := Lib.hid hb2; clear hb2)
        go_ret
        exact ⟨by rw [HRF.out]; rfl,(HBE.out.trans (belN _ _ _)).trans (HB2.out.mono HBE.out.size)⟩
       | true =>
        have HR3 : Hid (tabsGo s gk i1 = R) := Lib.hid (by have := HR2.out; simpa [hz,h30] using this)
        clear HEM hz h30
        go_wp2
        go_quiet (fail)
        go_wp2_with (go_at_call 42; (refine (HU.out _).mono ?_); rintro e w2 ⟨rfl,hb2⟩; have HB2 := Lib.hid hb2; clear hb2)
        go_roundg gk
        case measure => exact Nat.lt_succ_self _
        case rel => exact ⟨i1,by rw [← HI1.out]; rfl,by have := HI1.out; have := HI.out; omega,(HBE.out.trans (belN _ _ _)).trans (HB2.out.mono HBE.out.size),HR3.out⟩
      ·have l30 : (30 : Int) < (n.size : Int) := by omega
       have HRF : Hid (R = false) := Lib.hid (by have := HR2.out; simpa [*] using this.symm)
       clear HEM hz h30
       go_wp2
       go_quiet (fail)
       go_wp2
       go_ret
       exact ⟨by rw [HRF.out]; rfl,HBE.out.trans (belN _ _ _)⟩
    ·obtain ⟨j,hj⟩ : ∃ j,j + 1 = i := ⟨i - 1,by omega⟩
     have hjl : j < s.length := by omega
     obtain ⟨q,hq⟩ : ∃ q,s[j] = q := ⟨_,rfl⟩
     obtain ⟨y0,_⟩ := hx j q (by rw [List.getElem?_eq_getElem hjl,hq])
     have hq2 : s[i - 1]? = some q := by rw [show i - 1 = j by omega,List.getElem?_eq_getElem hjl,hq]
     obtain ⟨qn,qr⟩ := q
     have e0 : ((i : Int) == 0) = false := by rw [beq_eq_false_iff_ne]; omega
     have e1 : decide ((i : Int) = 0) = false := by rw [decide_eq_false_iff_not]; omega
     have n0 : (i == 0) = false := by rw [beq_eq_false_iff_ne]; exact h0
     have wj : IntKind.i64.wrap ((i : Int) - 1) = (j : Int) := by rw [show (i : Int) - 1 = (j : Int) by omega]; exact IntWalk.i64_in _ (by have := H16.out; omega)
     have j0 : (0 : Int) ≤ (j : Int) := by omega
     have j1 : (j : Int) < (s.length : Int) := by omega
     rw [n0,hq2] at hr
     simp only [Bool.false_or] at hr
     have HR0 := Lib.hid hr
     have hne : ¬ (i : Int) = 0 := by omega
     clear hB hi hr hRR hx ht0 hi1 hra hA hbe hlt hq hq2 hj hjl h0 n0 hu
     by_cases hc : qn.toList < n.toList
     ·have hr2 : ((decide (n.size ≠ 0) && (decide (n.size ≤ 30) && A)) && tabsGo s gk i1) = R := by have := HR0.out; rw [decide_eq_true hc,Bool.true_and] at this; exact this
      have HR2 := Lib.hid hr2
      have hless : Op.bytesLess qn.toList n.toList = true := by rw [Go.Proofs.bytesLess_eq]; exact decide_eq_true hc
      clear hr2 hc
      by_cases hz : n.size = 0
      ·have hem : n.toList.isEmpty = true := by rw [HEM]; exact decide_eq_true hz
       have HRF : Hid (R = false) := Lib.hid (by have := HR2.out; simpa [*] using this.symm)
       clear HEM hz
       go_wp2
       go_quiet (fail)
       go_wp2
       go_ret
       exact ⟨by rw [HRF.out]; rfl,HBE.out.trans (belN _ _ _)⟩
      ·have hem : n.toList.isEmpty = false := by rw [HEM]; exact decide_eq_false hz
       by_cases h30 : n.size ≤ 30
       ·have l30 : ¬ ((30 : Int) < (n.size : Int)) := by omega
        cases A with
        | false =>
         have HRF : Hid (R = false) := Lib.hid (by have := HR2.out; simpa [*] using this.symm)
         clear HEM hz h30
         go_wp2
         go_quiet (fail)
         go_wp2_with (go_at_call 42; (refine (HU.out _).mono ?_); rintro e w2 ⟨rfl,hb2⟩; have HB2 := Lib.hid hb2; clear hb2)
         go_ret
         exact ⟨by rw [HRF.out]; rfl,(HBE.out.trans (belN _ _ _)).trans (HB2.out.mono HBE.out.size)⟩
        | true =>
         have HR3 : Hid (tabsGo s gk i1 = R) := Lib.hid (by have := HR2.out; simpa [hz,h30] using this)
         clear HEM hz h30
         go_wp2
         go_quiet (fail)
         go_wp2_with (go_at_call 42; (refine (HU.out _).mono ?_); rintro e w2 ⟨rfl,hb2⟩; have HB2 := Lib.hid hb2; clear hb2)
         go_roundg gk
         case measure => exact Nat.lt_succ_self _
         case rel => exact ⟨i1,rfl,by have := HI1.out; have := HI.out; omega,(HBE.out.trans (belN _ _ _)).trans (HB2.out.mono HBE.out.size),HR3.out⟩
       ·have l30 : (30 : Int) < (n.size : Int) := by omega
        have HRF : Hid (R = false) := Lib.hid (by have := HR2.out; simpa [*] using this.symm)
        clear HEM hz h30
        go_wp2
        go_quiet (fail)
        go_wp2
        go_ret
        exact ⟨by rw [HRF.out]; rfl,HBE.out.trans (belN _ _ _)⟩
     ·have hRf : R = false := by have := HR0.out; rw [decide_eq_false hc,Bool.false_and,Bool.false_and] at this; exact this.symm
      have HRF := Lib.hid hRf
      have hless : Op.bytesLess qn.toList n.toList = false := by rw [Go.Proofs.bytesLess_eq]; exact decide_eq_false hc
      clear hRf hc
      go_wp2
      go_quiet (fail)
      go_wp2
      go_ret
      exact ⟨by rw [HRF.out]; rfl,HBE.out.trans (belN _ _ _)⟩
 ·have l16 : (16 : Int) < (s.length : Int) := by omega
  have hR2 : R = false := by rw [← hR]; unfold rightL; rw [decide_eq_false h16,Bool.false_and]
  subst hR2
  clear h hR h16
  go_enter Tryz.func11,Tryz.ntmps11
  go_wp2
  go_ret
  exact ⟨rfl,Below.refl _ _⟩

theorem StateP.ok {s : List Tb} (h : StateP s) : DoOk s :=
 ⟨⟨by have := h.len; omega,fun t ht => ⟨by have := (h.each t ht).2.1; omega,by have := (h.each t ht).2.2.len; omega⟩⟩,h.up,fun t ht => ⟨(h.each t ht).2.2.up,fun r hr => ((h.each t ht).2.2.ins r hr).2⟩⟩
theorem StateP.few {s : List Tb} (h : StateP s) : FewR s := ⟨h.ok.few.1,fun t ht => (h.ok.few.2 t ht).2⟩
theorem do_sr (v : Value) (s : List Tb) (kd : Int) (n : ByteArray) (K V : Int) (kb : Bool) (w : World) (h : SR w v s) (hd : DoOk s) (hk : 1 ≤ kd ∧ kd ≤ 5) (hn : n.size ≤ 1000000) :
  Calls Tryz.prog 17 #[v,.agg (cmC kd n K V kb)] w fun e w' => ∃ va vr,e = .returned (.tuple #[va,vr,.int .i64 (doS s kd n K V kb).2.2]) ∧ SR w' va (doS s kd n K V kb).1 ∧ RR w' vr (doS s kd n K V kb).2.1 ∧ Below w.heap.size w w' := by
 refine (stDo_any v s kd n K V kb w h hd hk hn).mono ?_
 rintro e w' ⟨vs,x,vr,k,h1,h2,h3,h4,h5,h6⟩
 exact ⟨vs,vr,by rw [h1,h6],by rw [← h5]; exact h2.sr,h3.rr,h4⟩
abbrev k8t : ByteArray := ⟨#[116]⟩
def k8a : List Tb := [(k8t,[])]
def k8b : List Tb := [(k8t,[(3,5)])]
def k8c : List Tb := [(k8t,[(3,6)])]
theorem kd1 : doS [] 5 k8t 0 0 false = (k8a,[],0) := by kernel_rfl
theorem kd2 : doS k8a 2 k8t 3 5 true = (k8b,[],0) := by kernel_rfl
theorem kd3 : doS k8b 3 k8t 3 0 true = (k8c,[],0) := by kernel_rfl
theorem kd4 : doS k8c 1 k8t 0 0 false = (k8c,[(3,6)],0) := by kernel_rfl
theorem kd5 : doS k8c 1 ⟨#[117]⟩ 0 0 false = (k8c,[],8) := by kernel_rfl
theorem kp0 : StateP [] := ⟨by simp,fun i j a b _ ha => by simp at ha,fun t ht => by simp at ht⟩
theorem k8n : 0 < k8t.size ∧ k8t.size ≤ 30 := by decide
theorem kp1 : StateP k8a := by have := do_right (kd := 5) (kb := false) kp0 k8n (show inI 0 from ⟨by decide,by decide⟩) (show inI 0 from ⟨by decide,by decide⟩); rw [kd1] at this; exact this
theorem kp2 : StateP k8b := by have := do_right (kd := 2) (kb := true) kp1 k8n (show inI 3 from ⟨by decide,by decide⟩) (show inI 5 from ⟨by decide,by decide⟩); rw [kd2] at this; exact this
theorem kp3 : StateP k8c := by have := do_right (kd := 3) (kb := true) kp2 k8n (show inI 3 from ⟨by decide,by decide⟩) (show inI 0 from ⟨by decide,by decide⟩); rw [kd3] at this; exact this
abbrev k8q : ByteArray := ⟨#[73,78,83,69,82,84,32,73,78,84,79,32,116,32,86,65,76,85,69,83,32,40,51,44,32,53,41]⟩
def k8l : List Tok := (scanA k8q).1
abbrev k8x : Cm := (2,k8t,3,5,true)
abbrev k8o : ByteArray := ⟨#[105,110,115,101,114,116,32,105,110,116,111,32,116,32,118,97,108,117,101,115,32,40,32,51,32,44,32,53,32,41]⟩
theorem k8s : (scanA k8q).2 = (0,0) := by kernel_rfl
theorem k8c1 : cmdA k8l = (k8x,true) := by kernel_rfl
theorem k8t1 : bb (textC k8x) = k8o := by kernel_rfl
theorem k8lz : ∀ t ∈ k8l,t.2.1.size ≤ 1048576 := fun t ht => Nat.le_trans (scanA_txt k8q t ht) (by decide)
theorem k8r : rightL k8c = true := by kernel_rfl
theorem k8f : findN k8c k8t 0 = 0 := by kernel_rfl
theorem k8ne : decide (k8a = k8c) = false := by decide
theorem k8e : eqC k8x k8x = true := by kernel_rfl
def KdP (s : List Tb) (r : List Rw) (k : Int) (w : World) (e : Ending) (w' : World) : Prop := ∃ va vr,e = .returned (.tuple #[va,vr,.int .i64 k]) ∧ SR w' va s ∧ RR w' vr r ∧ Below w.heap.size w w'
theorem kc1 (v : Value) (w : World) (h : SR w v []) : Calls Tryz.prog 17 #[v,.agg #[.int .i64 5,.string k8t,.int .i64 0,.int .i64 0,.bool false]] w (KdP k8a [] 0 w) := by
 have := do_sr v [] 5 k8t 0 0 false w h (StateP.ok kp0) (by decide) (by decide)
 rw [kd1] at this
 exact this
theorem kc2 (v : Value) (w : World) (h : SR w v k8a) : Calls Tryz.prog 17 #[v,.agg #[.int .i64 2,.string k8t,.int .i64 3,.int .i64 5,.bool true]] w (KdP k8b [] 0 w) := by
 have := do_sr v k8a 2 k8t 3 5 true w h (StateP.ok kp1) (by decide) (by decide)
 rw [kd2] at this
 exact this
theorem kc3 (v : Value) (w : World) (h : SR w v k8b) : Calls Tryz.prog 17 #[v,.agg #[.int .i64 3,.string k8t,.int .i64 3,.int .i64 0,.bool true]] w (KdP k8c [] 0 w) := by
 have := do_sr v k8b 3 k8t 3 0 true w h (StateP.ok kp2) (by decide) (by decide)
 rw [kd3] at this
 exact this
theorem kc4 (v : Value) (w : World) (h : SR w v k8c) : Calls Tryz.prog 17 #[v,.agg #[.int .i64 1,.string k8t,.int .i64 0,.int .i64 0,.bool false]] w (KdP k8c [(3,6)] 0 w) := by
 have := do_sr v k8c 1 k8t 0 0 false w h (StateP.ok kp3) (by decide) (by decide)
 rw [kd4] at this
 exact this
theorem kc5 (v : Value) (w : World) (h : SR w v k8c) : Calls Tryz.prog 17 #[v,.agg #[.int .i64 1,.string ⟨#[117]⟩,.int .i64 0,.int .i64 0,.bool false]] w (KdP k8c [] 8 w) := by
 have := do_sr v k8c 1 ⟨#[117]⟩ 0 0 false w h (StateP.ok kp3) (by decide) (by decide)
 rw [kd5] at this
 exact this
theorem kscan (w : World) : Calls Tryz.prog 37 #[.string k8q] w fun e w' => ∃ v,e = .returned (.tuple #[v,.int .i64 0,.int .i64 0]) ∧ TR w' v k8l ∧ Below w.heap.size w w' := by
 have : Calls Tryz.prog 37 #[.string k8q] w fun e w' => ∃ v,e = .returned (.tuple #[v,.int .i64 (scanA k8q).2.1,.int .i64 (scanA k8q).2.2]) ∧ TR w' v (scanA k8q).1 ∧ Below w.heap.size w w' := rscan_any k8q w
 rw [k8s] at this
 exact this
theorem kcmd (v : Value) (m : Int) (w : World) (hw : Wq m w) (h : TR w v k8l) : Calls Tryz.prog 38 #[v] w fun e w' => e = .returned (.tuple #[cmV k8x,.bool true]) ∧ Below w.heap.size w w' := by
 have := command_any k8l v m w hw h k8lz
 rw [k8c1] at this
 exact this
theorem ktext (m : Int) (w : World) (hw : Wq m w) : Calls Tryz.prog 39 #[cmV k8x] w fun e w' => e = .returned (.string k8o) ∧ Below w.heap.size w w' := by
 have := text_any k8x m w hw (by decide) (by unfold i64B; decide) (by unfold i64B; decide)
 rw [k8t1] at this
 exact this
theorem krow (w : World) (v : Value) (g : Nat) (h : RR w v [(3,6)]) (hg : Blk w g 39 #[.int .i64 3,.int .i64 6]) : Calls Tryz.prog 20 #[v,.slice (some ⟨g,0,none⟩) 1 1] w fun e w' => e = .returned (.bool true) ∧ Below w.heap.size w w' := by
 have h2 : RR w (.slice (some ⟨g,0,none⟩) 1 1) [(3,6)] := .inr ⟨g,0,1,rfl,Nat.le_refl _,fun i r hi => by
  cases i with
  | zero => simp at hi; subst hi; exact ⟨hg.cell 0,hg.cell 1⟩
  | succ i => simp at hi⟩
 refine (rrows_any v _ [(3,6)] [(3,6)] w h h2 (by decide)).mono ?_
 rintro e w' ⟨he,n,rfl⟩
 exact ⟨by rw [he]; rfl,belN _ _ _⟩
theorem ksame (w : World) (v1 v2 : Value) (h1 : SR w v1 k8c) (h2 : SR w v2 k8c) : Calls Tryz.prog 19 #[v1,v2] w fun e w' => e = .returned (.bool true) ∧ Below w.heap.size w w' := by
 refine (rsame_any v1 v2 k8c k8c w h1 h2 kp3.few).mono ?_
 rintro e w' ⟨he,n,rfl⟩
 exact ⟨by rw [he,decide_eq_true rfl],belN _ _ _⟩
theorem kright (w : World) (v : Value) (h : SR w v k8c) : Calls Tryz.prog 11 #[v] w fun e w' => e = .returned (.bool true) ∧ Below w.heap.size w w' := by
 have := right_any v k8c w h
 rw [k8r] at this
 exact this
theorem kfind (w : World) (v : Value) (h : SR w v k8c) : Calls Tryz.prog 13 #[v,.string k8t] w fun e w' => e = .returned (.int .i64 0) ∧ Below w.heap.size w w' := by
 have := find_any v k8c k8t w h (by decide)
 rw [k8f] at this
 exact this
theorem ksne (w : World) (v1 v2 : Value) (h1 : SR w v1 k8a) (h2 : SR w v2 k8c) : Calls Tryz.prog 40 #[v1,v2] w fun e w' => e = .returned (.bool false) ∧ Below w.heap.size w w' := by
 have := same_any v1 v2 k8a k8c w h1 h2 kp1.few
 rw [k8ne] at this
 exact this
theorem ksm (w : World) (v1 v2 : Value) (h1 : SR w v1 k8c) (h2 : SR w v2 k8c) : Calls Tryz.prog 40 #[v1,v2] w fun e w' => e = .returned (.bool true) ∧ Below w.heap.size w w' := by
 have := same_any v1 v2 k8c k8c w h1 h2 kp3.few
 rw [decide_eq_true rfl] at this
 exact this
theorem kcopy (w : World) (v : Value) (h : SR w v k8c) : Calls Tryz.prog 41 #[v] w fun e w' => ∃ v',e = .returned v' ∧ SR w' v' k8c ∧ Below w.heap.size w w' := by
 refine (copy_any v k8c w h kp3.ok.few).mono ?_
 rintro e w' ⟨g,x,h1,h2,h3,h4,h5,h6⟩
 exact ⟨_,h1,by rw [← h4]; have := h3.sr; rw [h4] at this ⊢; exact this,h6⟩
set_option maxHeartbeats 8000000 in
theorem known8_any (m : Int) (w : World) (hm : Wq m w) :
  Calls Tryz.prog 10 #[] w fun e w' => e = .returned (.bool true) ∧ Below w.heap.size w w' := by
 have HM0 := Lib.hid hm
 have HB0 := Lib.hid (Below.refl w.heap.size w)
 have qe := eq_cm k8x k8x
 rw [k8e] at qe
 have z1 : (k8t : ByteArray).toList = [116] := by rw [Lib.toList_data]
 have z2 : (k8o : ByteArray).toList = [105,110,115,101,114,116,32,105,110,116,111,32,116,32,118,97,108,117,101,115,32,40,32,51,32,44,32,53,32,41] := by rw [Lib.toList_data]
 clear hm
 go_enter Tryz.func10,Tryz.ntmps10
 go_wp2_with fail
 refine (kc1 _ _ (.inl ⟨_,_,rfl,rfl⟩)).mono ?_
 rintro e w1 ⟨va,r1,rfl,sa,_,hb1⟩
 have HB1 := Lib.hid (HB0.out.trans (hb1.mono HB0.out.size))
 have HM1 := Lib.hid (HM0.out.below hb1)
 have HA := Lib.hid sa
 clear hb1 sa
 go_wp2_with fail
 refine (kc2 _ _ HA.out).mono ?_
 rintro e w2 ⟨vb,r2,rfl,sb,_,hb2⟩
 have HB2 := Lib.hid (HB1.out.trans (hb2.mono HB1.out.size))
 have HM2 := Lib.hid (HM1.out.below hb2)
 have HA := Lib.hid (HA.out.below hb2)
 have HBB := Lib.hid sb
 clear hb2 sb
 go_wp2_with fail
 refine (kc3 _ _ HBB.out).mono ?_
 rintro e w3 ⟨vc,r3,rfl,sc,_,hb3⟩
 have HB3 := Lib.hid (HB2.out.trans (hb3.mono HB2.out.size))
 have HM3 := Lib.hid (HM2.out.below hb3)
 have HA := Lib.hid (HA.out.below hb3)
 have HBB := Lib.hid (HBB.out.below hb3)
 have HC := Lib.hid sc
 clear hb3 sc
 go_wp2_with fail
 refine (kc4 _ _ HC.out).mono ?_
 rintro e w4 ⟨v4,vr,rfl,_,rr,hb4⟩
 have HB4 := Lib.hid (HB3.out.trans (hb4.mono HB3.out.size))
 have HM4 := Lib.hid (HM3.out.below hb4)
 have HA := Lib.hid (HA.out.below hb4)
 have HBB := Lib.hid (HBB.out.below hb4)
 have HC := Lib.hid (HC.out.below hb4)
 have HR := Lib.hid rr
 clear hb4 rr
 go_wp2_with fail
 refine (kc5 _ _ HC.out).mono ?_
 rintro e w5 ⟨vd,vn,rfl,sd,rn,hb5⟩
 have HB5 := Lib.hid (HB4.out.trans (hb5.mono HB4.out.size))
 have HM5 := Lib.hid (HM4.out.below hb5)
 have HA := Lib.hid (HA.out.below hb5)
 have HBB := Lib.hid (HBB.out.below hb5)
 have HC := Lib.hid (HC.out.below hb5)
 have HR := Lib.hid (HR.out.below hb5)
 have HD := Lib.hid sd
 obtain ⟨na,nc,rfl⟩ := rn.form
 clear rn
 clear hb5 sd
 go_wp2_with fail
 refine (kscan _).mono ?_
 rintro e w6 ⟨vl,rfl,tl,hb6⟩
 have HB6 := Lib.hid (HB5.out.trans (hb6.mono HB5.out.size))
 have HM6 := Lib.hid (HM5.out.below hb6)
 have HA := Lib.hid (HA.out.below hb6)
 have HBB := Lib.hid (HBB.out.below hb6)
 have HC := Lib.hid (HC.out.below hb6)
 have HR := Lib.hid (HR.out.below hb6)
 have HD := Lib.hid (HD.out.below hb6)
 have HL := Lib.hid tl
 clear hb6 tl
 go_wp2_with fail
 refine (kcmd _ m _ HM6.out HL.out).mono ?_
 rintro e w7 ⟨rfl,hb7⟩
 have HB7 := Lib.hid (HB6.out.trans (hb7.mono HB6.out.size))
 have HM7 := Lib.hid (HM6.out.below hb7)
 have HA := Lib.hid (HA.out.below hb7)
 have HBB := Lib.hid (HBB.out.below hb7)
 have HC := Lib.hid (HC.out.below hb7)
 have HR := Lib.hid (HR.out.below hb7)
 have HD := Lib.hid (HD.out.below hb7)
 have HL := Lib.hid (HL.out.below hb7)
 clear hb7
 go_wp2_with fail
 obtain ⟨W7,hW7⟩ : ∃ W7,(w7.alloc (.cells #[.int .i64 2,.string k8t,.int .i64 3,.int .i64 5,.bool true] 24)).alloc (.cells #[.int .i64 3,.int .i64 6] 39) = W7 := ⟨_,rfl⟩
 have hb8 : Below w7.heap.size w7 W7 := by rw [← hW7]; exact ((Below.refl _ _).alloc (Nat.le_refl _) _).alloc (by simp) _
 have hcb : Blk W7 w7.heap.size 24 #[.int .i64 2,.string k8t,.int .i64 3,.int .i64 5,.bool true] := by rw [← hW7]; exact (Blk.new _ _ _).alloc _
 have hrb : Blk W7 (w7.heap.size + 1) 39 #[.int .i64 3,.int .i64 6] := by rw [← hW7]; exact Blk.newAt _ _ _ _ (by simp)
 obtain ⟨G,hG⟩ : ∃ G,w7.heap.size = G := ⟨_,rfl⟩
 rw [hG] at hcb hrb
 rw [hW7,hG]
 have HB8 := Lib.hid (HB7.out.trans (hb8.mono HB7.out.size))
 have HM8 := Lib.hid (HM7.out.below hb8)
 have HK := Lib.hid hcb
 have HRB := Lib.hid hrb
 have HA := Lib.hid (HA.out.below hb8)
 have HBB := Lib.hid (HBB.out.below hb8)
 have HC := Lib.hid (HC.out.below hb8)
 have HR := Lib.hid (HR.out.below hb8)
 have HD := Lib.hid (HD.out.below hb8)
 have HL := Lib.hid (HL.out.below hb8)
 clear hb8 hcb hrb hW7 hG
 refine (krow _ vr _ HR.out HRB.out).mono ?_
 rintro e w9 ⟨rfl,hb9⟩
 have HB9 := Lib.hid (HB8.out.trans (hb9.mono HB8.out.size))
 have HM9 := Lib.hid (HM8.out.below hb9)
 have HA := Lib.hid (HA.out.below hb9)
 have HBB := Lib.hid (HBB.out.below hb9)
 have HC := Lib.hid (HC.out.below hb9)
 have HR := Lib.hid (HR.out.below hb9)
 have HD := Lib.hid (HD.out.below hb9)
 have HL := Lib.hid (HL.out.below hb9)
 have HK := Lib.hid (HK.out.below hb9 (Blk.lt HK.out))
 clear hb9
 go_wp2_with fail
 refine (ksame _ vc vd HC.out HD.out).mono ?_
 rintro e w10 ⟨rfl,hb10⟩
 have HB10 := Lib.hid (HB9.out.trans (hb10.mono HB9.out.size))
 have HM10 := Lib.hid (HM9.out.below hb10)
 have HA := Lib.hid (HA.out.below hb10)
 have HBB := Lib.hid (HBB.out.below hb10)
 have HC := Lib.hid (HC.out.below hb10)
 have HR := Lib.hid (HR.out.below hb10)
 have HD := Lib.hid (HD.out.below hb10)
 have HL := Lib.hid (HL.out.below hb10)
 have HK := Lib.hid (HK.out.below hb10 (Blk.lt HK.out))
 obtain ⟨c0,c1,c2,c3,c4⟩ := cm_results k8x HK.out
 clear hb10
 go_wp2_with fail
 refine (ktext m _ HM10.out).mono ?_
 rintro e w11 ⟨rfl,hb11⟩
 have HB11 := Lib.hid (HB10.out.trans (hb11.mono HB10.out.size))
 have HM11 := Lib.hid (HM10.out.below hb11)
 have HA := Lib.hid (HA.out.below hb11)
 have HBB := Lib.hid (HBB.out.below hb11)
 have HC := Lib.hid (HC.out.below hb11)
 have HR := Lib.hid (HR.out.below hb11)
 have HD := Lib.hid (HD.out.below hb11)
 have HL := Lib.hid (HL.out.below hb11)
 have HK := Lib.hid (HK.out.below hb11 (Blk.lt HK.out))
 clear c0 c1 c2 c3 c4
 clear hb11
 go_wp2_with fail
 refine (kright _ vc HC.out).mono ?_
 rintro e w12 ⟨rfl,hb12⟩
 have HB12 := Lib.hid (HB11.out.trans (hb12.mono HB11.out.size))
 have HM12 := Lib.hid (HM11.out.below hb12)
 have HA := Lib.hid (HA.out.below hb12)
 have HBB := Lib.hid (HBB.out.below hb12)
 have HC := Lib.hid (HC.out.below hb12)
 have HR := Lib.hid (HR.out.below hb12)
 have HD := Lib.hid (HD.out.below hb12)
 have HL := Lib.hid (HL.out.below hb12)
 have HK := Lib.hid (HK.out.below hb12 (Blk.lt HK.out))
 clear hb12
 go_wp2_with fail
 refine (kfind _ vc HC.out).mono ?_
 rintro e w13 ⟨rfl,hb13⟩
 have HB13 := Lib.hid (HB12.out.trans (hb13.mono HB12.out.size))
 have HM13 := Lib.hid (HM12.out.below hb13)
 have HA := Lib.hid (HA.out.below hb13)
 have HBB := Lib.hid (HBB.out.below hb13)
 have HC := Lib.hid (HC.out.below hb13)
 have HR := Lib.hid (HR.out.below hb13)
 have HD := Lib.hid (HD.out.below hb13)
 have HL := Lib.hid (HL.out.below hb13)
 have HK := Lib.hid (HK.out.below hb13 (Blk.lt HK.out))
 clear hb13
 go_wp2_with fail
 refine (ksne _ va vc HA.out HC.out).mono ?_
 rintro e w14 ⟨rfl,hb14⟩
 have HB14 := Lib.hid (HB13.out.trans (hb14.mono HB13.out.size))
 have HM14 := Lib.hid (HM13.out.below hb14)
 have HA := Lib.hid (HA.out.below hb14)
 have HBB := Lib.hid (HBB.out.below hb14)
 have HC := Lib.hid (HC.out.below hb14)
 have HR := Lib.hid (HR.out.below hb14)
 have HD := Lib.hid (HD.out.below hb14)
 have HL := Lib.hid (HL.out.below hb14)
 have HK := Lib.hid (HK.out.below hb14 (Blk.lt HK.out))
 clear hb14
 go_wp2_with fail
 refine (kcopy _ vc HC.out).mono ?_
 rintro e w15 ⟨vk,rfl,sk,hb15⟩
 have HB15 := Lib.hid (HB14.out.trans (hb15.mono HB14.out.size))
 have HM15 := Lib.hid (HM14.out.below hb15)
 have HA := Lib.hid (HA.out.below hb15)
 have HBB := Lib.hid (HBB.out.below hb15)
 have HC := Lib.hid (HC.out.below hb15)
 have HR := Lib.hid (HR.out.below hb15)
 have HD := Lib.hid (HD.out.below hb15)
 have HL := Lib.hid (HL.out.below hb15)
 have HK := Lib.hid (HK.out.below hb15 (Blk.lt HK.out))
 have HSK := Lib.hid sk
 clear sk
 clear hb15
 go_wp2_with fail
 refine (ksm _ vc vk HC.out HSK.out).mono ?_
 rintro e w16 ⟨rfl,hb16⟩
 have HB16 := Lib.hid (HB15.out.trans (hb16.mono HB15.out.size))
 have HM16 := Lib.hid (HM15.out.below hb16)
 have HA := Lib.hid (HA.out.below hb16)
 have HBB := Lib.hid (HBB.out.below hb16)
 have HC := Lib.hid (HC.out.below hb16)
 have HR := Lib.hid (HR.out.below hb16)
 have HD := Lib.hid (HD.out.below hb16)
 have HL := Lib.hid (HL.out.below hb16)
 have HK := Lib.hid (HK.out.below hb16 (Blk.lt HK.out))
 clear hb16
 go_wp2
 go_ret
 exact ⟨rfl,HB16.out⟩
end Go.Proofs.YtgdabkpahmlkpaaGreatDoor
namespace Go.Proofs.YtgdabkpahmlkpaaGreatDoor
set_option linter.unusedSimpArgs false
open Go.ChangeShapes Go.WideShapes Go.ChangeAt Go.RowKit
set_option maxRecDepth 100000
set_option linter.unusedVariables false

theorem the_word {W : World} (h : W.ShapedOpen Tryz.prog) : ∃ m,Wd m W :=
 cell_of_shapedOpen_int (g := 1) (zero := #[.int .i64 0]) (t := 3) h (of_decide_eq_true (by kernel_rfl)) (by kernel_rfl) rfl (by kernel_rfl) (by kernel_rfl) Tryz.underlying3

theorem returns_laid {H : Type} {enc : TypeId × Value → H} {a : Assume} {C : Checked} {os : Os} {f : FuncId} {fn : Func} {s : ChangeSpec} {conds : List PathCond} {apart fresh handsOn again : Bool} {laid : List (String × DataW Unit)}
  (hpl : (laid.all fun x => x.2.handleName?.isNone) = true)
  (own : ownKnob C.prog.godebug = none) (started : os.Started) (noInit : C.prog.inits.idxOf? f = none) (hfn : C.prog.funcs[f]? = some fn)
  (witness : ∃ (w : World) (tape : Tape) (i : Input),w.os = os ∧ (w.forCall tape i).Shaped C.prog ∧ i.vars = [] ∧ Input.okWide C.prog (w.forCall tape i) .any w.heap.size f i ∧
   ((s.pre enc C.prog fn conds apart (w.forCall tape i).memory i.args ∧ laidMetH C.prog laid (w.forCall tape i).memory) ∧ sizedMet enc C.prog fn (OpenSpec.ofChange s) apart (w.forCall tape i).memory i.args) ∧ a.holds C.prog (lone (Frame.enter C.prog f i.args .normal) [] (w.forCall tape i)))
  (contract : ∀ (W : World) (base : Nat) (args : Array Value) (ds gs : List (DataW H)) (before : List MemPlace),
   (∀ (j : Nat) t v,fn.params[j]? = some t → args[j]? = some v → Value.okWide C.prog W .any base t v) →
   DataW.Whole enc C.prog fn.params.toList s.vars apart W args.toList ds gs before →
   conds.all (PathCond.test C.prog ⟨fn.params.toList,ds,s.plain.varTypes C.prog,gs⟩) = true →
   (DataW.weightsEach C.prog (fn.params.toList ++ s.plain.varTypes C.prog) (ds ++ gs)).all (· ≤ reachBytes) = true →
   W.ShapedOpen C.prog ∧ laidMet C.prog laid W →
   a.holds C.prog (lone (Frame.enter C.prog f args .normal) [] W) →
   Calls C.prog f args W fun e W' => ∃ v,e = .returned v ∧ s.post enc C.prog fn apart fresh handsOn again W args v W') :
  ReturnsInHanded a C os f .any (fun w args => (s.pre enc C.prog fn conds apart w args ∧ laidMetH C.prog laid w) ∧ sizedMet enc C.prog fn (OpenSpec.ofChange s) apart w args) (s.post enc C.prog fn apart fresh handsOn again) := by
 refine returnsInHanded_of_calls own started noInit witness ?_
 intro w tape i _ hsh _ hok hpre hholds
 obtain ⟨_,_,_,fn',hfn',_,_,_,_,hval⟩ := hok
 obtain rfl : fn' = fn := Option.some.inj (hfn'.symm.trans hfn)
 obtain ⟨⟨⟨ds,gs,before,hw,hc⟩,hx⟩,hz⟩ := hpre
 rw [MakeChecks.laidMetH_plain _ _ _ hpl] at hx
 refine (contract (w.forCall tape i) w.heap.size i.args ds gs before hval (DataW.Whole.of_heap (w' := w.forCall tape i) (by rfl) hw) hc (hz.weights hw) ⟨hsh,laidMet.of_heap (w := (w.forCall tape i).memory) (w' := w.forCall tape i) rfl hx⟩ hholds).mono fun e W' ⟨v,he,hp⟩ => ?_
 subst he
 exact ChangeSpec.post_blind hp

theorem form_cells {W : World} {fuel : Nat} {cs : List Value} {p : List MemPlace} {k : Int} {b : Bool} {s : List UInt8} (h : DataW.trod (fun _ => ()) Tryz.prog W 0 (fun _ => true) false fuel 122 cs = some (.agg [.lit (.int .i64 k),.lit (.bool b),.lit (.string s)],p)) :
  cs = [.int .i64 k,.bool b,.string ⟨s.toArray⟩] := by
 have hu := Tryz.underlying122
 have hct : Tryz.prog.cellsOf 122 = 3 := by kernel_rfl
 have c3 : Tryz.prog.cellsOf 3 = 1 := by kernel_rfl
 have c4 : Tryz.prog.cellsOf 4 = 1 := by kernel_rfl
 have c9 : Tryz.prog.cellsOf 9 = 1 := by kernel_rfl
 obtain ⟨xs,n,rfl,hx,hl,hxl,hall⟩ := DataW.trod_struct hu h
 rw [hct] at hl
 have hxs : xs.map (·.1) = [.lit (.int .i64 k),.lit (.bool b),.lit (.string s)] := by
  have := congrArg Prod.fst hx
  simpa using this.symm
 match cs,hl with
 | [a0,a1,a2],_ =>
  match xs,hxl,hxs,hall with
  | [y0,y1,y2],_,hxs,hall =>
   have h0 : DataW.trod (fun _ => ()) Tryz.prog W 0 (fun _ => true) false n 3 ((([a0,a1,a2] : List Value).drop 0).take (Tryz.prog.cellsOf 3)) = ([y0,y1,y2] : List (DataW Unit × List MemPlace))[0]? := hall 0 _ rfl
   have h1 : DataW.trod (fun _ => ()) Tryz.prog W 0 (fun _ => true) false n 4 ((([a0,a1,a2] : List Value).drop 1).take (Tryz.prog.cellsOf 4)) = ([y0,y1,y2] : List (DataW Unit × List MemPlace))[1]? := hall 1 _ rfl
   have h2 : DataW.trod (fun _ => ()) Tryz.prog W 0 (fun _ => true) false n 9 ((([a0,a1,a2] : List Value).drop 2).take (Tryz.prog.cellsOf 9)) = ([y0,y1,y2] : List (DataW Unit × List MemPlace))[2]? := hall 2 _ rfl
   rw [c3] at h0
   rw [c4] at h1
   rw [c9] at h2
   obtain ⟨y00,y01⟩ := y0
   obtain ⟨y10,y11⟩ := y1
   obtain ⟨y20,y21⟩ := y2
   obtain ⟨z,e0,f0,_⟩ := DataW.trod_int (x := (y00,y01)) Tryz.underlying3 h0
   obtain ⟨q,e1,f1⟩ := DataW.trod_bool (x := (y10,y11)) Tryz.underlying4 h1
   obtain ⟨r,e2,f2,_⟩ := DataW.trod_string (x := (y20,y21)) Tryz.underlying9 h2
   injection f0 with f0 _
   injection f1 with f1 _
   injection f2 with f2 _
   subst f0 f1 f2
   simp only [List.map_cons,List.map_nil,List.cons.injEq,and_true,DataW.lit.injEq,Lit.int.injEq,Lit.bool.injEq,Lit.string.injEq,true_and,List.drop_zero,List.drop_succ_cons,List.take_succ_cons,List.take_zero] at hxs e0 e1 e2
   obtain ⟨g0,g1,g2⟩ := hxs
   subst e0 e1 e2 g0 g1 g2
   rfl
theorem forms_laid {W : World} (h : Lib.VarReads Tryz.prog W "pontoon/state.forms" Rows.laid_pontoon_state_forms) : ∃ t fr, W.heap[0]? = some (.cells formCells t fr) := by
 obtain ⟨g,t,cs,fuel,p,hg,hty,hvar,hd⟩ := h
 obtain rfl := Option.some.inj ((show Tryz.prog.globalNamed "pontoon/state.forms" = some 0 by kernel_rfl).symm.trans hg)
 obtain rfl := Option.some.inj ((show (Tryz.prog.globals[0]?).map (·.type) = some 123 by kernel_rfl).symm.trans hty)
 have hc51 : Tryz.prog.cellsOf 122 = 3 := by kernel_rfl
 have hc52 : Tryz.prog.cellsOf 123 = 21 := by kernel_rfl
 have hel := fun i hi => Lib.array_elem Tryz.underlying123 hd i hi
 rw [hc51] at hel
 have hcl : cs.toList.length = 21 := by
  cases fuel with
  | zero => simp [DataW.trod] at hd
  | succ fuel =>
   simp only [DataW.trod,Tryz.underlying123,hc51,hc52] at hd
   split at hd
   ·rename_i hl; simpa using hl
   ·cases hd
 have key : ∀ (i : Nat) (hi : i < 7) (k : Int) (b : Bool) (s : List UInt8),(match Rows.laid_pontoon_state_forms (H := Unit) with | .agg ds => ds[i]? | _ => none) = some (.agg [.lit (.int .i64 k),.lit (.bool b),.lit (.string s)]) → (cs.toList.drop (i * 3)).take 3 = [.int .i64 k,.bool b,.string ⟨s.toArray⟩] := by
  intro i hi k b s hs
  obtain ⟨f',d,q,h1,h2⟩ := hel i hi
  have : some d = some (DataW.agg [.lit (.int .i64 k),.lit (.bool b),.lit (.string s)]) := h1.symm.trans hs
  injection this with this
  subst this
  exact form_cells h2
 have k0 := key 0 (by decide) _ _ _ rfl
 have k1 := key 1 (by decide) _ _ _ rfl
 have k2 := key 2 (by decide) _ _ _ rfl
 have k3 := key 3 (by decide) _ _ _ rfl
 have k4 := key 4 (by decide) _ _ _ rfl
 have k5 := key 5 (by decide) _ _ _ rfl
 have k6 := key 6 (by decide) _ _ _ rfl
 have hcs : cs.toList = formsC.flatMap fmCells := by
  have split7 : cs.toList = (cs.toList.drop (0 * 3)).take 3 ++ ((cs.toList.drop (1 * 3)).take 3 ++ ((cs.toList.drop (2 * 3)).take 3 ++ ((cs.toList.drop (3 * 3)).take 3 ++ ((cs.toList.drop (4 * 3)).take 3 ++ ((cs.toList.drop (5 * 3)).take 3 ++ (cs.toList.drop (6 * 3)).take 3))))) := by
   generalize cs.toList = L at hcl
   match L,hcl with
   | [_,_,_,_,_,_,_,_,_,_,_,_,_,_,_,_,_,_,_,_,_],_ => rfl
  rw [split7,k0,k1,k2,k3,k4,k5,k6]
  rfl
 have hce : cs = formCells := by
  apply Array.toList_inj.1
  rw [hcs]
  rfl
 subst hce
 unfold World.var? at hvar
 rw [hg] at hvar
 simp only [Option.bind_some] at hvar
 split at hvar
 ·rename_i c t fr he
  injection hvar with hvar
  subst hvar
  exact ⟨t,fr,he⟩
 ·cases hvar
theorem star_err : "*" ++ "errors.errorString" = "*errors.errorString" := by decide
theorem row_err (u : TypeId) (h : Tryz.prog.typeName? 3 u = some "*errors.errorString") : u = 311 :=
 typeName_ptr_named (nm := "errors.errorString") (by rw [star_err]; kernel_rfl) (by kernel_rfl) (by decide) u (by rw [star_err]; exact h)
theorem wq_laid {W : World} (hs : W.ShapedOpen Tryz.prog) (hL : laidMet Tryz.prog Rows.stateDoesRow.laid W) : ∃ m,Wq m W := by
 obtain ⟨m,hm⟩ := the_word hs
 refine ⟨m,hm,?_,?_,?_⟩
 ·have h3 : laidMet Tryz.prog (("internal/strconv.uint64pow10", Lib.tabData .u64 Lib.pow10Tab) :: _) W := hL.tail.tail
  exact Lib.tabIs_of_head (show Tryz.prog.globalNamed "internal/strconv.uint64pow10" = some 2 by kernel_rfl) (by kernel_rfl) Tryz.underlying269 Tryz.underlying199 (by kernel_rfl) (by kernel_rfl) h3
 ·exact forms_laid (Lib.laidMet.reads hL (by simp [Rows.stateDoesRow]))
 ·obtain ⟨a, s, hv, _⟩ := laid_sentinel (hL.tail.tail.tail.tail.tail) (show Tryz.prog.globalNamed "strconv.ErrSyntax" = some 3 by kernel_rfl) (by kernel_rfl) Tryz.underlying202 row_err Tryz.underlying311 Tryz.underlying313 rfl rfl Tryz.underlying9 (by kernel_rfl) (by kernel_rfl)
  refine ⟨_, World.var?_cell (show Tryz.prog.globalNamed "strconv.ErrSyntax" = some 3 by kernel_rfl) hv 0, .inr ⟨_, _, rfl⟩⟩
end Go.Proofs.YtgdabkpahmlkpaaGreatDoor
