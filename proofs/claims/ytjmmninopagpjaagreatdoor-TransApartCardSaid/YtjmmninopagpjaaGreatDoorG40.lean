/- Tep Teq Ter Ds -/
import Derived.Test.YtjmmninopagpjaaGreatDoorG33
import Derived.Test.YtjmmninopagpjaaGreatDoorG24
import Derived.Test.YtjmmninopagpjaaGreatDoorG1
import Derived.Deep.LoopGhost
set_option linter.unusedSimpArgs false
set_option linter.unusedVariables false
namespace Go.Proofs.YtjmmninopagpjaaGreatDoor
open Go.ChangeShapes Go.WideShapes Go.ChangeAt Go.RowKit
set_option maxRecDepth 100000
set_option linter.unusedVariables false
set_option linter.unusedSimpArgs false

theorem RR.drewN {w : World} {v : Value} {l : List Rw} (h : RR w v l) (n : Nat) : RR (w.drewN n) v l := h.keep fun p _ => by cases p; simp [go_sem]
theorem row_neq (a b c d : Int) (w : World) : (binOp .neq 65 (.agg #[.int .i64 a,.int .i64 b]) (.agg #[.int .i64 c,.int .i64 d])).run Tryz.prog w = .ok (.bool (!(a == c && b == d))) w := by
 go_simp
 by_cases h0 : a = c
 ·by_cases h1 : b = d
  ·simp [h0,h1]
  ·simp [h0,h1]
 ·simp [h0]
theorem drop_dec {α : Type} [DecidableEq α] {l m : List α} {k : Nat} (h1 : k < l.length) (h2 : k < m.length) : decide (l.drop k = m.drop k) = (decide (l[k] = m[k]) && decide (l.drop (k + 1) = m.drop (k + 1))) := by
 rw [List.drop_eq_getElem_cons h1,List.drop_eq_getElem_cons h2,Bool.eq_iff_iff,decide_eq_true_iff,Bool.and_eq_true,decide_eq_true_iff,decide_eq_true_iff,List.cons.injEq]
set_option maxHeartbeats 2000000 in
theorem rrows_any (v1 v2 : Value) (l m : List Rw) (w : World) (h1 : RR w v1 l) (h2 : RR w v2 m) (hl : l.length ≤ 1000000) :
  Calls Tryz.prog 17 #[v1,v2] w fun e w' => e = .returned (.bool (decide (l = m))) ∧ ∃ n,w' = w.drewN n := by
 obtain ⟨R,hR⟩ : ∃ R,decide (l = m) = R := ⟨_,rfl⟩
 rw [hR]
 obtain ⟨a1,cap1,rfl⟩ := h1.form
 obtain ⟨a2,cap2,rfl⟩ := h2.form
 have H1 := Lib.hid h1
 have H2 := Lib.hid h2
 have HS := Lib.hid hl
 by_cases hlen : l.length = m.length
 ·have ne : ((l.length : Int) != (m.length : Int)) = false := by rw [bne_eq_false_iff_eq]; omega
  have HR := Lib.hid hR
  have HL := Lib.hid hlen
  clear h1 h2 hl hR hlen
  go_enter Tryz.func17,Tryz.ntmps17
  go_wp2
  go_loopg [5] l.length (fun gk u5 wx => ∃ i : Nat,u5 = .int .i64 (i : Int) ∧ i + gk = l.length ∧ (∃ n,wx = w.drewN n) ∧ decide (l.drop i = m.drop i) = R)
  case atStart => exact ⟨0,rfl,by omega,⟨0,rfl⟩,HR.out⟩
  case round =>
   obtain ⟨i,rfl,hi,⟨n0,rfl⟩,hr⟩ := hrel
   have HI := Lib.hid hi
   cases gk with
   | zero =>
    have l1 : ¬ ((i : Int) < (l.length : Int)) := by omega
    have hR : R = true := by
     rw [← hr,List.drop_of_length_le (by omega : l.length ≤ i),List.drop_of_length_le (by have := HL.out; omega : m.length ≤ i)]; rfl
    subst hR
    clear hi hr
    go_wp2
    go_ret
    exact ⟨rfl,_,rfl⟩
   | succ gk =>
    have hlt : i < l.length := by omega
    have hlt2 : i < m.length := by have := HL.out; omega
    obtain ⟨b1,o1,cp1,he1,hcp1,hx1⟩ := H1.out.inv (by omega)
    obtain ⟨b2,o2,cp2,he2,hcp2,hx2⟩ := H2.out.inv (by omega)
    injection he1 with ea1 _ ec1
    injection he2 with ea2 _ ec2
    subst ea1 ec1 ea2 ec2
    obtain ⟨p,hp⟩ : ∃ p,l[i] = p := ⟨_,rfl⟩
    obtain ⟨q,hq⟩ : ∃ q,m[i] = q := ⟨_,rfl⟩
    obtain ⟨x0,x1⟩ := hx1 i p (by rw [List.getElem?_eq_getElem hlt,hp])
    obtain ⟨y0,y1⟩ := hx2 i q (by rw [List.getElem?_eq_getElem hlt2,hq])
    rw [drop_dec hlt hlt2,hp,hq] at hr
    obtain ⟨p0,p1⟩ := p
    obtain ⟨q0,q1⟩ := q
    have l0 : (0 : Int) ≤ (i : Int) := by omega
    have l1 : (i : Int) < (l.length : Int) := by omega
    have l2 : (i : Int) < (m.length : Int) := by omega
    obtain ⟨i1,hi1⟩ : ∃ i1,i + 1 = i1 := ⟨_,rfl⟩
    have wk : IntKind.i64.wrap ((i : Int) + 1) = (i1 : Int) := by rw [show (i : Int) + 1 = (i1 : Int) by omega]; exact IntWalk.i64_in _ (by have := HS.out; omega)
    have HI1 := Lib.hid hi1
    rw [hi1] at hr
    have qe := row_neq p0 p1 q0 q1
    by_cases hpq : p0 = q0 ∧ p1 = q1
    ·obtain ⟨rfl,rfl⟩ := hpq
     have hz : (!(p0 == p0 && p1 == p1)) = false := by simp
     rw [hz] at qe
     have hr2 : decide (l.drop i1 = m.drop i1) = R := by simpa using hr
     have HR2 := Lib.hid hr2
     clear hi hr hx1 hx2 hp hq hi1 hlt hlt2 hz hr2
     go_wp2
     go_quiet (fail)
     go_wp2
     go_roundg gk
     case measure => exact Nat.lt_succ_self _
     case rel => exact ⟨i1,rfl,by have := HI1.out; have := HI.out; omega,⟨_,rfl⟩,HR2.out⟩
    ·have hz : (!(p0 == q0 && p1 == q1)) = true := by
      rw [Bool.not_eq_true']
      cases h : (p0 == q0 && p1 == q1) with
      | false => rfl
      | true => rw [Bool.and_eq_true,beq_iff_eq,beq_iff_eq] at h; exact absurd h hpq
     rw [hz] at qe
     have hR2 : R = false := by
      rw [← hr,decide_eq_false (fun h => hpq (by injection h with h1 h2; exact ⟨h1,h2⟩)),Bool.false_and]
     subst hR2
     clear hi hr hx1 hx2 hp hq hi1 hlt hlt2 hz hpq
     go_wp2
     go_quiet (fail)
     go_wp2
     go_ret
     exact ⟨rfl,_,World.drewN_drewN _ _ _⟩
 ·have ne : ((l.length : Int) != (m.length : Int)) = true := by rw [bne_iff_ne]; omega
  have hR2 : R = false := by rw [← hR]; exact decide_eq_false (fun h => hlen (by rw [h]))
  subst hR2
  clear h1 h2 hl hR hlen
  go_enter Tryz.func17,Tryz.ntmps17
  go_wp2
  go_ret
  exact ⟨rfl,0,rfl⟩

def FewR (s : List Tb) : Prop := s.length ≤ 1000000 ∧ ∀ t ∈ s,t.2.length ≤ 1000000
theorem tl_eq (a b : ByteArray) : (a.toList == b.toList) = decide (a = b) := by
 rw [Bool.eq_iff_iff,beq_iff_eq,decide_eq_true_iff,Lib.toList_data,Lib.toList_data]
 exact ⟨fun h => by apply ByteArray.ext; exact Array.ext' h,fun h => by rw [h]⟩

theorem quiet_plus {P : Program} {f : FuncId} {args : Array Value} {w : World} {n x : Nat} {v : Value}
  (h : Calls P f args (w.drewN (n + x)) fun e w' => e = .returned v ∧ ∃ m,w' = (w.drewN (n + x)).drewN m) : Calls P f args (w.drewN (n + x)) fun e w'' => e = .returned v ∧ ∃ m,w'' = w.drewN (n + m) :=
 h.mono fun _ _ ⟨he,m,hm⟩ => ⟨he,x + m,by rw [hm,World.drewN_drewN,Nat.add_assoc]⟩
set_option maxHeartbeats 4000000 in
theorem rsame_any (v1 v2 : Value) (s t : List Tb) (w : World) (h1 : SR w v1 s) (h2 : SR w v2 t) (hs : FewR s) :
  Calls Tryz.prog 18 #[v1,v2] w fun e w' => e = .returned (.bool (decide (s = t))) ∧ ∃ n,w' = w.drewN n := by
 obtain ⟨R,hR⟩ : ∃ R,decide (s = t) = R := ⟨_,rfl⟩
 rw [hR]
 obtain ⟨a1,cap1,rfl⟩ := h1.form
 obtain ⟨a2,cap2,rfl⟩ := h2.form
 have H1 := Lib.hid h1
 have H2 := Lib.hid h2
 have HS := Lib.hid hs
 by_cases hlen : s.length = t.length
 ·have ne : ((s.length : Int) != (t.length : Int)) = false := by rw [bne_eq_false_iff_eq]; omega
  have HR := Lib.hid hR
  have HL := Lib.hid hlen
  clear h1 h2 hs hR hlen
  go_enter Tryz.func18,Tryz.ntmps18
  go_wp2
  go_loopg [5] s.length (fun gk u5 wx => ∃ i : Nat,u5 = .int .i64 (i : Int) ∧ i + gk = s.length ∧ (∃ n,wx = w.drewN n) ∧ decide (s.drop i = t.drop i) = R)
  case atStart => exact ⟨0,rfl,by omega,⟨0,rfl⟩,HR.out⟩
  case round =>
   obtain ⟨i,rfl,hi,⟨n0,rfl⟩,hr⟩ := hrel
   have HI := Lib.hid hi
   cases gk with
   | zero =>
    have l1 : ¬ ((i : Int) < (s.length : Int)) := by omega
    have hR : R = true := by
     rw [← hr,List.drop_of_length_le (by omega : s.length ≤ i),List.drop_of_length_le (by have := HL.out; omega : t.length ≤ i)]; rfl
    subst hR
    clear hi hr
    go_wp2
    go_ret
    exact ⟨rfl,_,rfl⟩
   | succ gk =>
    have hlt : i < s.length := by omega
    have hlt2 : i < t.length := by have := HL.out; omega
    obtain ⟨b1,o1,cp1,he1,hcp1,hx1⟩ := H1.out.inv (by omega)
    obtain ⟨b2,o2,cp2,he2,hcp2,hx2⟩ := H2.out.inv (by omega)
    injection he1 with ea1 _ ec1
    injection he2 with ea2 _ ec2
    subst ea1 ec1 ea2 ec2
    obtain ⟨p,hp⟩ : ∃ p,s[i] = p := ⟨_,rfl⟩
    obtain ⟨q,hq⟩ : ∃ q,t[i] = q := ⟨_,rfl⟩
    obtain ⟨x0,u,x1,hu⟩ := hx1 i p (by rw [List.getElem?_eq_getElem hlt,hp])
    obtain ⟨y0,u2,y1,hu2⟩ := hx2 i q (by rw [List.getElem?_eq_getElem hlt2,hq])
    have hpl : p.2.length ≤ 1000000 := by rw [← hp]; exact HS.out.2 _ (List.getElem_mem hlt)
    rw [drop_dec hlt hlt2,hp,hq] at hr
    obtain ⟨p0,p1⟩ := p
    obtain ⟨q0,q1⟩ := q
    obtain ⟨ua,ucap,rfl⟩ := hu.form
    obtain ⟨ua2,ucap2,rfl⟩ := hu2.form
    have HC := Lib.hid (fun n => rrows_any _ _ p1 q1 (w.drewN n) (hu.drewN n) (hu2.drewN n) hpl)
    have ht := tl_eq p0 q0
    have l0 : (0 : Int) ≤ (i : Int) := by omega
    have l1 : (i : Int) < (s.length : Int) := by omega
    have l2 : (i : Int) < (t.length : Int) := by omega
    obtain ⟨i1,hi1⟩ : ∃ i1,i + 1 = i1 := ⟨_,rfl⟩
    have wk : IntKind.i64.wrap ((i : Int) + 1) = (i1 : Int) := by rw [show (i : Int) + 1 = (i1 : Int) by omega]; exact IntWalk.i64_in _ (by have := HS.out.1; omega)
    have HI1 := Lib.hid hi1
    rw [hi1] at hr
    have hpq : decide (((p0,p1) : Tb) = (q0,q1)) = (decide (p0 = q0) && decide (p1 = q1)) := by
     rw [Bool.eq_iff_iff,decide_eq_true_iff,Bool.and_eq_true,decide_eq_true_iff,decide_eq_true_iff,Prod.mk.injEq]
    rw [hpq] at hr
    obtain ⟨Q,hQ⟩ : ∃ Q,decide (p1 = q1) = Q := ⟨_,rfl⟩
    rw [hQ] at HC hr
    by_cases hn : p0 = q0
    ·have e1 : (p0.toList == q0.toList) = true := by rw [ht]; exact decide_eq_true hn
     have e2 : (!(p0.toList == q0.toList)) = false := by rw [e1]; rfl
     rw [decide_eq_true hn,Bool.true_and] at hr
     have HR2 := Lib.hid hr
     clear hi hr hx1 hx2 hp hq hi1 hlt hlt2 hu hu2 hpl hpq hQ ht hn
     cases Q with
     | true =>
      go_wp2
      go_quiet (first | (go_at_call 17; exact Calls.quiet_of (HC.out _)) | (go_at_call 17; exact quiet_plus (HC.out _)))
      go_wp2
      go_roundg gk
      case measure => exact Nat.lt_succ_self _
      case rel => exact ⟨i1,rfl,by have := HI1.out; have := HI.out; omega,⟨_,rfl⟩,by have := HR2.out; rw [Bool.true_and] at this; exact this⟩
     | false =>
      have hRf : R = false := by have := HR2.out; rw [Bool.false_and] at this; exact this.symm
      subst hRf
      go_wp2
      go_quiet (first | (go_at_call 17; exact Calls.quiet_of (HC.out _)) | (go_at_call 17; exact quiet_plus (HC.out _)))
      go_wp2
      go_ret
      exact ⟨rfl,_,World.drewN_drewN _ _ _⟩
    ·have e1 : (p0.toList == q0.toList) = false := by rw [ht]; exact decide_eq_false hn
     have e2 : (!(p0.toList == q0.toList)) = true := by rw [e1]; rfl
     have hRf : R = false := by rw [← hr,decide_eq_false hn,Bool.false_and,Bool.false_and]
     subst hRf
     clear hi hr hx1 hx2 hp hq hi1 hlt hlt2 hu hu2 hpl hpq hQ ht hn
     go_wp2
     go_quiet (fail)
     go_wp2
     go_ret
     exact ⟨rfl,_,World.drewN_drewN _ _ _⟩
 ·have ne : ((s.length : Int) != (t.length : Int)) = true := by rw [bne_iff_ne]; omega
  have hR2 : R = false := by rw [← hR]; exact decide_eq_false (fun h => hlen (by rw [h]))
  subst hR2
  clear h1 h2 hs hR hlen
  go_enter Tryz.func18,Tryz.ntmps18
  go_wp2
  go_ret
  exact ⟨rfl,0,rfl⟩

def lightT (t : Tb) : Bool := decide (t.1.size ≤ 60) && decide (t.2.length ≤ 70)
def lightS (s : List Tb) : Bool := decide (s.length ≤ 20) && s.all lightT
set_option maxHeartbeats 2000000 in
theorem light8_any (v : Value) (s : List Tb) (w : World) (h : SR w v s) :
  Calls Tryz.prog 8 #[v] w fun e w' => e = .returned (.bool (lightS s)) ∧ ∃ n,w' = w.drewN n := by
 obtain ⟨R,hR⟩ : ∃ R,lightS s = R := ⟨_,rfl⟩
 rw [hR]
 obtain ⟨a,cap,rfl⟩ := h.form
 have HH := Lib.hid h
 by_cases h20 : s.length ≤ 20
 ·have hg : (s.drop 0).all lightT = R := by rw [← hR,List.drop_zero]; unfold lightS; rw [decide_eq_true h20,Bool.true_and]
  have l20 : ¬ ((20 : Int) < (s.length : Int)) := by omega
  have HG := Lib.hid hg
  have H20 := Lib.hid h20
  clear h hR hg
  go_enter Tryz.func8,Tryz.ntmps8
  go_wp2
  go_loopg [3] s.length (fun gk u3 wx => ∃ i : Nat,u3 = .int .i64 (i : Int) ∧ i + gk = s.length ∧ (∃ n,wx = w.drewN n) ∧ (s.drop i).all lightT = R)
  case atStart => exact ⟨0,rfl,by omega,⟨0,rfl⟩,HG.out⟩
  case round =>
   obtain ⟨i,rfl,hi,⟨n0,rfl⟩,hr⟩ := hrel
   have HI := Lib.hid hi
   cases gk with
   | zero =>
    have l1 : ¬ ((i : Int) < (s.length : Int)) := by omega
    have hR : R = true := by rw [← hr,List.drop_of_length_le (by omega)]; rfl
    subst hR
    clear hi hr
    go_wp2
    go_ret
    exact ⟨rfl,_,rfl⟩
   | succ gk =>
    have hlt : i < s.length := by omega
    obtain ⟨b,o,cp,he,hcp,hx⟩ := HH.out.inv (by omega)
    injection he with ea _ ec
    subst ea ec
    obtain ⟨t,ht0⟩ : ∃ t,s[i] = t := ⟨_,rfl⟩
    obtain ⟨x0,u,x1,hu⟩ := hx i t (by rw [List.getElem?_eq_getElem hlt,ht0])
    obtain ⟨ua,uc,rfl⟩ := hu.form
    have l0 : (0 : Int) ≤ (i : Int) := by omega
    have l1 : (i : Int) < (s.length : Int) := by omega
    obtain ⟨i1,hi1⟩ : ∃ i1,i + 1 = i1 := ⟨_,rfl⟩
    have wk : IntKind.i64.wrap ((i : Int) + 1) = (i1 : Int) := by rw [show (i : Int) + 1 = (i1 : Int) by omega]; exact IntWalk.i64_in _ (by have := H20.out; omega)
    have HI1 := Lib.hid hi1
    rw [List.drop_eq_getElem_cons hlt,ht0,List.all_cons,hi1] at hr
    obtain ⟨n,rs⟩ := t
    unfold lightT at hr
    simp only at hr x0 hu
    by_cases hn : n.size ≤ 60
    ·have ln : ¬ ((60 : Int) < (n.size : Int)) := by omega
     rw [decide_eq_true hn,Bool.true_and] at hr
     by_cases hl : rs.length ≤ 70
     ·have ll : ¬ ((70 : Int) < (rs.length : Int)) := by omega
      rw [decide_eq_true hl,Bool.true_and] at hr
      have HR2 := Lib.hid hr
      clear hi hr hx ht0 hi1 hlt hu hn hl
      go_wp2
      go_roundg gk
      case measure => exact Nat.lt_succ_self _
      case rel => exact ⟨i1,rfl,by have := HI1.out; have := HI.out; omega,⟨_,rfl⟩,HR2.out⟩
     ·have ll : (70 : Int) < (rs.length : Int) := by omega
      rw [decide_eq_false hl,Bool.false_and] at hr
      have HR2 := Lib.hid hr.symm
      have hR2 : R = false := hr.symm
      subst hR2
      clear hi hr hx ht0 hi1 hlt hu hn hl
      go_wp2
      go_ret
      exact ⟨rfl,_,rfl⟩
    ·have ln : (60 : Int) < (n.size : Int) := by omega
     rw [decide_eq_false hn,Bool.false_and,Bool.false_and] at hr
     have hR2 : R = false := hr.symm
     subst hR2
     clear hi hr hx ht0 hi1 hlt hu hn
     go_wp2
     go_ret
     exact ⟨rfl,_,rfl⟩
 ·have l20 : (20 : Int) < (s.length : Int) := by omega
  have hR2 : R = false := by rw [← hR]; unfold lightS; rw [decide_eq_false h20,Bool.false_and]
  subst hR2
  clear h hR h20
  go_enter Tryz.func8,Tryz.ntmps8
  go_wp2
  go_ret
  exact ⟨rfl,0,rfl⟩
end Go.Proofs.YtjmmninopagpjaaGreatDoor
