/- Set Sew -/
import Derived.Test.YtjmmninopagpjaaGreatDoorG38
import Derived.Deep.Upon
import Derived.Test.YtjmmninopagpjaaGreatDoorG1
set_option linter.unusedSimpArgs false
set_option linter.unusedVariables false
namespace Go.Proofs.YtjmmninopagpjaaGreatDoor
open Go.ChangeShapes Go.WideShapes Go.ChangeAt Go.RowKit
set_option maxRecDepth 100000
set_option linter.unusedVariables false
set_option linter.unusedSimpArgs false

theorem bytes_ex (x : Tx) : ∃ s : ByteArray,sV x = .string s ∧ s.toList = x ∧ s.size = x.length := ⟨⟨x.toArray⟩,rfl,bytes_of x,by show x.toArray.size = _; simp⟩

set_option maxHeartbeats 2000000 in
theorem rtexts_any (v1 v2 : Value) (d e : List Tx) (w : World) (h1 : SRT w v1 d) (h2 : SRT w v2 e) (hl : d.length ≤ 2000000000) (hl2 : e.length ≤ 2000000000) :
  Calls Tryz.prog 22 #[v1,v2] w fun r w' => r = .returned (.bool (decide (d = e))) ∧ ∃ n,w' = w.drewN n := by
 obtain ⟨a1,c1,rfl,hx1⟩ := h1.at_
 obtain ⟨a2,c2,rfl,hx2⟩ := h2.at_
 by_cases hlen : d.length = e.length
 ·obtain ⟨R,hR⟩ : ∃ R,decide (d = e) = R := ⟨_,rfl⟩
  rw [hR]
  have HR := Lib.hid hR
  have HX1 := Lib.hid hx1
  have HX2 := Lib.hid hx2
  have HLEN := Lib.hid hlen
  clear hx1 hx2 hR h1 h2
  have ne : ((d.length : Int) != (e.length : Int)) = false := by rw [bne_eq_false_iff_eq,hlen]
  rw [← hlen] at ne ⊢
  clear hlen
  go_enter Tryz.func22,Tryz.ntmps22
  go_wp2
  go_loopg [5] d.length (fun g u5 wx => ∃ k : Nat,u5 = .int .i64 (k : Int) ∧ k + g = d.length ∧ R = decide (d.drop k = e.drop k) ∧ ∃ n,wx = w.drewN n)
  case atStart => exact ⟨0,rfl,by omega,by rw [List.drop_zero,List.drop_zero]; exact HR.out.symm,0,rfl⟩
  case round =>
   obtain ⟨k,rfl,hk,hv,n0,rfl⟩ := hrel
   cases gk with
   | zero =>
    have hkl : k = d.length := by omega
    have hv2 : R = true := by rw [hv,hkl,List.drop_length,show e.drop d.length = [] by rw [HLEN.out,List.drop_length]]; rfl
    have l1 : ¬ ((k : Int) < (d.length : Int)) := by omega
    subst hv2
    clear hv HX1 HX2 HR
    go_wp2
    go_ret
    exact ⟨rfl,_,rfl⟩
   | succ g =>
    have hlt : k < d.length := by omega
    have hlt2 : k < e.length := by have := HLEN.out; omega
    rcases HX1.out with h0 | ⟨b1,o1,rfl,hc1,hx1⟩
    ·omega
    rcases HX2.out with h0 | ⟨b2,o2,rfl,hc2,hx2⟩
    ·omega
    have x1 := hx1 k hlt
    have x2 := hx2 k hlt2
    rw [List.drop_eq_getElem_cons hlt,List.drop_eq_getElem_cons hlt2] at hv
    obtain ⟨x,hxe⟩ : ∃ x,d[k] = x := ⟨_,rfl⟩
    obtain ⟨y,hye⟩ : ∃ y,e[k] = y := ⟨_,rfl⟩
    obtain ⟨s,hs1,hs2,_⟩ := bytes_ex x
    obtain ⟨t,ht1,ht2,_⟩ := bytes_ex y
    rw [hxe,hs1] at x1
    rw [hye,ht1] at x2
    rw [hxe,hye] at hv
    have l0 : (0 : Int) ≤ (k : Int) := by omega
    have l1 : (k : Int) < (d.length : Int) := by omega
    obtain ⟨k1,hk1⟩ : ∃ k1,k + 1 = k1 := ⟨_,rfl⟩
    have wk : IntKind.i64.wrap ((k : Int) + 1) = (k1 : Int) := by rw [show (k : Int) + 1 = (k1 : Int) by omega]; exact wrap_nat (by omega)
    rw [hk1] at hv
    have HK1 := Lib.hid hk1
    clear hx1 hx2 HX1 HX2 HR hk1 hxe hye hs1 ht1 hlt hlt2
    by_cases hxy : x = y
    ·have es : (s.toList == t.toList) = true := by rw [hs2,ht2,beq_iff_eq]; exact hxy
     have es2 : (!(s.toList == t.toList)) = false := by rw [es]; rfl
     have hv2 : R = decide (d.drop k1 = e.drop k1) := by rw [hv,hxy]; simp
     have HV := Lib.hid hv2
     clear hv hv2 hxy hs2 ht2
     go_wp2
     go_quiet (fail)
     go_wp2
     go_roundg g
     case measure => exact Nat.lt_succ_self _
     case rel => exact ⟨k1,rfl,by have := HK1.out; omega,HV.out,_,rfl⟩
    ·have es : (s.toList == t.toList) = false := by rw [hs2,ht2,beq_eq_false_iff_ne]; exact hxy
     have es2 : (!(s.toList == t.toList)) = true := by rw [es]; rfl
     have hv2 : R = false := by rw [hv]; simp [hxy]
     subst hv2
     clear hv hxy hs2 ht2
     go_wp2
     go_quiet (fail)
     go_wp2
     go_ret
     refine ⟨rfl,?_⟩
     first | exact ⟨_,rfl⟩ | (rw [World.drewN_drewN]; exact ⟨_,rfl⟩)
 ·have ne : ((d.length : Int) != (e.length : Int)) = true := by rw [bne_iff_ne]; omega
  rw [show decide (d = e) = false by rw [decide_eq_false_iff_not]; exact fun h => hlen (by rw [h])]
  clear hx1 hx2 h1 h2 hlen
  go_enter Tryz.func22,Tryz.ntmps22
  go_wp2
  go_ret
  exact ⟨rfl,0,rfl⟩
end Go.Proofs.YtjmmninopagpjaaGreatDoor
