/- Ser Ses -/
import Derived.Test.YtjmmninopagpjaaGreatDoorG37
import Derived.Test.YtjmmninopagpjaaGreatDoorG18
import Derived.Test.YtjmmninopagpjaaGreatDoorG1
set_option linter.unusedSimpArgs false
set_option linter.unusedVariables false
namespace Go.Proofs.YtjmmninopagpjaaGreatDoor
open Go.ChangeShapes Go.WideShapes Go.ChangeAt Go.RowKit
set_option maxRecDepth 100000
set_option linter.unusedVariables false
set_option linter.unusedSimpArgs false


theorem lt_both {x y : UInt8} {r t : Tx} : decide (x :: r < y :: t) = (if x = y then decide (r < t) else decide (x < y)) := by
 by_cases h : x = y
 ·subst h
  rw [if_pos rfl]
  rw [Bool.eq_iff_iff,decide_eq_true_eq,decide_eq_true_eq,List.cons_lt_cons_iff]
  exact ⟨fun h => h.elim (fun h => absurd h (UInt8.lt_irrefl _)) And.right,fun h => .inr ⟨rfl,h⟩⟩
 ·rw [if_neg h,Bool.eq_iff_iff,decide_eq_true_eq,decide_eq_true_eq,List.cons_lt_cons_iff]
  exact ⟨fun h2 => h2.elim id fun h3 => absurd h3.1 h,.inl⟩
theorem byte_dr (s : ByteArray) (i : Nat) (h : i < s.size) : s.toList.drop i = s[i] :: s.toList.drop (i + 1) := by
 rw [Lib.toList_data]
 have h2 : i < s.data.toList.length := by simpa using h
 rw [List.drop_eq_getElem_cons h2]
 congr 1
theorem drop_out (l : Tx) (k : Nat) (h : l.length ≤ k) : l.drop k = [] := by simp; omega
theorem len_dr (s : ByteArray) : s.toList.length = s.size := by rw [Lib.toList_data]; rfl
set_option maxHeartbeats 2000000 in
theorem rless_any (s t : ByteArray) (w : World) (hs : s.size ≤ 4000000000) (ht : t.size ≤ 4000000000) :
  Calls Tryz.prog 51 #[.string s,.string t] w fun e w' => e = .returned (.bool (decide (s.toList < t.toList))) ∧ ∃ n,w' = w.drewN n := by
 obtain ⟨R,hR⟩ : ∃ R,decide (s.toList < t.toList) = R := ⟨_,rfl⟩
 rw [hR]
 have HR := Lib.hid hR
 clear hR
 go_enter Tryz.func51,Tryz.ntmps51
 go_wp2
 go_loopg [5] s.size (fun g u5 wx => ∃ k : Nat,u5 = .int .i64 (k : Int) ∧ k + g = s.size ∧ k ≤ t.size ∧ R = decide (s.toList.drop k < t.toList.drop k) ∧ ∃ n,wx = w.drewN n)
 case atStart => exact ⟨0,rfl,by omega,Nat.zero_le _,HR.out.symm,0,rfl⟩
 case round =>
  obtain ⟨k,rfl,hk,hkt,hv,n0,rfl⟩ := hrel
  have HV := Lib.hid hv
  clear hv HR
  have ls := len_dr s
  have lt := len_dr t
  have HLS := Lib.hid ls
  have HLT := Lib.hid lt
  clear ls lt
  by_cases h1 : k < s.size
  ·have i1 : (k : Int) < (s.size : Int) := by omega
   by_cases h2 : k < t.size
   ·have i2 : (k : Int) < (t.size : Int) := by omega
    have l0 : (0 : Int) ≤ (k : Int) := by omega
    obtain ⟨g,rfl⟩ : ∃ g,gk = g + 1 := ⟨gk - 1,by omega⟩
    have hv2 := HV.out
    rw [byte_dr s k h1,byte_dr t k h2,lt_both] at hv2
    obtain ⟨z,hz⟩ : ∃ z : Int,((s[k]'h1).toNat : Int) = z := ⟨_,rfl⟩
    obtain ⟨y,hy⟩ : ∃ y : Int,((t[k]'h2).toNat : Int) = y := ⟨_,rfl⟩
    have heq : s[k] = t[k] ↔ z = y := by
     rw [← hz,← hy]
     exact ⟨fun h => by rw [h],fun h => UInt8.toNat_inj.1 (by omega)⟩
    have hlt : decide (s[k] < t[k]) = decide (z < y) := by
     rw [← hz,← hy,Bool.eq_iff_iff,decide_eq_true_eq,decide_eq_true_eq,UInt8.lt_iff_toNat_lt]; omega
    obtain ⟨k1,hk1⟩ : ∃ k1,k + 1 = k1 := ⟨_,rfl⟩
    have wk : IntKind.i64.wrap ((k : Int) + 1) = (k1 : Int) := by rw [show (k : Int) + 1 = (k1 : Int) by omega]; exact wrap_nat (by omega)
    rw [hk1] at hv2
    by_cases hzy : z = y
    ·rw [if_pos (heq.2 hzy)] at hv2
     have ne : (z != y) = false := by rw [bne_eq_false_iff_eq]; exact hzy
     have HV2 := Lib.hid hv2
     have HK1 := Lib.hid hk1
     have HH := Lib.hid h1
     have HH2 := Lib.hid h2
     subst hzy
     clear hv2 HV heq hlt hk1
     go_wp2
     go_quiet (fail)
     go_wp2
     go_roundg g
     case measure => exact Nat.lt_succ_self _
     case rel => exact ⟨k1,rfl,by have := HK1.out; omega,by have := HK1.out; have := HH2.out; omega,HV2.out,_,rfl⟩
    ·rw [if_neg (fun h => hzy (heq.1 h)),hlt] at hv2
     have ne : (z != y) = true := by rw [bne_iff_ne]; exact hzy
     subst hv2
     clear HV heq hlt hzy hk1
     go_wp2
     go_quiet (fail)
     go_wp2
     go_quiet (fail)
     go_wp2
     go_ret
     refine ⟨rfl,?_⟩
     rw [World.drewN_drewN,World.drewN_drewN]
     exact ⟨_,rfl⟩
   ·have i2 : ¬ ((k : Int) < (t.size : Int)) := by omega
    have hv2 : R = false := by
     rw [HV.out,decide_eq_false_iff_not,drop_out t.toList k (by rw [HLT.out]; omega)]
     exact List.not_lt_nil _
    have hsz : decide ((s.size : Int) < (t.size : Int)) = false := by rw [decide_eq_false_iff_not]; omega
    have hszn : decide (s.size < t.size) = false := by rw [decide_eq_false_iff_not]; omega
    subst hv2
    clear HV
    go_wp2
    go_ret
    exact ⟨by simp [hszn],_,rfl⟩
  ·have i1 : ¬ ((k : Int) < (s.size : Int)) := by omega
   have hks : k = s.size := by omega
   obtain ⟨c,hc⟩ : ∃ c,decide (s.size < t.size) = c := ⟨_,rfl⟩
   have hv2 : R = c := by
    rw [HV.out,← hc,drop_out s.toList k (by rw [HLS.out]; omega)]
    by_cases h3 : s.size < t.size
    ·rw [byte_dr t k (by omega),decide_eq_true h3]; simp
    ·rw [drop_out t.toList k (by rw [HLT.out]; omega),decide_eq_false h3]; simp
   subst hv2
   clear HV hks
   go_wp2
   go_ret
   exact ⟨by simp [hc],_,rfl⟩
end Go.Proofs.YtjmmninopagpjaaGreatDoor
