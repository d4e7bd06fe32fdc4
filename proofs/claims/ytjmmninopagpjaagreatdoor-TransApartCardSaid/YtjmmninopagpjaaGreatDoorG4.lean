/- De Taa Tab Sla Mpv Df Dk Dg Lxc Lxr Lxi Lxb Lxd -/
import Derived.Test.YtjmmninopagpjaaGreatDoorG2
import Derived.Test.YtjmmninopagpjaaGreatDoorShelf
import Derived.Deep.LoopGhost
import Derived.Test.YtjmmninopagpjaaGreatDoorG3
import Derived.Test.YtjmmninopagpjaaGreatDoorRows
import Derived.WalkKit
import Derived.ProofKit
import Derived.Below
import Derived.IntWalk
import Derived.Carry
import Derived.Lib.Hide
import Derived.Lib.Walk
import Derived.Lib.Strings
import Derived.Laws.Rows
import Derived.LaidEqlPtr
import Derived.OwnWalk
import Derived.Maps.OwnSet
import Derived.StringKeys
import Derived.Deep.Draws
import Derived.Maps.RangeWalk
import Derived.Test.YtjmmninopagpjaaGreatDoorG1
import Derived.Lib.AppendZerosOnto
import Derived.Lib.SliceRun
import Derived.LoopTactic
import Derived.OpenShut
import Derived.ShutString
import Derived.Lib.Bytealg
import Derived.Lib.IndexLaws
import Derived.Laws.IdiomStrings
import Derived.Deep.QuietTactic
import Derived.Deep.RegionWith
import Derived.Deep.DeepCutAuto
import Derived.BigQuiet
import Derived.Laws.Runes
import Derived.WalkMore
import Derived.Deep.RegionHeld3
set_option linter.unusedSimpArgs false
set_option linter.unusedVariables false
namespace Go.Proofs.YtjmmninopagpjaaGreatDoor
open Go.ChangeShapes Go.WideShapes Go.ChangeAt Go.RowKit
set_option maxRecDepth 100000
set_option linter.unusedVariables false
set_option linter.unusedSimpArgs false

theorem cmpI_lt {a b : Int} (h : a < b) : Lib.compareInt a b = -1 := by unfold Lib.compareInt; rw [if_pos h]
theorem cmpI_eq {a b : Int} (h : a = b) : Lib.compareInt a b = 0 := by unfold Lib.compareInt; rw [if_neg (by omega),if_neg (by omega)]
theorem cmpI_gt {a b : Int} (h : b < a) : Lib.compareInt a b = 1 := by unfold Lib.compareInt; rw [if_neg (by omega),if_pos h]
theorem cmpB : ∀ a b : List UInt8,(a < b → Lib.compareBytes a b = -1) ∧ (a = b → Lib.compareBytes a b = 0) ∧ (b < a → Lib.compareBytes a b = 1)
 | [],[] => ⟨fun h => absurd h (List.lt_irrefl _),fun _ => rfl,fun h => absurd h (List.lt_irrefl _)⟩
 | [],y :: t => ⟨fun _ => rfl,(fun h => by cases h),fun h => absurd h (List.not_lt_nil _)⟩
 | x :: r,[] => ⟨fun h => absurd h (List.not_lt_nil _),(fun h => by cases h),fun _ => rfl⟩
 | x :: r,y :: t => by
  obtain ⟨i1,i2,i3⟩ := cmpB r t
  unfold Lib.compareBytes
  refine ⟨fun h => ?_,fun h => ?_,fun h => ?_⟩
  ·rcases List.cons_lt_cons_iff.1 h with h | ⟨h,h2⟩
   ·rw [if_pos h]
   ·subst h; rw [if_neg (UInt8.lt_irrefl _),if_neg (UInt8.lt_irrefl _)]; exact i1 h2
  ·injection h with h1 h2
   subst h1; rw [if_neg (UInt8.lt_irrefl _),if_neg (UInt8.lt_irrefl _)]; exact i2 h2
  ·rcases List.cons_lt_cons_iff.1 h with h | ⟨h,h2⟩
   ·rw [if_neg (UInt8.lt_asymm h),if_pos h]
   ·subst h; rw [if_neg (UInt8.lt_irrefl _),if_neg (UInt8.lt_irrefl _)]; exact i3 h2
theorem rcmp_any (r0 r1 k : Int) (w : World) : Calls Tryz.prog 142 #[.agg #[.int .i64 r0,.int .i64 r1],.int .i64 k] w fun e w' => e = .returned (.int .i64 (Lib.compareInt r0 k)) ∧ Below w.heap.size w w' := by
 have HC := Lib.hid (fun W => Tryz.cmp_Compare_int r0 k W)
 have HB := Lib.hid ((Below.refl w.heap.size w).alloc (Nat.le_refl _) (.cells #[.int .i64 r0,.int .i64 r1] 65))
 go_enter Tryz.func142,Tryz.ntmps142
 go_wp2_with (go_at_call 143; (refine (HC.out _).mono ?_); rintro e w2 ⟨rfl,hw⟩; obtain rfl := hw)
 go_ret
 exact ⟨rfl,HB.out⟩
theorem tcmp_any (n : ByteArray) (u : Value) (m : ByteArray) (w : World) : Calls Tryz.prog 102 #[.agg #[.string n,u],.string m] w fun e w' => e = .returned (.int .i64 (Lib.compareBytes n.data.toList m.data.toList)) ∧ Below w.heap.size w w' := by
 have HC := Lib.hid (fun W => Tryz.strings_Compare n m W)
 have HB := Lib.hid ((Below.refl w.heap.size w).alloc (Nat.le_refl _) (.cells #[.string n,u] 63))
 go_enter Tryz.func102,Tryz.ntmps102
 go_wp2_with (go_at_call 71; (refine (HC.out _).mono ?_); rintro e w2 ⟨rfl,hw⟩; obtain rfl := hw)
 go_ret
 exact ⟨rfl,HB.out⟩
set_option maxHeartbeats 4000000 in
theorem rsearch_any (v : Value) (l : List Rw) (k : Int) (w : World) (h : RR w v l) (hm : MonoP (ltK k) l) (hl : l.length ≤ 1000000) :
  Calls Tryz.prog 141 #[v,.int .i64 k,.func (.func 142) #[] #[]] w fun e w' => e = .returned (.tuple #[.int .i64 (lowR l k : Nat),.bool (hasR l k)]) ∧ Below w.heap.size w w' := by
 obtain ⟨R,hR⟩ : ∃ R,lowR l k = R := ⟨_,rfl⟩
 obtain ⟨F,hF⟩ : ∃ F,hasR l k = F := ⟨_,rfl⟩
 rw [hR,hF]
 obtain ⟨a,cap,rfl⟩ := h.form
 have HH := Lib.hid h
 have HM := Lib.hid hm
 have HR := Lib.hid hR
 have HF := Lib.hid hF
 clear h hm hR hF
 have henter : ∀ args w,(callFunc 142 args).run Tryz.prog w = .ok (.enter 142 args) w := fun args w => by show Sem.run Tryz.prog (callFunc 142 args) w = _; go_simp
 go_enter Tryz.func141,Tryz.ntmps141
 go_wp2
 go_loopg [9,10] l.length (fun gk u9 u10 wx => ∃ lo hi : Nat,u9 = .int .i64 (lo : Int) ∧ u10 = .int .i64 (hi : Int) ∧ lo ≤ hi ∧ hi ≤ l.length ∧ hi - lo ≤ gk ∧ Hid (Below w.heap.size w wx) ∧ Hid ((∀ (t : Nat) (x : Rw),t < lo → l[t]? = some x → ltK k x = true) ∧ (∀ (t : Nat) (x : Rw),hi ≤ t → l[t]? = some x → ltK k x = false)))
 case atStart => exact ⟨0,l.length,rfl,rfl,Nat.zero_le _,Nat.le_refl _,by omega,Below.refl _ _,⟨fun t x ht => absurd ht (Nat.not_lt_zero _),fun t x h1 h2 => by have := (List.getElem?_eq_some_iff.1 h2).1; omega⟩⟩
 case round =>
  obtain ⟨lo,hi,rfl,rfl,hlh,hin,hg,HB,I⟩ := hrel
  by_cases hlt : lo < hi
  ·obtain ⟨m,hmid⟩ : ∃ m,(lo + hi) / 2 = m := ⟨_,rfl⟩
   have hml : m < l.length := by omega
   have hRR := HH.out.below HB.out
   obtain ⟨b,o,cp,he,hcp,hx⟩ := hRR.inv (by omega)
   injection he with ea _ ec
   subst ea ec
   obtain ⟨r,hr0⟩ : ∃ r,l[m] = r := ⟨_,rfl⟩
   have hrm : l[m]? = some r := by rw [List.getElem?_eq_getElem hml,hr0]
   obtain ⟨x0,x1⟩ := hx m r hrm
   have wm : ((lo : Int) + (hi : Int)) / 2 = (m : Int) := by omega
   have HM2 := Lib.hid hrm
   have HMID := Lib.hid hmid
   have l0 : (0 : Int) ≤ (m : Int) := by omega
   have l1 : (m : Int) < (l.length : Int) := by omega
   obtain ⟨r0,r1⟩ := r
   have HC := Lib.hid (rcmp_any r0 r1 k wr)
   obtain ⟨m1,hm1⟩ : ∃ m1,m + 1 = m1 := ⟨_,rfl⟩
   have wk : IntKind.i64.wrap ((m : Int) + 1) = (m1 : Int) := by rw [show (m : Int) + 1 = (m1 : Int) by omega]; exact IntWalk.i64_in _ (by omega)
   have HM1 := Lib.hid hm1
   clear hx hrm hRR hmid hr0 hml hm1
   by_cases hc : r0 < k
   ·have hq := cmpI_lt hc
    rw [hq] at HC
    have HCC := Lib.hid hc
    clear hc hq
    go_wp2_with (go_at_call 142; (refine HC.out.mono ?_); rintro e w2 ⟨rfl,hb2⟩; have HB2 := Lib.hid hb2; clear hb2)
    go_roundg (hi - m1)
    case measure => have := HMID.out; have := HM1.out; omega
    case rel =>
     have e1 := HMID.out
     have e2 := HM1.out
     refine ⟨m1,hi,rfl,rfl,by omega,hin,by omega,HB.out.trans (HB2.out.mono HB.out.size),fun t x ht hx => ?_,I.out.2⟩
     exact HM.out t m x _ (by omega) hx HM2.out (decide_eq_true HCC.out)
   ·have hq : Lib.compareInt r0 k = 0 ∨ Lib.compareInt r0 k = 1 := by
     rcases Int.lt_trichotomy r0 k with h | h | h
     ·exact absurd h hc
     ·exact .inl (cmpI_eq h)
     ·exact .inr (cmpI_gt h)
    have HCC := Lib.hid hc
    clear hc
    rcases hq with hq | hq
    all_goals
     rw [hq] at HC
     clear hq
     go_wp2_with (go_at_call 142; (refine HC.out.mono ?_); rintro e w2 ⟨rfl,hb2⟩; have HB2 := Lib.hid hb2; clear hb2)
     go_roundg (m - lo)
     case measure => have := HMID.out; omega
     case rel =>
      have e1 := HMID.out
      refine ⟨lo,m,rfl,rfl,by omega,by omega,Nat.le_refl _,HB.out.trans (HB2.out.mono HB.out.size),I.out.1,fun t x ht hx => ?_⟩
      cases hp : ltK k x with
      | false => rfl
      | true =>
       have := HM.out m t _ x ht HM2.out hx hp
       have h1 : r0 < k := of_decide_eq_true this
       have h2 := HCC.out
       omega
  ·obtain rfl : hi = lo := by omega
   have hRe : R = hi := by
    rw [← HR.out]
    exact low_uniq (ltK k) l hi hin I.out.1 (fun x hx => I.out.2 hi x (Nat.le_refl _) hx)
   subst hRe
   by_cases hn : R < l.length
   ·have hRR := HH.out.below HB.out
    obtain ⟨b,o,cp,he,hcp,hx⟩ := hRR.inv (by omega)
    injection he with ea _ ec
    subst ea ec
    obtain ⟨r,hr0⟩ : ∃ r,l[R] = r := ⟨_,rfl⟩
    have hrm : l[R]? = some r := by rw [List.getElem?_eq_getElem hn,hr0]
    obtain ⟨x0,x1⟩ := hx R r hrm
    have hf : F = (r.1 == k) := by
     rw [← HF.out]; unfold hasR; rw [HR.out,hrm]
    obtain ⟨r0,r1⟩ := r
    have HC := Lib.hid (fun W => rcmp_any r0 r1 k W)
    clear hx hrm hRR hr0
    simp only at hf
    have l0 : (0 : Int) ≤ (R : Int) := by omega
    have l1 : (R : Int) < (l.length : Int) := by omega
    by_cases hc : r0 = k
    ·have hq := cmpI_eq hc
     rw [hq] at HC
     have hF2 : F = true := by rw [hf,hc]; simp
     subst hF2
     clear hc hq hf
     go_wp2_with (go_at_call 142; (refine (HC.out _).mono ?_); rintro e w2 ⟨rfl,hb2⟩; have HB2 := Lib.hid (HB.out.trans (hb2.mono HB.out.size)); clear hb2)
     go_ret2
     exact ⟨rfl,HB2.out⟩
    ·have hq : Lib.compareInt r0 k = -1 ∨ Lib.compareInt r0 k = 1 := by
      rcases Int.lt_trichotomy r0 k with h | h | h
      ·exact .inl (cmpI_lt h)
      ·exact absurd h hc
      ·exact .inr (cmpI_gt h)
     have hF2 : F = false := by rw [hf,beq_eq_false_iff_ne]; exact hc
     subst hF2
     clear hc hf
     rcases hq with hq | hq
     all_goals
      rw [hq] at HC
      clear hq
      go_wp2_with (go_at_call 142; (refine (HC.out _).mono ?_); rintro e w2 ⟨rfl,hb2⟩; have HB2 := Lib.hid (HB.out.trans (hb2.mono HB.out.size)); clear hb2)
      go_ret2
      exact ⟨rfl,HB2.out⟩
   ·have hF2 : F = false := by
     rw [← HF.out]; unfold hasR; rw [HR.out,List.getElem?_eq_none (by omega)]
    subst hF2
    go_wp2
    go_ret2
    exact ⟨rfl,HB.out⟩
def hasT (s : List Tb) (n : ByteArray) : Bool := match s[lowT s n]? with | some t => decide (t.1.data.toList = n.data.toList) | none => false
set_option maxHeartbeats 4000000 in
theorem tsearch_any (v : Value) (l : List Tb) (k : ByteArray) (w : World) (h : SR w v l) (hm : MonoP (ltN k) l) (hl : l.length ≤ 1000000) :
  Calls Tryz.prog 69 #[v,.string k,.func (.func 102) #[] #[]] w fun e w' => e = .returned (.tuple #[.int .i64 (lowT l k : Nat),.bool (hasT l k)]) ∧ Below w.heap.size w w' := by
 obtain ⟨R,hR⟩ : ∃ R,lowT l k = R := ⟨_,rfl⟩
 obtain ⟨F,hF⟩ : ∃ F,hasT l k = F := ⟨_,rfl⟩
 rw [hR,hF]
 obtain ⟨a,cap,rfl⟩ := h.form
 have HH := Lib.hid h
 have HM := Lib.hid hm
 have HR := Lib.hid hR
 have HF := Lib.hid hF
 clear h hm hR hF
 have henter : ∀ args w,(callFunc 102 args).run Tryz.prog w = .ok (.enter 102 args) w := fun args w => by show Sem.run Tryz.prog (callFunc 102 args) w = _; go_simp
 go_enter Tryz.func69,Tryz.ntmps69
 go_wp2
 go_loopg [9,10] l.length (fun gk u9 u10 wx => ∃ lo hi : Nat,u9 = .int .i64 (lo : Int) ∧ u10 = .int .i64 (hi : Int) ∧ lo ≤ hi ∧ hi ≤ l.length ∧ hi - lo ≤ gk ∧ Hid (Below w.heap.size w wx) ∧ Hid ((∀ (t : Nat) (x : Tb),t < lo → l[t]? = some x → ltN k x = true) ∧ (∀ (t : Nat) (x : Tb),hi ≤ t → l[t]? = some x → ltN k x = false)))
 case atStart => exact ⟨0,l.length,rfl,rfl,Nat.zero_le _,Nat.le_refl _,by omega,Below.refl _ _,⟨fun t x ht => absurd ht (Nat.not_lt_zero _),fun t x h1 h2 => by have := (List.getElem?_eq_some_iff.1 h2).1; omega⟩⟩
 case round =>
  obtain ⟨lo,hi,rfl,rfl,hlh,hin,hg,HB,I⟩ := hrel
  by_cases hlt : lo < hi
  ·obtain ⟨m,hmid⟩ : ∃ m,(lo + hi) / 2 = m := ⟨_,rfl⟩
   have hml : m < l.length := by omega
   have hRR := HH.out.below HB.out
   obtain ⟨b,o,cp,he,hcp,hx⟩ := hRR.inv (by omega)
   injection he with ea _ ec
   subst ea ec
   obtain ⟨r,hr0⟩ : ∃ r,l[m] = r := ⟨_,rfl⟩
   have hrm : l[m]? = some r := by rw [List.getElem?_eq_getElem hml,hr0]
   obtain ⟨x0,u,x1,hu⟩ := hx m r hrm
   have wm : ((lo : Int) + (hi : Int)) / 2 = (m : Int) := by omega
   have HM2 := Lib.hid hrm
   have HMID := Lib.hid hmid
   have l0 : (0 : Int) ≤ (m : Int) := by omega
   have l1 : (m : Int) < (l.length : Int) := by omega
   obtain ⟨r0,r1⟩ := r
   have HC := Lib.hid (tcmp_any r0 u k wr)
   obtain ⟨m1,hm1⟩ : ∃ m1,m + 1 = m1 := ⟨_,rfl⟩
   have wk : IntKind.i64.wrap ((m : Int) + 1) = (m1 : Int) := by rw [show (m : Int) + 1 = (m1 : Int) by omega]; exact IntWalk.i64_in _ (by omega)
   have HM1 := Lib.hid hm1
   clear hu hx hrm hRR hmid hr0 hml hm1
   by_cases hc : r0.data.toList < k.data.toList
   ·have hq := (cmpB _ _).1 hc
    rw [hq] at HC
    have HCC := Lib.hid hc
    clear hc hq
    go_wp2_with (go_at_call 102; (refine HC.out.mono ?_); rintro e w2 ⟨rfl,hb2⟩; have HB2 := Lib.hid hb2; clear hb2)
    go_roundg (hi - m1)
    case measure => have := HMID.out; have := HM1.out; omega
    case rel =>
     have e1 := HMID.out
     have e2 := HM1.out
     refine ⟨m1,hi,rfl,rfl,by omega,hin,by omega,HB.out.trans (HB2.out.mono HB.out.size),fun t x ht hx => ?_,I.out.2⟩
     exact HM.out t m x _ (by omega) hx HM2.out (decide_eq_true HCC.out)
   ·have hq : Lib.compareBytes r0.data.toList k.data.toList = 0 ∨ Lib.compareBytes r0.data.toList k.data.toList = 1 := by
     rcases Decidable.em (r0.data.toList = k.data.toList) with h | h
     ·exact .inl ((cmpB _ _).2.1 h)
     ·exact .inr ((cmpB _ _).2.2 (lt_tri _ _ hc h))
    have HNC : Hid (¬ (r0.data.toList < k.data.toList)) := Lib.hid hc
    clear hc
    rcases hq with hq | hq
    all_goals
     rw [hq] at HC
     clear hq
     go_wp2_with (go_at_call 102; (refine HC.out.mono ?_); rintro e w2 ⟨rfl,hb2⟩; have HB2 := Lib.hid hb2; clear hb2)
     go_roundg (m - lo)
     case measure => have := HMID.out; omega
     case rel =>
      have e1 := HMID.out
      refine ⟨lo,m,rfl,rfl,by omega,by omega,Nat.le_refl _,HB.out.trans (HB2.out.mono HB.out.size),I.out.1,fun t x ht hx => ?_⟩
      cases hp : ltN k x with
      | false => rfl
      | true =>
       have := HM.out m t _ x ht HM2.out hx hp
       exact absurd (of_decide_eq_true this) HNC.out
  ·obtain rfl : hi = lo := by omega
   have hRe : R = hi := by
    rw [← HR.out]
    exact low_uniq (ltN k) l hi hin I.out.1 (fun x hx => I.out.2 hi x (Nat.le_refl _) hx)
   subst hRe
   by_cases hn : R < l.length
   ·have hRR := HH.out.below HB.out
    obtain ⟨b,o,cp,he,hcp,hx⟩ := hRR.inv (by omega)
    injection he with ea _ ec
    subst ea ec
    obtain ⟨r,hr0⟩ : ∃ r,l[R] = r := ⟨_,rfl⟩
    have hrm : l[R]? = some r := by rw [List.getElem?_eq_getElem hn,hr0]
    obtain ⟨x0,u,x1,hu⟩ := hx R r hrm
    have hf : F = decide (r.1.data.toList = k.data.toList) := by
     rw [← HF.out]; unfold hasT; rw [HR.out,hrm]
    obtain ⟨r0,r1⟩ := r
    have HC := Lib.hid (fun W => tcmp_any r0 u k W)
    clear hu hx hrm hRR hr0
    simp only at hf
    have l0 : (0 : Int) ≤ (R : Int) := by omega
    have l1 : (R : Int) < (l.length : Int) := by omega
    by_cases hc : r0.data.toList = k.data.toList
    ·have hq := (cmpB _ _).2.1 hc
     rw [hq] at HC
     have hF2 : F = true := by rw [hf]; exact decide_eq_true hc
     subst hF2
     clear hc hq hf
     go_wp2_with (go_at_call 102; (refine (HC.out _).mono ?_); rintro e w2 ⟨rfl,hb2⟩; have HB2 := Lib.hid (HB.out.trans (hb2.mono HB.out.size)); clear hb2)
     go_ret2
     exact ⟨rfl,HB2.out⟩
    ·have hq : Lib.compareBytes r0.data.toList k.data.toList = -1 ∨ Lib.compareBytes r0.data.toList k.data.toList = 1 := by
      rcases Decidable.em (r0.data.toList < k.data.toList) with h | h
      ·exact .inl ((cmpB _ _).1 h)
      ·exact .inr ((cmpB _ _).2.2 (lt_tri _ _ h hc))
     have hF2 : F = false := by rw [hf]; exact decide_eq_false hc
     subst hF2
     clear hc hf
     rcases hq with hq | hq
     all_goals
      rw [hq] at HC
      clear hq
      go_wp2_with (go_at_call 102; (refine (HC.out _).mono ?_); rintro e w2 ⟨rfl,hb2⟩; have HB2 := Lib.hid (HB.out.trans (hb2.mono HB.out.size)); clear hb2)
      go_ret2
      exact ⟨rfl,HB2.out⟩
   ·have hF2 : F = false := by
     rw [← HF.out]; unfold hasT; rw [HR.out,List.getElem?_eq_none (by omega)]
    subst hF2
    go_wp2
    go_ret2
    exact ⟨rfl,HB.out⟩

def lkT : List Tb → ByteArray → Option (List Rw)
 | [],_ => none
 | t :: r,n => if t.1 = n then some t.2 else lkT r n
theorem lk_app (a b : List Tb) (n : ByteArray) : lkT (a ++ b) n = (lkT a n).or (lkT b n) := by
 induction a with
 | nil => simp [lkT]
 | cons t a ih =>
  rw [List.cons_append,lkT,lkT]
  split
  ·rfl
  ·exact ih
theorem lk_none {s : List Tb} {n : ByteArray} : lkT s n = none ↔ ∀ t ∈ s,t.1 ≠ n := by
 induction s with
 | nil => simp [lkT]
 | cons t s ih =>
  rw [lkT]
  split
  ·rename_i h; simp [h]
  ·rename_i h; rw [ih]; simp [h]
theorem lk_mem {s : List Tb} {n : ByteArray} {l : List Rw} (h : lkT s n = some l) : (n,l) ∈ s := by
 induction s with
 | nil => simp [lkT] at h
 | cons t s ih =>
  rw [lkT] at h
  split at h
  ·rename_i e; injection h with h; subst e h; exact List.mem_cons_self ..
  ·exact List.mem_cons_of_mem _ (ih h)
def upW (s : List Tb) : Prop := s.Pairwise fun a b => a.1.data.toList < b.1.data.toList
theorem upW_iff {s : List Tb} : upN s ↔ upW s := by
 unfold upN upW
 rw [List.pairwise_iff_getElem]
 constructor
 ·intro h i j hi hj hij
  exact h i j _ _ hij (List.getElem?_eq_getElem hi) (List.getElem?_eq_getElem hj)
 ·intro h i j a b hij ha hb
  obtain ⟨hi,rfl⟩ := List.getElem?_eq_some_iff.1 ha
  obtain ⟨hj,rfl⟩ := List.getElem?_eq_some_iff.1 hb
  exact h i j hi hj hij
theorem nm_irr {a b : ByteArray} (h : a.data.toList < b.data.toList) : a ≠ b := by rintro rfl; exact List.lt_irrefl _ h
theorem nm_eq {a b : ByteArray} (h : a.data.toList = b.data.toList) : a = b := by apply ByteArray.ext; exact Array.toList_inj.1 h
theorem lk_some {s : List Tb} (hu : upW s) {n : ByteArray} {l : List Rw} : lkT s n = some l ↔ (n,l) ∈ s := by
 refine ⟨lk_mem,fun h => ?_⟩
 induction s with
 | nil => simp at h
 | cons t s ih =>
  obtain ⟨h1,h2⟩ := List.pairwise_cons.1 hu
  rw [lkT]
  rcases List.mem_cons.1 h with rfl | h
  ·simp
  ·rw [if_neg (nm_irr (h1 _ h))]; exact ih h2 h
theorem lk_ext : ∀ {s r : List Tb},upW s → upW r → (∀ n,lkT s n = lkT r n) → s = r
 | [],[],_,_,_ => rfl
 | [],b :: r,_,_,h => by have := h b.1; simp [lkT] at this
 | a :: s,[],_,_,h => by have := h a.1; simp [lkT] at this
 | a :: s,b :: r,hs,hr,h => by
  obtain ⟨s1,s2⟩ := List.pairwise_cons.1 hs
  obtain ⟨r1,r2⟩ := List.pairwise_cons.1 hr
  have e : a.1 = b.1 := by
   have ha : (a.1,a.2) ∈ b :: r := lk_mem (by rw [← h a.1,lkT,if_pos rfl])
   have hb : (b.1,b.2) ∈ a :: s := lk_mem (by rw [h b.1,lkT,if_pos rfl])
   rcases List.mem_cons.1 ha with ha | ha
   ·exact congrArg Prod.fst ha
   ·rcases List.mem_cons.1 hb with hb | hb
    ·exact (congrArg Prod.fst hb).symm
    ·exact absurd (List.lt_trans (r1 _ ha) (s1 _ hb)) (List.lt_irrefl _)
  have e2 : a.2 = b.2 := by
   have := h a.1
   rw [lkT,if_pos rfl,lkT,if_pos e.symm] at this
   injection this
  have hab : a = b := Prod.ext e e2
  subst hab
  congr 1
  refine lk_ext s2 r2 fun n => ?_
  by_cases hn : a.1 = n
  ·subst hn
   rw [lk_none.2 (fun t ht => (nm_irr (s1 t ht)).symm),lk_none.2 (fun t ht => (nm_irr (r1 t ht)).symm)]
  ·have := h n
   rwa [lkT,if_neg hn,lkT,if_neg hn] at this
def putS (s : List Tb) (t : Tb) : List Tb := if hasT s t.1 = true then s.set (lowT s t.1) t else s.take (lowT s t.1) ++ t :: s.drop (lowT s t.1)
theorem put_cut {s : List Tb} (hu : upW s) (t : Tb) : ∃ A B,putS s t = A ++ t :: B ∧ (s = A ++ B ∨ ∃ u,u.1 = t.1 ∧ s = A ++ u :: B) ∧ (∀ a ∈ A,a.1.data.toList < t.1.data.toList) ∧ ∀ b ∈ B,t.1.data.toList < b.1.data.toList := by
 have hle : lowT s t.1 ≤ s.length := low_le (ltN t.1) s
 have hA : ∀ a ∈ s.take (lowT s t.1),a.1.data.toList < t.1.data.toList := fun a ha => by
  obtain ⟨i,hi,he⟩ := List.mem_iff_getElem.1 ha
  have hi2 : i < lowT s t.1 := by simp at hi; omega
  have := low_before (ltN t.1) s i a hi2 (by rw [← he,List.getElem_take]; exact List.getElem?_eq_getElem _)
  simpa [ltN] using this
 unfold putS
 by_cases hh : hasT s t.1 = true
 ·rw [if_pos hh]
  unfold hasT at hh
  split at hh
  ·rename_i u hu2
   have hlt := (List.getElem?_eq_some_iff.1 hu2).1
   have hue := (List.getElem?_eq_some_iff.1 hu2).2
   have eu : u.1 = t.1 := nm_eq (of_decide_eq_true hh)
   have es : s = s.take (lowT s t.1) ++ u :: s.drop (lowT s t.1 + 1) := by
    conv => lhs; rw [← List.take_append_drop (lowT s t.1) s]
    rw [List.drop_eq_getElem_cons hlt,hue]
   refine ⟨s.take (lowT s t.1),s.drop (lowT s t.1 + 1),set_cut s _ t hlt,.inr ⟨u,eu,es⟩,hA,fun b hb => ?_⟩
   unfold upW at hu
   rw [es] at hu
   have := (List.pairwise_cons.1 (List.pairwise_append.1 hu).2.1).1 b hb
   rwa [eu] at this
  ·cases hh
 ·rw [if_neg hh]
  refine ⟨s.take (lowT s t.1),s.drop (lowT s t.1),rfl,.inl (List.take_append_drop _ _).symm,hA,fun b hb => ?_⟩
  obtain ⟨i,hi,he⟩ := List.mem_iff_getElem.1 hb
  have hlt : lowT s t.1 < s.length := by simp at hi; omega
  have h0 : ¬ s[lowT s t.1].1.data.toList = t.1.data.toList := fun e => hh (by
   unfold hasT; rw [List.getElem?_eq_getElem hlt]; simpa using e)
  have h1 : ¬ s[lowT s t.1].1.data.toList < t.1.data.toList := by
   have := low_at (ltN t.1) s s[lowT s t.1] (List.getElem?_eq_getElem hlt)
   simpa [ltN] using this
  have h2 := lt_tri _ _ h1 h0
  rw [List.drop_eq_getElem_cons hlt] at hb
  rcases List.mem_cons.1 hb with rfl | hb
  ·exact h2
  ·unfold upW at hu
   rw [← List.take_append_drop (lowT s t.1) s,List.drop_eq_getElem_cons hlt] at hu
   exact List.lt_trans h2 ((List.pairwise_cons.1 (List.pairwise_append.1 hu).2.1).1 b hb)
theorem put_up {s : List Tb} (hu : upW s) (t : Tb) : upW (putS s t) := by
 obtain ⟨A,B,h1,h2,h3,h4⟩ := put_cut hu t
 rw [h1]
 have hab : upW (A ++ B) := by
  rcases h2 with h2 | ⟨u,_,h2⟩
  ·rw [← h2]; exact hu
  ·rw [h2] at hu
   have := List.pairwise_append.1 hu
   exact List.pairwise_append.2 ⟨this.1,(List.pairwise_cons.1 this.2.1).2,fun a ha b hb => this.2.2 a ha b (List.mem_cons_of_mem _ hb)⟩
 have h5 := List.pairwise_append.1 hab
 refine List.pairwise_append.2 ⟨h5.1,List.pairwise_cons.2 ⟨h4,h5.2.1⟩,fun a ha b hb => ?_⟩
 rcases List.mem_cons.1 hb with rfl | hb
 ·exact h3 a ha
 ·exact h5.2.2 a ha b hb
theorem put_lk {s : List Tb} (hu : upW s) (t : Tb) (n : ByteArray) : lkT (putS s t) n = if t.1 = n then some t.2 else lkT s n := by
 obtain ⟨A,B,h1,h2,h3,h4⟩ := put_cut hu t
 rw [h1,lk_app,lkT]
 split
 ·rename_i e
  subst e
  rw [lk_none.2 fun a ha => nm_irr (h3 a ha)]; rfl
 ·rename_i e
  rcases h2 with h2 | ⟨u,hu,h2⟩
  ·rw [h2,lk_app]
  ·rw [h2,lk_app,lkT,if_neg (by rw [hu]; exact e)]
theorem put_mem {s : List Tb} (hu : upW s) {t x : Tb} (h : x ∈ putS s t) : x = t ∨ x ∈ s := by
 obtain ⟨A,B,h1,h2,_,_⟩ := put_cut hu t
 rw [h1] at h
 have : x = t ∨ x ∈ A ++ B := by
  simp only [List.mem_append,List.mem_cons] at h ⊢
  rcases h with h | h | h <;> simp [h]
 rcases this with h | h
 ·exact .inl h
 ·right
  rcases h2 with h2 | ⟨u,_,h2⟩ <;> rw [h2]
  ·exact h
  ·simp only [List.mem_append,List.mem_cons] at h ⊢
   rcases h with h | h <;> simp [h]
theorem put_len {s : List Tb} (hu : upW s) (t : Tb) : (putS s t).length ≤ s.length + 1 := by
 obtain ⟨A,B,h1,h2,_,_⟩ := put_cut hu t
 rw [h1]
 rcases h2 with h2 | ⟨u,_,h2⟩ <;> rw [h2] <;> simp <;> omega
theorem put_len2 {s : List Tb} (hu : upW s) {t : Tb} (h : (lkT s t.1).isSome = true) : (putS s t).length = s.length := by
 obtain ⟨A,B,h1,h2,h3,h4⟩ := put_cut hu t
 rw [h1]
 rcases h2 with h2 | ⟨u,_,h2⟩
 ·rw [h2,lk_app,lk_none.2 fun a ha => nm_irr (h3 a ha),lk_none.2 fun b hb => (nm_irr (h4 b hb)).symm] at h
  simp at h
 ·rw [h2]; simp
structure TabsP (s : List Tb) : Prop where
 up : upW s
 each : ∀ t ∈ s,0 < t.1.size ∧ t.1.size ≤ 30 ∧ RowsP t.2
theorem StateP.tabs {s : List Tb} (h : StateP s) : TabsP s := ⟨upW_iff.1 h.up,h.each⟩
theorem TabsP.state {s : List Tb} (h : TabsP s) (hl : s.length ≤ 16) : StateP s := ⟨hl,upW_iff.2 h.up,h.each⟩
theorem TabsP.nil : TabsP [] := ⟨List.Pairwise.nil,fun t ht => by simp at ht⟩
theorem TabsP.put {s : List Tb} (h : TabsP s) {t : Tb} (ht : 0 < t.1.size ∧ t.1.size ≤ 30 ∧ RowsP t.2) : TabsP (putS s t) :=
 ⟨put_up h.up t,fun x hx => by
  rcases put_mem h.up hx with rfl | hx
  ·exact ht
  ·exact h.each x hx⟩
def overS (s l : List Tb) : List Tb := l.foldl putS s
theorem over_tabs : ∀ {l s : List Tb},TabsP s → (∀ t ∈ l,0 < t.1.size ∧ t.1.size ≤ 30 ∧ RowsP t.2) → TabsP (overS s l)
 | [],s,h,_ => h
 | t :: l,s,h,hl => over_tabs (l := l) (h.put (hl t (List.mem_cons_self ..))) fun x hx => hl x (List.mem_cons_of_mem _ hx)
theorem over_len : ∀ {l s : List Tb},upW s → (overS s l).length ≤ s.length + l.length
 | [],s,h => by simp [overS]
 | t :: l,s,h => by
  have h1 := over_len (l := l) (put_up h t)
  have h2 := put_len h t
  show (overS (putS s t) l).length ≤ _
  rw [List.length_cons]; omega
theorem over_up : ∀ {l s : List Tb},upW s → upW (overS s l)
 | [],s,h => h
 | t :: l,s,h => over_up (l := l) (put_up h t)
theorem over_lk : ∀ {l s : List Tb},upW s → upW l → ∀ n,lkT (overS s l) n = (lkT l n).or (lkT s n)
 | [],s,h,_,n => by simp [overS,lkT]
 | t :: l,s,h,hl,n => by
  obtain ⟨l1,l2⟩ := List.pairwise_cons.1 hl
  show lkT (overS (putS s t) l) n = _
  rw [over_lk (put_up h t) l2 n,put_lk h,lkT]
  split
  ·rename_i e
   subst e
   rw [lk_none.2 fun x hx => (nm_irr (l1 x hx)).symm]; rfl
  ·rfl
theorem lk_find {s : List Tb} (hu : upW s) {n : ByteArray} {l : List Rw} (h : lkT s n = some l) : ∃ i : Nat,findN s n 0 = (i : Int) ∧ s[i]? = some (n,l) := by
 obtain ⟨i,h1,h2⟩ := find_mem (upW_iff.2 hu) (lk_mem h)
 exact ⟨i,h1,h2⟩

abbrev Ses : Type := Option (Bool × List Tb)
abbrev Dbp : Type := List Tb × (Int → Ses)
def setO (O : Int → Ses) (id : Int) (v : Ses) : Int → Ses := fun x => if x = id then v else O x
theorem setO_at (O : Int → Ses) (id : Int) (v : Ses) : setO O id v id = v := if_pos rfl
theorem setO_ne (O : Int → Ses) {id x : Int} (v : Ses) (h : x ≠ id) : setO O id v x = O x := if_neg h
theorem setO_self (O : Int → Ses) (id : Int) : setO O id (O id) = O := funext fun x => by
 unfold setO
 split
 ·rename_i h; rw [h]
 ·rfl
def ownO : Ses → List Tb
 | none => []
 | some p => p.2
def seenP (D : Dbp) (id : Int) : List Tb := overS D.1 (ownO (D.2 id))
def stO : Ses → Int
 | none => 73
 | some (true,_) => 69
 | some (false,_) => 84
def isS (id : Int) : Bool := decide (0 ≤ id) && decide (id ≤ 1000)
def statP (D : Dbp) (id : Int) : Int := if isS id = true then stO (D.2 id) else 0
def failO : Ses → Ses
 | none => none
 | some p => some (true,p.2)
def failP (D : Dbp) (id : Int) : Dbp := (D.1,setO D.2 id (failO (D.2 id)))
def endP (D : Dbp) (id : Int) : Dbp := (D.1,setO D.2 id none)
def writeP (D : Dbp) (id : Int) (t : Tb) : Dbp := match D.2 id with
 | none => (putS D.1 t,D.2)
 | some p => (D.1,setO D.2 id (some (p.1,putS p.2 t)))
def doP (D : Dbp) (id : Int) (kd : Int) (n : ByteArray) (K V : Int) (kb : Bool) : Dbp × List Rw × Int :=
 if (doS (seenP D id) kd n K V kb).2.2 = 0 then
  if kd = 1 then (D,(doS (seenP D id) kd n K V kb).2.1,0) else (writeP D id (n,(lkT (doS (seenP D id) kd n K V kb).1 n).getD []),[],0)
 else (failP D id,[],(doS (seenP D id) kd n K V kb).2.2)
def beginP (D : Dbp) (id : Int) : Dbp × Int := match D.2 id with
 | none => ((D.1,setO D.2 id (some (false,[]))),0)
 | some _ => (D,10)
def commitP (D : Dbp) (id : Int) : Dbp × Int := match D.2 id with
 | none => (D,10)
 | some (true,_) => (endP D id,13)
 | some (false,T) => if 16 < (overS D.1 T).length then (endP D id,11) else ((overS D.1 T,setO D.2 id none),0)
def rollP (D : Dbp) (id : Int) : Dbp × Int := match D.2 id with
 | none => (D,10)
 | some _ => (endP D id,0)
def runS (D : Dbp) (id cl : Int) (kd : Int) (n : ByteArray) (K V : Int) (kb tx : Bool) : Dbp × List Rw × Int :=
 if cl = 3 then ((beginP D id).1,[],(beginP D id).2)
 else if cl = 4 then ((commitP D id).1,[],(commitP D id).2)
 else if cl = 5 then ((rollP D id).1,[],(rollP D id).2)
 else if stO (D.2 id) = 69 then (D,[],13)
 else if cl = 0 ∨ cl = 6 then (D,[],0)
 else if cl = 1 ∨ cl = 2 ∨ cl = 8 then (if tx = true then doP D id kd n K V kb else (D,[],1))
 else (failP D id,[],5)
def runP (D : Dbp) (id cl : Int) (kd : Int) (n : ByteArray) (K V : Int) (kb tx : Bool) : Dbp × List Rw × Int :=
 if isS id = true then runS D id cl kd n K V kb tx else (D,[],1)
structure InvP (D : Dbp) (k : Nat) : Prop where
 st : StateP D.1
 own : ∀ id p,D.2 id = some p → TabsP p.2 ∧ p.2.length ≤ k
theorem InvP.mono {D : Dbp} {k m : Nat} (h : InvP D k) (hm : k ≤ m) : InvP D m := ⟨h.st,fun id p hp => ⟨(h.own id p hp).1,Nat.le_trans (h.own id p hp).2 hm⟩⟩
theorem InvP.ownT {D : Dbp} {k : Nat} (h : InvP D k) (id : Int) : TabsP (ownO (D.2 id)) ∧ (ownO (D.2 id)).length ≤ k := by
 cases hd : D.2 id with
 | none => exact ⟨TabsP.nil,Nat.zero_le _⟩
 | some p => exact h.own id p hd
theorem InvP.seen {D : Dbp} {k : Nat} (h : InvP D k) (id : Int) : TabsP (seenP D id) ∧ (seenP D id).length ≤ 16 + k := by
 have ho := h.ownT id
 refine ⟨over_tabs h.st.tabs ho.1.each,?_⟩
 have := over_len (l := ownO (D.2 id)) h.st.tabs.up
 have := h.st.len
 unfold seenP; omega
theorem InvP.set {D : Dbp} {k : Nat} (h : InvP D k) (id : Int) (v : Ses) (hv : ∀ p,v = some p → TabsP p.2 ∧ p.2.length ≤ k) : InvP (D.1,setO D.2 id v) k :=
 ⟨h.st,fun x p hp => by
  simp only [setO] at hp
  split at hp
  ·exact hv p hp
  ·exact h.own x p hp⟩
theorem InvP.fail {D : Dbp} {k : Nat} (h : InvP D k) (id : Int) : InvP (failP D id) k := h.set id _ fun p hp => by
 cases hd : D.2 id with
 | none => rw [hd] at hp; cases hp
 | some q => rw [hd] at hp; injection hp with hp; subst hp; exact h.own id q hd
theorem InvP.end_ {D : Dbp} {k : Nat} (h : InvP D k) (id : Int) : InvP (endP D id) k := h.set id none fun p hp => by cases hp
theorem made_lk {s : List Tb} (hu : upW s) {n : ByteArray} (h : ∀ t ∈ s,t.1 ≠ n) : lkT (madeS s n) n = some [] := by
 unfold madeS
 rw [lk_app,lk_none.2 fun t ht => h t (List.mem_of_mem_take ht),lkT,if_pos rfl]; rfl
theorem do_tabs {s : List Tb} {kd K V : Int} {n : ByteArray} {kb : Bool} (h : TabsP s) (hn : 0 < n.size ∧ n.size ≤ 30) (hk : inI K) (hv : inI V) : TabsP (doS s kd n K V kb).1 := by
 have hu := upW_iff.2 h.up
 rcases do_cases s kd n K V kb with ⟨_,⟨_,e⟩ | ⟨_,_,e⟩ | ⟨hne,_,e⟩⟩ | ⟨_,_,e⟩ | ⟨_,i,t,ht,_,e⟩
 ·rw [e]; exact h
 ·rw [e]; exact h
 ·rw [e]
  refine ⟨upW_iff.1 (upN_made hne hu []),fun t ht => ?_⟩
  change t ∈ madeS s n at ht
  unfold madeS at ht
  rcases List.mem_append.1 ht with ht | ht
  ·exact h.each t (List.mem_of_mem_take ht)
  ·rcases List.mem_cons.1 ht with rfl | ht
   ·exact ⟨hn.1,hn.2,⟨by simp,fun i j a b _ ha => by simp at ha,fun r hr => by simp at hr⟩⟩
   ·exact h.each t (List.mem_of_mem_drop ht)
 ·rw [e]; exact h
 ·rw [e]
  split
  ·exact h
  ·have hm := h.each t (List.mem_of_getElem? ht)
   refine ⟨upW_iff.1 (upN_set hu i t ht _),fun x hx => ?_⟩
   rcases mem_set hx with rfl | hx
   ·exact ⟨hm.1,hm.2.1,chg_right hm.2.2 hk hv⟩
   ·exact h.each x hx
theorem do_there {s : List Tb} {kd K V : Int} {n : ByteArray} {kb : Bool} (h : TabsP s) (he : (doS s kd n K V kb).2.2 = 0) : (lkT (doS s kd n K V kb).1 n).isSome = true := by
 have hu := upW_iff.2 h.up
 rcases do_cases s kd n K V kb with ⟨_,⟨_,e⟩ | ⟨_,_,e⟩ | ⟨hne,_,e⟩⟩ | ⟨_,_,e⟩ | ⟨_,i,t,ht,rfl,e⟩
 ·rw [e] at he; simp at he
 ·rw [e] at he; simp at he
 ·rw [e]
  show (lkT (madeS s n) n).isSome = true
  rw [made_lk h.up hne]; rfl
 ·rw [e] at he; simp at he
 ·have hx : ∀ l,(lkT (s.set i (t.1,l)) t.1).isSome = true := fun l => by
   have hlt := (List.getElem?_eq_some_iff.1 ht).1
   rw [Option.isSome_iff_ne_none]
   intro hc
   exact lk_none.1 hc (t.1,l) (List.mem_of_getElem? (i := i) (by simp [hlt])) rfl
  rw [e]
  split
  ·rw [(lk_some h.up).2 (List.mem_of_getElem? ht)]; rfl
  ·exact hx _
theorem do_rows {s : List Tb} {kd K V : Int} {n : ByteArray} {kb : Bool} (h : kd ≠ 1) : (doS s kd n K V kb).2.1 = [] := by
 rcases do_cases s kd n K V kb with ⟨_,⟨_,e⟩ | ⟨_,_,e⟩ | ⟨hne,_,e⟩⟩ | ⟨_,_,e⟩ | ⟨_,i,t,ht,rfl,e⟩ <;> rw [e]
 rw [if_neg h]
theorem do_tab {s : List Tb} {kd K V : Int} {n : ByteArray} {kb : Bool} (h : TabsP s) (hn : 0 < n.size ∧ n.size ≤ 30) (hk : inI K) (hv : inI V) (he : (doS s kd n K V kb).2.2 = 0) :
  0 < n.size ∧ n.size ≤ 30 ∧ RowsP ((lkT (doS s kd n K V kb).1 n).getD []) := by
 obtain ⟨l,hl⟩ := Option.isSome_iff_exists.1 (do_there h he)
 rw [hl]
 exact ⟨hn.1,hn.2,((do_tabs h hn hk hv).each _ (lk_mem hl)).2.2⟩
theorem do_idle {s : List Tb} {kd K V : Int} {n : ByteArray} {kb : Bool} (h : StateP s) (hn : 0 < n.size ∧ n.size ≤ 30) (hk : inI K) (hv : inI V) (he : (doS s kd n K V kb).2.2 = 0) :
  StateP (putS s (n,(lkT (doS s kd n K V kb).1 n).getD [])) := by
 refine (h.tabs.put (do_tab h.tabs hn hk hv he)).state ?_
 by_cases hh : (lkT s n).isSome = true
 ·rw [put_len2 h.tabs.up hh]; exact h.len
 ·have h1 := put_len h.tabs.up (n,(lkT (doS s kd n K V kb).1 n).getD [])
  have h2 : ∀ t ∈ s,t.1 ≠ n := lk_none.1 (by simpa using hh)
  rcases do_cases s kd n K V kb with ⟨_,⟨⟨t,ht,et⟩,e⟩ | ⟨_,_,e⟩ | ⟨_,hl,e⟩⟩ | ⟨_,_,e⟩ | ⟨_,i,t,ht,et,e⟩
  ·exact absurd et (h2 t ht)
  ·rw [e] at he; simp at he
  ·omega
  ·rw [e] at he; simp at he
  ·exact absurd et (h2 t (List.mem_of_getElem? ht))
theorem InvP.write {D : Dbp} {k : Nat} (h : InvP D k) (id : Int) {kd K V : Int} {n : ByteArray} {kb : Bool} (hn : 0 < n.size ∧ n.size ≤ 30) (hk : inI K) (hv : inI V) (he : (doS (seenP D id) kd n K V kb).2.2 = 0) :
  InvP (writeP D id (n,(lkT (doS (seenP D id) kd n K V kb).1 n).getD [])) (k + 1) := by
 unfold writeP
 cases hd : D.2 id with
 | none =>
  have hs : seenP D id = D.1 := by unfold seenP; rw [hd]; rfl
  rw [hs] at he ⊢
  exact ⟨do_idle h.st hn hk hv he,(h.mono (Nat.le_succ _)).own⟩
 | some p =>
  refine (h.mono (Nat.le_succ k)).set id _ fun q hq => ?_
  injection hq with hq
  subst hq
  have hp := h.own id p hd
  refine ⟨hp.1.put (do_tab (h.seen id).1 hn hk hv he),?_⟩
  have := put_len hp.1.up (n,(lkT (doS (seenP D id) kd n K V kb).1 n).getD [])
  show (putS p.2 _).length ≤ _
  omega
theorem InvP.run {D : Dbp} {k : Nat} (h : InvP D k) (id cl : Int) {kd K V : Int} {n : ByteArray} {kb tx : Bool} (ht : tx = true → (0 < n.size ∧ n.size ≤ 30) ∧ inI K ∧ inI V) : InvP (runP D id cl kd n K V kb tx).1 (k + 1) := by
 have hm := h.mono (Nat.le_succ k)
 unfold runP
 split
 ·unfold runS
  split
  ·unfold beginP
   split
   ·exact hm.set id _ fun p hp => by injection hp with hp; subst hp; exact ⟨TabsP.nil,Nat.zero_le _⟩
   ·exact hm
  split
  ·unfold commitP
   split
   ·exact hm
   ·exact hm.end_ id
   ·rename_i T hd
    split
    ·exact hm.end_ id
    ·rename_i hl
     have hT := h.own id _ hd
     exact ⟨(over_tabs h.st.tabs hT.1.each).state (show (overS D.1 T).length ≤ 16 by omega),(hm.end_ id).own⟩
  split
  ·unfold rollP
   split
   ·exact hm
   ·exact hm.end_ id
  split
  ·exact hm
  split
  ·exact hm
  split
  ·split
   ·rename_i htx
    unfold doP
    split
    ·rename_i he
     split
     ·exact hm
     ·exact h.write id (ht htx).1 (ht htx).2.1 (ht htx).2.2 he
    ·exact hm.fail id
   ·exact hm
  ·exact hm.fail id
 ·exact hm
theorem run_keeps {D : Dbp} {id cl kd K V : Int} {n : ByteArray} {kb tx : Bool} (h : D.2 id ≠ none) (hc : cl ≠ 4 ∨ stO (D.2 id) = 69) : (runP D id cl kd n K V kb tx).1.1 = D.1 := by
 cases hd : D.2 id with
 | none => exact absurd hd h
 | some p =>
  obtain ⟨b,T⟩ := p
  rw [hd] at hc
  unfold runP
  split
  ·unfold runS beginP commitP rollP
   rw [hd]
   split
   ·rfl
   split
   ·cases b with
    | true => rfl
    | false => rename_i e; rcases hc with hc | hc
               ·exact absurd e hc
               ·cases hc
   split
   ·rfl
   split
   ·rfl
   split
   ·rfl
   split
   ·split
    ·unfold doP
     split
     ·split
      ·rfl
      ·unfold writeP; rw [hd]
     ·rfl
    ·rfl
   ·rfl
  ·rfl
end Go.Proofs.YtjmmninopagpjaaGreatDoor
namespace Go.Proofs.YtjmmninopagpjaaGreatDoor.SL
open Go.ChangeShapes Go.WideShapes Go.ChangeAt Go.RowKit Go.Maps Go.ChangeMaps
set_option maxRecDepth 100000
set_option linter.unusedVariables false
set_option linter.unusedSimpArgs false

def Bk (w : World) (g : Nat) (t : TypeId) (cs : Array Value) : Prop := w.heap[g]? = some (.cells cs t (0,0))
section
variable {w w' : World} {g : Nat} {t : TypeId} {cs : Array Value}
theorem Bk.lt (h : Bk w g t cs) : g < w.heap.size := (Array.getElem?_eq_some_iff.1 h).1
theorem Bk.cell (h : Bk w g t cs) (i : Nat) : w.cell? ⟨g,i,none⟩ = cs[i]? := cell_of_row w g i cs t (0,0) h
theorem Bk.frozen (h : Bk w g t cs) (i : Nat) : w.frozen? ⟨g,i,none⟩ = false := by
 unfold Bk at h
 simp [World.frozen?,h]
theorem Bk.new (w : World) (t : TypeId) (cs : Array Value) : Bk (w.alloc (.cells cs t)) w.heap.size t cs := heap_alloc_new w _
theorem Bk.set_ (h : Bk w g t cs) (i : Nat) (u : Value) : Bk (w.setCell ⟨g,i,none⟩ u) g t (cs.setIfInBounds i u) := by
 unfold Bk at h ⊢
 simp [World.setCell,Array.getElem?_modify,h]
theorem Bk.ne_ {g' : Nat} {t' : TypeId} {cs' : Array Value} (h : Bk w g t cs) (h' : Bk w g' t' cs') (hne : t ≠ t') : g ≠ g' := by
 rintro rfl
 unfold Bk at h h'
 rw [h] at h'
 injection h' with h'
 injection h' with _ ht
 exact hne ht
theorem Bk.heap (h : Bk w g t cs) (e : w'.heap[g]? = w.heap[g]?) : Bk w' g t cs := e.trans h
end
structure Chg (S : Nat → Prop) (w w' : World) : Prop where
 os : w'.os = w.os
 tape : w'.tape = w.tape
 output : w'.output = w.output
 size : w.heap.size ≤ w'.heap.size
 block : ∀ k,k < w.heap.size → ¬ S k → w'.heap[k]? = w.heap[k]?
section
variable {S S' : Nat → Prop} {w w1 w2 : World}
theorem Chg.refl (S : Nat → Prop) (w : World) : Chg S w w := ⟨rfl,rfl,rfl,Nat.le_refl _,fun _ _ _ => rfl⟩
theorem Chg.trans' (h : Chg S w w1) (k : Chg S' w1 w2) (hs : ∀ b,b < w.heap.size → S' b → S b) : Chg S w w2 :=
 ⟨k.os.trans h.os,k.tape.trans h.tape,k.output.trans h.output,Nat.le_trans h.size k.size,fun i hi hn => (k.block i (Nat.lt_of_lt_of_le hi h.size) (fun e => hn (hs i hi e))).trans (h.block i hi hn)⟩
theorem Chg.trans (h : Chg S w w1) (k : Chg S w1 w2) : Chg S w w2 := h.trans' k fun _ _ e => e
theorem Chg.of_below (h : Below w.heap.size w w1) : Chg S w w1 := ⟨h.os,h.tape,h.output,h.size,fun i hi _ => h.block i hi⟩
theorem Chg.below (h : Chg S w w1) {B : Nat} (hB : B ≤ w.heap.size) (hs : ∀ b,b < B → ¬ S b) : Below B w w1 := ⟨h.os,h.tape,h.output,h.size,fun i hi => h.block i (Nat.lt_of_lt_of_le hi hB) (hs i hi)⟩
theorem Chg.setCell (h : Chg S w w1) {p : Addr} (hp : S p.block) (u : Value) : Chg S w (w1.setCell p u) :=
 h.trans ⟨rfl,rfl,rfl,by simp [World.setCell],fun k hk hn => Below.heap_setCell _ _ _ _ (fun e => hn (by rw [e]; exact hp))⟩
theorem Chg.drew (h : Chg S w w1) : Chg S w w1.drew := ⟨h.os,h.tape,h.output,h.size,h.block⟩
theorem Chg.grown (h : Chg S w w1) {row : Option Nat} (hg : w1.grownBy w2 row) (hr : ∀ k,row = some k → k < w.heap.size → S k) : Chg S w w2 :=
 ⟨hg.os.trans h.os,hg.tape.trans h.tape,hg.output.trans h.output,Nat.le_trans h.size hg.size,fun i hi hn => (hg.block i (Nat.lt_of_lt_of_le hi h.size) (fun e => hn (hr i e.symm hi))).trans (h.block i hi hn)⟩
end
theorem below_drewN (B : Nat) (w : World) (n : Nat) : Below B w (w.drewN n) := by
 refine ⟨?_,?_,?_,?_,?_⟩ <;> first | rfl | exact Nat.le_refl _ | (intros; rfl) | simp [World.drewN]

abbrev ptr (b : Nat) : Value := .pointer (some ⟨b,0,none⟩)
abbrev bV (x : ByteArray) : Value := .string x
def TS (w : World) (v : Value) (d : List ByteArray) : Prop :=
 (∃ A cap,v = .slice A 0 cap ∧ d = []) ∨
 ∃ h off cap,v = .slice (some ⟨h,off,none⟩) d.length cap ∧ d.length ≤ cap ∧ ∀ (i : Nat) (x : ByteArray),d[i]? = some x → w.cell? ⟨h,off + i,none⟩ = some (.string x)
def OT (B : Nat) (w : World) (v : Value) (d : List ByteArray) : Prop := w.ownsRow B 9 1 v d.length (d.map bV)
theorem OT.ts {B : Nat} {w : World} {v : Value} {d : List ByteArray} (h : OT B w v d) : TS w v d := by
 rcases h.2 with ⟨rfl,hz⟩ | ⟨g,cap,cur,rfl,hb,hh,hc,hm,hs,ht⟩
 ·exact .inl ⟨none,0,rfl,List.eq_nil_of_length_eq_zero hz⟩
 ·refine .inr ⟨g,0,cap,rfl,hc,fun i x hi => ?_⟩
  have := World.ownsRow.cells h (g := g) rfl i (.string x) (by rw [List.getElem?_map,hi]; rfl)
  rw [Addr.add_lit,Nat.zero_add] at this
  rw [Nat.zero_add]; exact this
theorem OT.keep {B : Nat} {w w' : World} {v : Value} {d : List ByteArray} (h : OT B w v d) (hk : ∀ g,v.ownBlock = some g → w'.heap[g]? = w.heap[g]?) : OT B w' v d := by
 refine ⟨h.1,?_⟩
 rcases h.2 with h2 | ⟨g,cap,cur,rfl,hb,hg,hr⟩
 ·exact .inl h2
 ·exact .inr ⟨g,cap,cur,rfl,hb,(hk g rfl).trans hg,hr⟩
theorem OT.nil (B : Nat) (w : World) : OT B w (.slice none 0 0) [] := World.ownsRow_nil _ _ _ _
end Go.Proofs.YtjmmninopagpjaaGreatDoor.SL
namespace Go.Proofs.YtjmmninopagpjaaGreatDoor.MV
open Go.ChangeShapes Go.WideShapes Go.ChangeAt Go.RowKit Go.Maps Go.ChangeMaps
open Classical
set_option maxRecDepth 100000
set_option linter.unusedVariables false
set_option linter.unusedSimpArgs false

def vE (v : Value) : Option (DataW Value × List MemPlace) := some (.held v,[])
def Agr (D : DataW Value) (f : Lit → Option Value) : Prop := ∀ kl,WideAt.IsKeyLit kl → Maps.has D kl = (f kl).isSome ∧ ∀ v,f kl = some v → ∀ zd,D.atKey kl zd = .held v
def MapV (P : Program) (K : TypeId) (w : World) (b n : Nat) (f : Lit → Option Value) : Prop := ∃ D : DataW Value,w.ownsMap P K vE b n D ∧ Agr D f
section
variable {P : Program} {K : TypeId} {w w' : World} {b n : Nat} {f g : Lit → Option Value}
theorem Agr.empty : Agr (.map []) fun _ => none := fun kl _ => ⟨rfl,fun v h => by cases h⟩
theorem Agr.put {D : DataW Value} (h : Agr D f) (hm : IsMap D) {kl : Lit} (hk : WideAt.IsKeyLit kl) (v : Value) : Agr (D.put kl (.held v)) fun x => if x = kl then some v else f x := fun x hx => by
 show _ = (if x = kl then some v else f x).isSome ∧ ∀ u,(if x = kl then some v else f x) = some u → _
 by_cases e : x = kl
 ·subst e
  rw [if_pos rfl]
  exact ⟨has_put_same hm hk _,fun u hu zd => by injection hu with hu; subst hu; exact atKey_put_same hm hk _ _⟩
 ·rw [if_neg e]
  refine ⟨(has_put_other e _).trans (h x hx).1,fun u hu zd => ?_⟩
  rw [atKey_put_other e]; exact (h x hx).2 u hu zd
theorem Agr.del {D : DataW Value} (h : Agr D f) {kl : Lit} : Agr (D.del kl) fun x => if x = kl then none else f x := fun x hx => by
 show _ = (if x = kl then none else f x).isSome ∧ ∀ u,(if x = kl then none else f x) = some u → _
 by_cases e : x = kl
 ·subst e
  rw [if_pos rfl]
  exact ⟨has_del_same,fun u hu => by cases hu⟩
 ·rw [if_neg e]
  refine ⟨(has_del_other e).trans (h x hx).1,fun u hu zd => ?_⟩
  rw [atKey_del_other e]; exact (h x hx).2 u hu zd
theorem MapV.lt (h : MapV P K w b n f) : b < w.heap.size := by obtain ⟨D,h,_⟩ := h; exact h.lt
theorem MapV.obj (h : MapV P K w b n f) : ∃ es clock,w.heap[b]? = some (.map es clock) := by
 obtain ⟨D,⟨es,clock,hb,_⟩,_⟩ := h
 exact ⟨es,clock,hb⟩
theorem MapV.made (P : Program) (K : TypeId) (w : World) : MapV P K (w.alloc (.map #[] 0)) w.heap.size 0 fun _ => none := ⟨.map [],World.ownsMap_made _ _ _ _,Agr.empty⟩
theorem MapV.keep (h : MapV P K w b n f) (e : w'.heap[b]? = w.heap[b]?) : MapV P K w' b n f := by
 obtain ⟨D,⟨es,clock,hb,r⟩,hf⟩ := h
 exact ⟨D,⟨es,clock,e.trans hb,r⟩,hf⟩
theorem MapV.below (h : MapV P K w b n f) (hb : Below w.heap.size w w') : MapV P K w' b n f := h.keep (hb.block b h.lt)
theorem MapV.congr (h : MapV P K w b n f) (e : ∀ k,f k = g k) : MapV P K w b n g := by rw [← show f = g from funext e]; exact h
theorem MapV.mono (h : MapV P K w b n f) {m : Nat} (hm : n ≤ m) : MapV P K w b m f := by
 obtain ⟨D,h1,h2⟩ := h
 exact ⟨D,h1.mono hm,h2⟩
theorem held_inj {v : Value} {u : Value} {ps : List MemPlace} (h : vE v = some (.held u,ps)) : v = u := by
 unfold vE at h
 injection h with h
 injection h with h _
 injection h
theorem MapV.look {t e : TypeId} (h : MapV P K w b n f) (hK : Keyed P K) (ht : P.underlying t = some (.map K e)) {z : Value} (hz : (zeroValue e).run P w = .ok z w) {key : Value} {kl : Lit} (hkey : keyOf P K key = some kl) :
  (Instr.lookup t (.map (some b)) key true).run P w = .ok (.tuple #[(f kl).getD z,.bool (f kl).isSome]) w := by
 obtain ⟨D,hm,ha⟩ := h
 have hl := ha kl (hK.key hkey)
 obtain ⟨v,ps,hr,hv⟩ := hm.look_ok hK ht hz (zd := .held z) (zp := []) rfl hkey
 rw [hr,hl.1]
 congr 4
 cases hf : f kl with
 | none =>
  rw [hf] at hl
  rw [atKey_of_not_has hl.1] at hv
  exact held_inj hv
 | some u =>
  rw [hl.2 u hf] at hv
  exact held_inj hv
theorem MapV.put {t e : TypeId} (h : MapV P K w b n f) (hK : Keyed P K) (ht : P.underlying t = some (.map K e)) (hn : n < maxLen) {key : Value} {kl : Lit} (hkey : keyOf P K key = some kl) (v : Value) :
  ∃ w',(Instr.mapUpdate t (.map (some b)) key v).run P w = .ok () w' ∧ MapV P K w' b (n + 1) (fun x => if x = kl then some v else f x) ∧ w.mapTurned w' b := by
 obtain ⟨D,hm,ha⟩ := h
 obtain ⟨w',h1,h2,h3⟩ := hm.store hK ht hn hkey (d := .held v) (ps := []) rfl
 exact ⟨w',h1,⟨_,h2,ha.put hm.isMap (hK.key hkey) v⟩,h3⟩
end
section
variable {P : Program} {w : World} {ops : Array Oper} {rest : List Oper} {o : Oper} {a : Act} {Q : Exit → Act → World → Prop} {K : TypeId} {b n : Nat} {f : Lit → Option Value}
theorem wpList_del (hg : o.guard = none) (m x : Operand) (t : TypeId) (hop : o.op = Op.call { callee := Callee.builtin Builtin.delete,args := #[m,x],argTypes := #[t,K] }) (e : TypeId) (hK : Keyed P K) (ht : P.underlying t = some (.map K e)) (hm : a.eval m = .map (some b)) (h : MapV P K w b n f) (key : Value) (kl : Lit) (hx : a.eval x = key) (hkey : keyOf P K key = some kl)
  (hk : ∀ w',MapV P K w' b n (fun x => if x = kl then none else f x) → w.mapTurned w' b → wpList P ops Q rest (a.put o.dst (.tuple #[])) w') : wpList P ops Q (o :: rest) a w := by
 obtain ⟨D,hown,ha⟩ := h
 refine wpList_delete_own w hg m x t K hop e hK ht vE b n D hm hown key kl hx hkey fun w' h1 h2 => ?_
 exact hk w' ⟨_,h1,ha.del⟩ h2
def RangeV (P : Program) (K : TypeId) (w : World) (b r n : Nat) (f : Lit → Option Value) (left : Lit → Bool) (cnt : Nat) : Prop := ∃ D : DataW Value,w.ranges P K vE b r n D left cnt ∧ Agr D f
theorem RangeV.left_eq {r cnt : Nat} {left : Lit → Bool} (h : RangeV P K w b r n f left cnt) : w.rangeLeft b r = cnt := by obtain ⟨D,h,_⟩ := h; exact h.left_eq
theorem RangeV.map {r cnt : Nat} {left : Lit → Bool} (h : RangeV P K w b r n f left cnt) : MapV P K w b n f := by obtain ⟨D,h,ha⟩ := h; exact ⟨D,h.owns,ha⟩
theorem RangeV.kept {w' : World} {r cnt : Nat} {left : Lit → Bool} (h : RangeV P K w b r n f left cnt) (h1 : w'.heap[b]? = w.heap[b]?) (h2 : w'.heap[r]? = w.heap[r]?) : RangeV P K w' b r n f left cnt := by
 obtain ⟨D,⟨es,clock,since,seen,c0,hb,F,hs,hD,hr,rest⟩,ha⟩ := h
 exact ⟨D,⟨es,clock,since,seen,c0,h1.trans hb,F,hs,hD,h2.trans hr,rest⟩,ha⟩
theorem RangeV.lt {r cnt : Nat} {left : Lit → Bool} (h : RangeV P K w b r n f left cnt) : r < w.heap.size := by obtain ⟨D,h,_⟩ := h; exact h.lt
theorem RangeV.below {w' : World} {r cnt : Nat} {left : Lit → Bool} (h : RangeV P K w b r n f left cnt) (hb : Below w.heap.size w w') : RangeV P K w' b r n f left cnt := h.kept (hb.block b h.map.lt) (hb.block r h.lt)
theorem wpList_range (hg : o.guard = none) (m : Operand) (t : TypeId) (hop : o.op = Op.range t m) (e : TypeId) (hK : Keyed P K) (ht : P.underlying t = some (.map K e)) (hm : a.eval m = .map (some b)) (h : MapV P K w b n f)
  (hk : ∀ w' cnt left,RangeV P K w' b w.heap.size n f left cnt → (∀ kl,WideAt.IsKeyLit kl → left kl = (f kl).isSome) → cnt ≤ n → w.grownBy w' none → w'.heap.size = w.heap.size + 1 → wpList P ops Q rest (a.put o.dst (.pointer (some ⟨w.heap.size,0,none⟩))) w') : wpList P ops Q (o :: rest) a w := by
 obtain ⟨D,hown,ha⟩ := h
 exact wpList_range_own w hg m t hop K e hK ht vE b n D hm hown fun w' h1 h2 h3 => hk w' _ _ ⟨D,h1,ha⟩ (fun kl hkl => (ha kl hkl).1) hown.size_le h2 h3
theorem wpList_step {α : Type} (mkK : α → Value) (invK : ∀ key kl,keyOf P K key = some kl → ∃ x,key = mkK x) (hg : o.guard = none) (it : Operand) (hop : o.op = Op.next it false) (hK : Keyed P K) (r : Nat) (left : Lit → Bool) (cnt : Nat)
  (hit : a.eval it = .pointer (some ⟨r,0,none⟩)) (h : RangeV P K w b r n f left cnt)
  (hDone : (∀ kl,left kl = false) → wpList P ops Q rest (a.put o.dst (.tuple #[.bool false])) w)
  (hMore : ∀ (x : α) (c : Value) (kl : Lit) (w' : World) (cnt' : Nat),keyOf P K (mkK x) = some kl → left kl = true → f kl = some c → RangeV P K w' b r n f (fun z => left z && !z.sameKey kl) cnt' → cnt' < cnt →
   w.grownBy w' (some r) → w'.heap.size = w.heap.size → (Instr.entry (.pointer (some ⟨r,0,none⟩))).run P w' = .ok (.tuple #[mkK x,c]) w' → wpList P ops Q rest (a.put o.dst (.tuple #[.bool true,mkK x,c])) w') :
  wpList P ops Q (o :: rest) a w := by
 obtain ⟨D,hr,ha⟩ := h
 refine wpList_next_ranges w hg it hop K hK vE mkK (fun v : Value => v) invK (fun v y _ => ⟨v,rfl⟩) b r n D left cnt hit hr (fun _ h0 => hDone h0) fun x c kl y w' cnt' hkey hlk hv hat hrg hlt hgr hsz hen => ?_
 have hkl := hK.key hkey
 have hy : y.1 = .held c := by
  unfold vE at hv
  injection hv with hv
  rw [← hv]
 have hhas : Maps.has D kl = true := Maps.has_true_of_atKey hat
 have hf : f kl = some c := by
  have h1 := (ha kl hkl).1
  rw [hhas] at h1
  obtain ⟨v,hv2⟩ := Option.isSome_iff_exists.1 h1.symm
  have h2 := (ha kl hkl).2 v hv2 (.held c)
  rw [hat,hy] at h2
  injection h2 with h2
  rw [hv2,h2]
 exact hMore x c kl w' cnt' hkey hlk hf ⟨D,hrg,ha⟩ hlt hgr hsz hen
end
def fS (g : ByteArray → Option Value) : Lit → Option Value
 | .string l => g ⟨l.toArray⟩
 | _ => none
theorem ba_of {a b : ByteArray} (h : a.data.toList = b.data.toList) : a = b := by
 obtain ⟨⟨x⟩⟩ := a
 obtain ⟨⟨y⟩⟩ := b
 simp only at h
 rw [h]
theorem fS_put (g : ByteArray → Option Value) (k : ByteArray) (v : Option Value) (kl : Lit) : (if kl = .string k.data.toList then v else fS g kl) = fS (fun x => if x = k then v else g x) kl := by
 cases kl with
 | string l =>
  show _ = if (⟨l.toArray⟩ : ByteArray) = k then v else g ⟨l.toArray⟩
  by_cases h : l = k.data.toList
  ·have e : (⟨l.toArray⟩ : ByteArray) = k := ba_of (by simp [h])
   rw [if_pos (by rw [h]),if_pos e]
  ·rw [if_neg (fun e => h (by injection e)),if_neg (fun e => h (by rw [← e]))]; rfl
 | _ => exact if_neg (fun e => by cases e)
def fI (g : Int → Option Value) : Lit → Option Value
 | .int .i64 n => g n
 | _ => none
theorem fI_put (g : Int → Option Value) (k : Int) (v : Option Value) (kl : Lit) : (if kl = .int .i64 k then v else fI g kl) = fI (fun x => if x = k then v else g x) kl := by
 cases kl with
 | int q n =>
  cases q with
  | i64 =>
   show _ = if n = k then v else g n
   by_cases h : n = k
   ·subst h; rw [if_pos rfl,if_pos rfl]
   ·rw [if_neg (fun e => h (by injection e)),if_neg h]; rfl
  | _ => exact if_neg (fun e => by cases e)
 | _ => exact if_neg (fun e => by cases e)
end Go.Proofs.YtjmmninopagpjaaGreatDoor.MV
namespace Go.Proofs.YtjmmninopagpjaaGreatDoor
open Go.ChangeShapes Go.WideShapes Go.ChangeAt Go.RowKit
set_option maxRecDepth 100000
set_option linter.unusedVariables false
set_option linter.unusedSimpArgs false

theorem infoRow : (Tryz.prog.info? 65).map (fun i => (i.zero,i.size,i.bytes)) = some (some (.agg #[.int .i64 0,.int .i64 0]),2,16) := by kernel_rfl
theorem infoTab : (Tryz.prog.info? 63).map (fun i => (i.zero,i.size,i.bytes)) = some (some (.agg #[.string ByteArray.empty,.slice none 0 0]),2,40) := by kernel_rfl
theorem iRow : ∃ i,Tryz.prog.info? 65 = some i ∧ i.zero = some (.agg #[.int .i64 0,.int .i64 0]) ∧ i.size = 2 ∧ i.bytes = 16 := by
 have h := infoRow
 cases e : Tryz.prog.info? 65 with
 | none => rw [e] at h; cases h
 | some i =>
  rw [e] at h
  simp only [Option.map_some,Option.some.injEq,Prod.mk.injEq] at h
  exact ⟨i,rfl,h.1,h.2.1,h.2.2⟩
theorem iTab : ∃ i,Tryz.prog.info? 63 = some i ∧ i.zero = some (.agg #[.string ByteArray.empty,.slice none 0 0]) ∧ i.size = 2 ∧ i.bytes = 40 := by
 have h := infoTab
 cases e : Tryz.prog.info? 63 with
 | none => rw [e] at h; cases h
 | some i =>
  rw [e] at h
  simp only [Option.map_some,Option.some.injEq,Prod.mk.injEq] at h
  exact ⟨i,rfl,h.1,h.2.1,h.2.2⟩
theorem undRow : Tryz.prog.underlying 39 = some (.slice 65) := Tryz.underlying39
theorem undTab : Tryz.prog.underlying 22 = some (.slice 63) := Tryz.underlying22
def CK (w : World) (x : Nat) (kb : Bool) (K : Int) : Prop := w.cell? ⟨x,4,none⟩ = some (.bool kb) ∧ w.cell? ⟨x,2,none⟩ = some (.int .i64 K)
theorem CK.below {w w' : World} {x : Nat} {kb : Bool} {K : Int} {B : Nat} (h : CK w x kb K) (hb : Below B w w') (hx : x < B) : CK w' x kb K :=
 ⟨(hb.cell (p := ⟨x,4,none⟩) hx).trans h.1,(hb.cell (p := ⟨x,2,none⟩) hx).trans h.2⟩
theorem CK.lt {w : World} {x : Nat} {kb : Bool} {K : Int} (h : CK w x kb K) : x < w.heap.size := World.block_lt_of_cell? w _ h.1
theorem meant_any (r0 r1 : Int) (x : Nat) (kb : Bool) (K : Int) (w : World) (h : CK w x kb K) :
  Calls Tryz.prog 79 #[.agg #[.int .i64 r0,.int .i64 r1],.pointer (some ⟨x,0,none⟩)] w fun e w' => e = .returned (.bool (meantB kb K (r0,r1))) ∧ Below w.heap.size w w' := by
 have hb := (Below.refl w.heap.size w).alloc (Nat.le_refl _) (.cells #[.int .i64 r0,.int .i64 r1] 65)
 have HB := Lib.hid hb
 obtain ⟨c4,c2⟩ := h.below hb h.lt
 obtain ⟨Q,hQ⟩ : ∃ Q,meantB kb K (r0,r1) = Q := ⟨_,rfl⟩
 rw [hQ]
 unfold meantB at hQ
 have HQ := Lib.hid hQ
 clear hQ hb h
 cases kb with
 | false =>
  have : Q = true := by rw [← HQ.out]; rfl
  subst this
  go_enter Tryz.func79,Tryz.ntmps79
  go_wp2
  go_ret
  exact ⟨rfl,HB.out⟩
 | true =>
  go_enter Tryz.func79,Tryz.ntmps79
  go_wp2
  go_ret
  exact ⟨by rw [← HQ.out]; rfl,HB.out⟩
theorem get_snoc (kb : Bool) (K : Int) {l : List Rw} {i : Nat} {r : Rw} (h : l[i]? = some r) : getR kb K (l.take (i + 1)) = if meantB kb K r = true then getR kb K (l.take i) ++ [r] else getR kb K (l.take i) := by
 obtain ⟨hi,he⟩ := List.getElem?_eq_some_iff.1 h
 unfold getR
 rw [List.take_add_one,h,Option.toList_some,List.filter_append,List.filter_cons]
 split
 ·rfl
 ·rw [List.filter_nil,List.append_nil]
theorem one_row {w : World} {B : Nat} {r0 r1 : Int} (hb : w.heap[B]? = some (.cells #[.int .i64 r0,.int .i64 r1] 65 (0,0))) : ∀ (j : Nat) (u : Value),(rcs [(r0,r1)])[j]? = some u → w.cell? ((⟨B,0,none⟩ : Addr).add j) = some u :=
 World.news_of_block hb
set_option maxHeartbeats 4000000 in
theorem chosen_any (v : Value) (l : List Rw) (x : Nat) (kb : Bool) (K : Int) (w : World) (h : RR w v l) (hc : CK w x kb K) (hl : l.length ≤ 1000000) :
  Calls Tryz.prog 80 #[v,.func (.func 79) #[] #[.pointer (some ⟨x,0,none⟩)]] w fun e w' => ∃ v',e = .returned v' ∧ OR w.heap.size w' v' (getR kb K l) ∧ Below w.heap.size w w' := by
 obtain ⟨a,cap,rfl⟩ := h.form
 obtain ⟨i30,hi30,hz30,hs30,hb30⟩ := iRow
 have und30 := undRow
 have HH := Lib.hid h
 have HC := Lib.hid hc
 have HX := Lib.hid hc.lt
 have HL := Lib.hid hl
 clear h hc hl
 have henter : ∀ args w,(callFunc 79 args).run Tryz.prog w = .ok (.enter 79 args) w := fun args w => by show Sem.run Tryz.prog (callFunc 79 args) w = _; go_simp
 go_enter Tryz.func80,Tryz.ntmps80
 go_wp2
 go_loopg [5,10] l.length (fun gk u5 u10 wx => ∃ i : Nat,u10 = .int .i64 (i : Int) ∧ i + gk = l.length ∧ Below w.heap.size w wx ∧ OR w.heap.size wx u5 (getR kb K (l.take i)))
 case atStart => exact ⟨0,rfl,by omega,Below.refl _ _,World.ownsRow_nil _ _ _ _⟩
 case round =>
  obtain ⟨i,rfl,hi,hB,hO⟩ := hrel
  have HB := Lib.hid hB
  have HI := Lib.hid hi
  have HO := Lib.hid hO
  cases gk with
  | zero =>
   have l1 : ¬ ((i : Int) < (l.length : Int)) := by omega
   have he : l.take i = l := List.take_of_length_le (by omega)
   have HE := Lib.hid he
   clear hB hi hO he
   go_wp2
   go_ret
   exact ⟨_,rfl,by have := HO.out; rw [HE.out] at this; exact this,HB.out⟩
  | succ gk =>
   have hlt : i < l.length := by omega
   have hRR := HH.out.below hB
   obtain ⟨b,o,cp,he,hcp,hx⟩ := hRR.inv (by omega)
   injection he with ea _ ec
   subst ea ec
   obtain ⟨r,hr0⟩ : ∃ r,l[i] = r := ⟨_,rfl⟩
   have hri : l[i]? = some r := by rw [List.getElem?_eq_getElem hlt,hr0]
   obtain ⟨x0,x1⟩ := hx i r hri
   have hsn := get_snoc kb K hri
   have l0 : (0 : Int) ≤ (i : Int) := by omega
   have l1 : (i : Int) < (l.length : Int) := by omega
   obtain ⟨i1,hi1⟩ : ∃ i1,i + 1 = i1 := ⟨_,rfl⟩
   have wk : IntKind.i64.wrap ((i : Int) + 1) = (i1 : Int) := by rw [show (i : Int) + 1 = (i1 : Int) by omega]; exact IntWalk.i64_in _ (by have := HL.out; omega)
   have HI1 := Lib.hid hi1
   rw [hi1] at hsn
   obtain ⟨r0,r1⟩ := r
   obtain ⟨Q,hQ⟩ : ∃ Q,meantB kb K (r0,r1) = Q := ⟨_,rfl⟩
   obtain ⟨L,hL⟩ : ∃ L,getR kb K (l.take i) = L := ⟨_,rfl⟩
   have hLl : L.length ≤ 1000000 := by
    rw [← hL]
    have h1 := List.length_filter_le (meantB kb K) (l.take i)
    have h2 : (l.take i).length ≤ l.length := by rw [List.length_take]; omega
    have h3 := HL.out
    show (List.filter _ _).length ≤ _
    omega
   have HLL := Lib.hid hLl
   rw [hQ,hL] at hsn
   rw [hL] at HO
   have hbA : Below w.heap.size w (wr.alloc (.cells #[.int .i64 r0,.int .i64 r1] 65)) := hB.alloc hB.size _
   have HBA := Lib.hid hbA
   have hOA : OR w.heap.size (wr.alloc (.cells #[.int .i64 r0,.int .i64 r1] 65)) u5 L := HO.out.alloc _
   have HOA := Lib.hid hOA
   have HM := Lib.hid (meant_any r0 r1 x kb K _ (HC.out.below hbA HX.out))
   rw [hQ] at HM
   have HSN := Lib.hid hsn
   have hblk : Blk (wr.alloc (.cells #[.int .i64 r0,.int .i64 r1] 65)) wr.heap.size 65 #[.int .i64 r0,.int .i64 r1] := Blk.new _ _ _
   have HK := Lib.hid hblk
   clear hB hi hRR hx hr0 hri hi1 hlt hQ hL hsn hbA hOA hO hLl hblk
   cases Q with
   | false =>
    go_wp2_with (go_at_call 79; (refine HM.out.mono ?_); rintro e w2 ⟨rfl,hb2⟩; have HB2 := Lib.hid (HBA.out.trans (hb2.mono HBA.out.size)); have HO2 := Lib.hid (own_below HOA.out hb2); clear hb2)
    go_roundg gk
    case measure => exact Nat.lt_succ_self _
    case rel => exact ⟨i1,rfl,by have := HI1.out; have := HI.out; omega,HB2.out,by have := HSN.out; rw [if_neg (by decide)] at this; rw [this]; exact HO2.out⟩
   | true =>
    go_wp2_with (first
     | (go_at_call 79; (refine HM.out.mono ?_); rintro e w2 ⟨rfl,hb2⟩; have HB2 := Lib.hid (HBA.out.trans (hb2.mono HBA.out.size)); have HO2 := Lib.hid (own_below HOA.out hb2); have hk2 := HK.out.below hb2 HK.out.lt; have y0 : w2.cell? ⟨wr.heap.size,0,none⟩ = some (.int .i64 r0) := hk2.cell 0; have y1 : w2.cell? ⟨wr.heap.size,1,none⟩ = some (.int .i64 r1) := hk2.cell 1; clear hb2 hk2)
     | (at_builtin; refine wpList_append_lies _ rfl _ _ 39 rfl w.heap.size 65 i30 (.agg #[.int .i64 0,.int .i64 0]) 2 16 und30 hi30 hz30 hs30 hb30 rfl (by decide) u5 L.length (rcs L) rfl (HO2.out.alloc _) ⟨w2.heap.size,0,none⟩ 1 1 (rcs [(r0,r1)]) rfl rfl ?c1 ?c2 (by decide) ?c3 ?c4 ?c5 _ rfl ?_))
    all_goals first
     | exact one_row (heap_alloc_new _ _)
     | exact rcs_one _
     | (have := HLL.out; unfold maxLen; omega)
     | (have := HLL.out; omega)
     | (have := HB2.out.size; simp; omega)
     | skip
    intro g9 cap9 w9 hown9 hgr9 hat9 hlt9
    have hown8 : OR w.heap.size w9 (.slice (some ⟨g9,0,none⟩) (L.length + 1) cap9) (L ++ [(r0,r1)]) := by
     unfold OR
     rw [rcs_append,List.length_append]
     exact hown9
    have hbel9 := (HB2.out.alloc HB2.out.size (.cells #[.int .i64 r0,.int .i64 r1] 65)).grown hgr9 (by have := HB2.out.size; simp; omega) (fun k hk => (HO2.out.lt k hk).1)
    have HO9 := Lib.hid hown8
    have HB9 := Lib.hid hbel9
    clear hown9 hown8 hgr9 hat9 hbel9
    go_wp2
    go_roundg gk
    case measure => exact Nat.lt_succ_self _
    case rel => exact ⟨i1,rfl,by have := HI1.out; have := HI.out; omega,HB9.out,by have := HSN.out; simp only [if_true] at this; rw [this]; exact HO9.out⟩

theorem fl_rep (a b : Value) (k : Nat) : ∀ j,j < k * 2 → (fl (List.replicate k (a,b)))[j]? = some (if j % 2 = 0 then a else b) := by
 intro j hj
 have h := fl_at (List.replicate k (a,b)) (j / 2) (a,b) (by rw [List.getElem?_replicate,if_pos (by omega)])
 rcases (show j % 2 = 0 ∨ j % 2 = 1 by omega) with e | e
 ·rw [if_pos e]
  have := h.1
  rw [show j / 2 * 2 = j by omega] at this; exact this
 ·rw [if_neg (by omega)]
  have := h.2
  rw [show j / 2 * 2 + 1 = j by omega] at this; exact this
theorem zero2 (a b : Value) (k : Nat) : (Builtin.zeroCells #[a,b] k).toList = fl (List.replicate k (a,b)) := by
 apply List.ext_getElem?
 intro j
 by_cases hj : j < k * 2
 ·rw [fl_rep a b k j hj]
  rcases (show j % 2 = 0 ∨ j % 2 = 1 by omega) with e | e <;> simp [Builtin.zeroCells,hj,e]
 ·have e2 : (fl (List.replicate k (a,b)))[j]? = none := by
   rw [List.getElem?_eq_none_iff,fl_len,List.length_replicate]; omega
  rw [e2]
  simp [Builtin.zeroCells]; omega
theorem made2 (a b : Value) (k : Nat) : (madeCells #[a,b] (k * 2)).toList = fl (List.replicate k (a,b)) := by
 apply List.ext_getElem?
 intro j
 by_cases hj : j < k * 2
 ·rw [fl_rep a b k j hj]
  rcases (show j % 2 = 0 ∨ j % 2 = 1 by omega) with e | e <;> simp [madeCells,hj,e]
 ·have e2 : (fl (List.replicate k (a,b)))[j]? = none := by
   rw [List.getElem?_eq_none_iff,fl_len,List.length_replicate]; omega
  rw [e2]
  simp [madeCells]; omega
theorem take_splice {α : Type} (L : List α) (o N : Nat) (cs : List α) (h1 : o + cs.length ≤ N) (h2 : N ≤ L.length) : (L.take o ++ cs ++ L.drop (o + cs.length)).take N = splice (L.take N) o cs := by
 unfold splice
 apply List.ext_getElem?
 intro j
 rw [List.getElem?_take]
 have hlo : (L.take o).length = o := by rw [List.length_take]; omega
 have hlo2 : ((L.take N).take o).length = o := by rw [List.length_take,List.length_take]; omega
 by_cases hj : j < N
 ·rw [if_pos hj,List.append_assoc,List.getElem?_append (l₁ := L.take o),List.getElem?_append (l₁ := (L.take N).take o),hlo,hlo2]
  by_cases h3 : j < o
  ·rw [if_pos h3,if_pos h3,List.getElem?_take,if_pos h3,List.getElem?_take,if_pos h3,List.getElem?_take,if_pos hj]
  ·rw [if_neg h3,if_neg h3,List.getElem?_append,List.getElem?_append]
   by_cases h4 : j - o < cs.length
   ·rw [if_pos h4,if_pos h4]
   ·rw [if_neg h4,if_neg h4,List.getElem?_drop,List.getElem?_drop,List.getElem?_take,if_pos (by omega)]
 ·rw [if_neg hj]
  symm
  rw [List.getElem?_eq_none_iff,List.length_append,List.length_append,hlo2,List.length_drop,List.length_take]; omega
section
variable {P : Program} {w : World} {B g n cap z : Nat} {e : TypeId} {xs : List Value}
theorem run_store_own (h : w.ownsRow B e z (.slice (some ⟨g,0,none⟩) n cap) n xs) (o : Nat) (cs : List Value) (hfit : o + cs.length ≤ n * z) (h1 : ∀ v ∈ cs,v.oneCell' = true) :
  ∃ w',(storeCells ⟨g,o,none⟩ cs).run P w = .ok () w' ∧ w'.ownsRow B e z (.slice (some ⟨g,0,none⟩) n cap) n (splice xs o cs) ∧ w.grownBy w' (some g) := by
 rcases h.2 with ⟨h',_⟩ | ⟨g',cap',cur,h',hb,hg,hnc,hcm,hcs,htake⟩
 ·simp at h'
 ·simp only [Value.slice.injEq,Option.some.injEq,Addr.mk.injEq,and_true,true_and] at h'
  obtain ⟨rfl,rfl⟩ := h'
  have hN : n * z ≤ cur.toList.length := by rw [Array.length_toList,hcs]; exact Nat.mul_le_mul_right _ hnc
  have hst := run_storeCells_at P g o e cs 0 cur w hg (by rw [Array.length_toList] at hN; omega) h1
  simp only [Nat.add_zero] at hst
  have hl : (splice xs o cs).length = n * z := by rw [length_splice _ _ _ (by rw [h.1]; exact hfit),h.1]
  refine ⟨_,hst,⟨hl,.inr ⟨g,cap,_,rfl,hb,setRow_heap w g cur _ e _ hg,hnc,hcm,?_,?_⟩⟩,⟨rfl,rfl,rfl,by simp,fun k _ hk => setRow_other w g k _ (fun e => hk (by simp [e]))⟩⟩
  ·simp only [List.size_toArray,List.length_append,List.length_take,List.length_drop,Array.length_toList]
   rw [Array.length_toList] at hN
   omega
  ·rw [show (cur.toList.take o ++ cs ++ cur.toList.drop (o + cs.length)).toArray.toList = cur.toList.take o ++ cs ++ cur.toList.drop (o + cs.length) from rfl,take_splice _ _ _ _ hfit hN,htake]
theorem own_cut (h : w.ownsRow B e z (.slice (some ⟨g,0,none⟩) n cap) n xs) (k : Nat) (hk : k ≤ n) : w.ownsRow B e z (.slice (some ⟨g,0,none⟩) k cap) k (xs.take (k * z)) := by
 rcases h.2 with ⟨h',_⟩ | ⟨g',cap',cur,h',hb,hg,hnc,hcm,hcs,htake⟩
 ·simp at h'
 ·simp only [Value.slice.injEq,Option.some.injEq,Addr.mk.injEq,and_true,true_and] at h'
  obtain ⟨rfl,rfl⟩ := h'
  have hkz : k * z ≤ n * z := Nat.mul_le_mul_right _ hk
  refine ⟨by rw [List.length_take,h.1]; omega,.inr ⟨g,cap,cur,rfl,hb,hg,by omega,hcm,hcs,?_⟩⟩
  rw [← htake,List.take_take]
  congr 1; omega
theorem run_clear2 (t ty : TypeId) (i : TypeInfo) (a b : Value) (ht : P.underlying t = some (.slice e)) (hi : P.info? e = some i) (hz : i.zero = some (.agg #[a,b])) (h1 : a.oneCell' = true) (h2 : b.oneCell' = true)
  (h : w.ownsRow B e 2 (.slice (some ⟨g,0,none⟩) n cap) n xs) (k c : Nat) (hk : k < n) :
  ∃ w',(Builtin.clear_ #[t] ty #[.slice (some ⟨g,k * 2,none⟩) (n - k) c]).run P w = .ok (.tuple #[]) w' ∧ w'.ownsRow B e 2 (.slice (some ⟨g,0,none⟩) n cap) n (splice xs (k * 2) (fl (List.replicate (n - k) (a,b)))) ∧ w.grownBy w' (some g) := by
 have hone : ∀ v ∈ fl (List.replicate (n - k) (a,b)),v.oneCell' = true := fl_all _ _ fun p hp => by
  rw [List.eq_of_mem_replicate hp]; exact ⟨h1,h2⟩
 obtain ⟨w',hs,ho,hg⟩ := run_store_own (P := P) h (k * 2) (fl (List.replicate (n - k) (a,b))) (by rw [fl_len,List.length_replicate]; omega) hone
 refine ⟨w',?_,ho,hg⟩
 obtain ⟨m,hm⟩ : ∃ m,n - k = m + 1 := ⟨n - k - 1,by omega⟩
 rw [hm] at hs ⊢
 have hzc := zero2 a b (m + 1)
 have hzc2 : (Builtin.zeroCells (Value.agg #[a,b]).cells (m + 1)).toList = fl (List.replicate (m + 1) (a,b)) := hzc
 simp [Builtin.clear_,run_underlying ht,zeroValue,typeInfo,hi,hz,hzc2,hs]
theorem run_copy2 (dT sT ty : TypeId) (i : TypeInfo) (ht : P.underlying dT = some (.slice e)) (hi : P.info? e = some i) (hsz : i.size = z)
  (h : w.ownsRow B e z (.slice (some ⟨g,0,none⟩) n cap) n xs) (o dLen dCap : Nat) (sp : Option Addr) (sLen sCap : Nat) (cs : List Value) (hl : cs.length = Nat.min sLen dLen * z)
  (hsrc : 0 < Nat.min sLen dLen → ∃ ad,sp = some ad ∧ ∀ j v,cs[j]? = some v → w.cell? (ad.add j) = some v) (hfit : o + cs.length ≤ n * z) (h1 : ∀ v ∈ cs,v.oneCell' = true) :
  ∃ w',(Builtin.copy_ #[dT,sT] ty #[.slice (some ⟨g,o,none⟩) dLen dCap,.slice sp sLen sCap]).run P w = .ok (goInt (Nat.min sLen dLen)) w' ∧ w'.ownsRow B e z (.slice (some ⟨g,0,none⟩) n cap) n (splice xs o cs) ∧ w.grownBy w' (some g) := by
 obtain ⟨w',hs,ho,hg⟩ := run_store_own (P := P) h o cs hfit h1
 refine ⟨w',?_,ho,hg⟩
 have hf : (Builtin.firstCells z (Nat.min sLen dLen) (.slice sp sLen sCap)).run P w = .ok cs.toArray w := by
  by_cases h0 : 0 < Nat.min sLen dLen
  ·obtain ⟨ad,rfl,hc⟩ := hsrc h0
   exact run_firstCells_some w z _ ad sLen sCap cs hl hc
  ·have e0 : Nat.min sLen dLen = 0 := by omega
   rw [e0,Nat.zero_mul] at hl
   have : cs = [] := List.eq_nil_of_length_eq_zero hl
   subst this
   rw [e0]
   cases sp with
   | none => exact run_firstCells_none w z 0 sLen sCap
   | some ad => exact run_firstCells_some w z 0 ad sLen sCap [] (by simp) (fun j v hj => by simp at hj)
 subst hsz
 simp [Builtin.copy_,run_underlying ht,Builtin.lenOf,sizeOf,typeInfo,hi,hf,hs]
theorem wpList_copy2 {ops : Array Oper} {rest : List Oper} {o : Oper} {a : Act} {Q : Exit → Act → World → Prop} (hgd : o.guard = none) (d s : Operand) (dT sT : TypeId)
  (ho : o.op = .call { callee := .builtin .copy,args := #[d,s],argTypes := #[dT,sT] }) (i : TypeInfo) (ht : P.underlying dT = some (.slice e)) (hi : P.info? e = some i) (hsz : i.size = z)
  (off dLen dCap : Nat) (sp : Option Addr) (sLen sCap : Nat) (hd : a.eval d = .slice (some ⟨g,off,none⟩) dLen dCap) (hs : a.eval s = .slice sp sLen sCap)
  (h : w.ownsRow B e z (.slice (some ⟨g,0,none⟩) n cap) n xs) (cs : List Value) (hl : cs.length = Nat.min sLen dLen * z)
  (hsrc : 0 < Nat.min sLen dLen → ∃ ad,sp = some ad ∧ ∀ j v,cs[j]? = some v → w.cell? (ad.add j) = some v) (hfit : off + cs.length ≤ n * z) (h1 : ∀ v ∈ cs,v.oneCell' = true)
  (hk : ∀ w',w'.ownsRow B e z (.slice (some ⟨g,0,none⟩) n cap) n (splice xs off cs) → w.grownBy w' (some g) → wpList P ops Q rest (a.put o.dst (goInt (Nat.min sLen dLen))) w') : wpList P ops Q (o :: rest) a w := by
 refine wpList_plain hgd fun K hK => ?_
 obtain ⟨w',hr,h2,h3⟩ := run_copy2 (P := P) dT sT o.type i ht hi hsz h off dLen dCap sp sLen sCap cs hl hsrc hfit h1
 unfold Oper.wp
 simp [execOp,ho,resolve,invoke,builtin,hd,hs,hr,Result.andThen]
 exact hK _ _ (hk w' h2 h3)
theorem step_copy2 {ops : Array Oper} {o : Oper} {a : Act} {K : Act → World → Prop} {Q : Exit → Act → World → Prop} {E : Prop} (hgd : o.guard = none) (d s : Operand) (dT sT : TypeId)
  (ho : o.op = .call { callee := .builtin .copy,args := #[d,s],argTypes := #[dT,sT] }) (i : TypeInfo) (ht : P.underlying dT = some (.slice e)) (hi : P.info? e = some i) (hsz : i.size = z)
  (off dLen dCap : Nat) (sp : Option Addr) (sLen sCap : Nat) (hd : a.eval d = .slice (some ⟨g,off,none⟩) dLen dCap) (hs : a.eval s = .slice sp sLen sCap)
  (h : w.ownsRow B e z (.slice (some ⟨g,0,none⟩) n cap) n xs) (cs : List Value) (hl : cs.length = Nat.min sLen dLen * z)
  (hsrc : 0 < Nat.min sLen dLen → ∃ ad,sp = some ad ∧ ∀ j v,cs[j]? = some v → w.cell? (ad.add j) = some v) (hfit : off + cs.length ≤ n * z) (h1 : ∀ v ∈ cs,v.oneCell' = true)
  (hk : ∀ w',w'.ownsRow B e z (.slice (some ⟨g,0,none⟩) n cap) n (splice xs off cs) → w.grownBy w' (some g) → K (a.put o.dst (goInt (Nat.min sLen dLen))) w') :
  if Region.wanted o (yielded ops a.tmps) = true then Oper.wp P o a w K Q else E := by
 have hw : Region.wanted o (yielded ops a.tmps) = true := by simp [Region.wanted,hgd]
 rw [if_pos hw]
 obtain ⟨w',hr,h2,h3⟩ := run_copy2 (P := P) dT sT o.type i ht hi hsz h off dLen dCap sp sLen sCap cs hl hsrc hfit h1
 unfold Oper.wp
 simp [execOp,ho,resolve,invoke,builtin,hd,hs,hr,Result.andThen]
 exact hk w' h2 h3
theorem wpList_clear2 {ops : Array Oper} {rest : List Oper} {o : Oper} {x : Act} {Q : Exit → Act → World → Prop} (hgd : o.guard = none) (s : Operand) (t : TypeId)
  (ho : o.op = .call { callee := .builtin .clear,args := #[s],argTypes := #[t] }) (i : TypeInfo) (a b : Value) (ht : P.underlying t = some (.slice e)) (hi : P.info? e = some i) (hz : i.zero = some (.agg #[a,b])) (h1 : a.oneCell' = true) (h2 : b.oneCell' = true)
  (k c : Nat) (hs : x.eval s = .slice (some ⟨g,k * 2,none⟩) (n - k) c) (h : w.ownsRow B e 2 (.slice (some ⟨g,0,none⟩) n cap) n xs) (hk : k < n)
  (hq : ∀ w',w'.ownsRow B e 2 (.slice (some ⟨g,0,none⟩) n cap) n (splice xs (k * 2) (fl (List.replicate (n - k) (a,b)))) → w.grownBy w' (some g) → wpList P ops Q rest (x.put o.dst (.tuple #[])) w') : wpList P ops Q (o :: rest) x w := by
 refine wpList_plain hgd fun K hK => ?_
 obtain ⟨w',hr,h3,h4⟩ := run_clear2 (P := P) t o.type i a b ht hi hz h1 h2 h k c hk
 unfold Oper.wp
 simp [execOp,ho,resolve,invoke,builtin,hs,hr,Result.andThen]
 exact hK _ _ (hq w' h3 h4)
theorem run_app_zeros (t tn ty : TypeId) (i : TypeInfo) (a b : Value) (bytes : Nat) (kq kn : IntKind) (ht : P.underlying t = some (.slice e)) (htn : P.underlying tn = some (.int kn)) (hi : P.info? e = some i) (hz : i.zero = some (.agg #[a,b])) (hsz : i.size = 2) (hby : i.bytes = bytes)
  (base : Option Addr) (m sCap : Nat) (olds : List Value) (hol : olds.length = m * 2) (hold : 0 < m → ∃ ad,base = some ad ∧ ∀ j v,olds[j]? = some v → w.cell? (ad.add j) = some v)
  (k : Nat) (h0 : 0 < k) (hg : sCap < m + k) (hb : B ≤ w.heap.size) (h48 : (m + k) * bytes ≤ 140737488355328) (h63 : m + k ≤ maxLen) :
  ∃ c w',(Builtin.append_ #[t,tn] ty #[.slice base m sCap,.int kq k]).run P w = .ok (.slice (some ⟨w.heap.size,0,none⟩) (m + k) c) w' ∧
   w'.ownsRow B e 2 (.slice (some ⟨w.heap.size,0,none⟩) (m + k) c) (m + k) (olds ++ fl (List.replicate k (a,b))) ∧ w.grownBy w' none := by
 have hf : (Builtin.firstCells i.size m (.slice base m sCap)).run P w.drew = .ok olds.toArray w.drew := by
  rw [hsz]
  by_cases hm : 0 < m
  ·obtain ⟨ad,rfl,hc⟩ := hold hm
   exact run_firstCells_some w.drew 2 m ad m sCap olds hol hc
  ·have : m = 0 := by omega
   subst this
   have : olds = [] := List.eq_nil_of_length_eq_zero (by simpa using hol)
   subst this
   cases base with
   | none => exact run_firstCells_none w.drew 2 0 0 sCap
   | some ad => exact run_firstCells_some w.drew 2 0 ad 0 sCap [] (by simp) (fun j v hj => by simp at hj)
 have hmk : k * bytes ≤ (m + k) * bytes := Nat.mul_le_mul_right _ (by omega)
 have hr := Lib.run_append_grow_zeros w t tn ty e i (.agg #[a,b]) kq kn ht htn hi hz base m sCap olds hf k h0 (by omega) hg (by unfold maxLen at h63; omega) (by rw [hby]; omega) (by rw [hby]; exact growslice_fits hg h48)
 refine ⟨_,_,hr,?_,?_⟩
 ·have e1 : (Value.agg #[a,b]).cells = #[a,b] := rfl
  rw [e1]
  have hcl : m + k ≤ grownCap w (m + k) sCap e := grownCap_ge w _ _ _
  have hs2 : ∀ q,(Builtin.zeroCells #[a,b] q).size = q * 2 := fun q => size_zeroCells _ _
  refine ⟨by rw [List.length_append,hol,fl_len,List.length_replicate]; omega,.inr ⟨w.heap.size,_,(olds.toArray ++ Builtin.zeroCells #[a,b] k ++ Builtin.zeroCells #[a,b] (grownCap w (m + k) sCap e - (m + k))),rfl,hb,?_,hcl,grownCap_le_maxLen w _ _ _ h63,?_,?_⟩⟩
  ·exact heap_alloc_new w.drew _
  ·rw [Array.size_append,Array.size_append,hs2,hs2,List.size_toArray,hol]; omega
  ·rw [Array.toList_append,Array.toList_append,zero2,List.take_append_of_le_length (by rw [List.length_append,fl_len,List.length_replicate,hol]; omega),List.take_of_length_le (by rw [List.length_append,fl_len,List.length_replicate,hol]; omega)]
 ·have G := World.grownBy_alloc w.drew (.cells (olds.toArray ++ Builtin.zeroCells (Value.agg #[a,b]).cells k ++ Builtin.zeroCells (Value.agg #[a,b]).cells (grownCap w (m + k) sCap e - (m + k))) e) none
  exact ⟨G.os,G.tape,G.output,G.size,fun j hj hn => G.block j hj hn⟩
end

def idxM (kb : Bool) (K : Int) : List Rw → Nat → Int
 | [],_ => -1
 | r :: t,i => if meantB kb K r = true then (i : Int) else idxM kb K t (i + 1)
theorem idx_some (kb : Bool) (K : Int) : ∀ (l : List Rw) (i : Nat),(idxM kb K l i = -1 ∧ ∀ r ∈ l,meantB kb K r = false) ∨ ∃ k r,idxM kb K l i = ((i + k : Nat) : Int) ∧ l[k]? = some r ∧ meantB kb K r = true ∧ ∀ x ∈ l.take k,meantB kb K x = false
 | [],i => .inl ⟨rfl,fun r h => by simp at h⟩
 | r :: t,i => by
  rw [idxM]
  by_cases h : meantB kb K r = true
  ·rw [if_pos h]; exact .inr ⟨0,r,by simp,rfl,h,fun x hx => by simp at hx⟩
  ·rw [if_neg h]
   have h0 : meantB kb K r = false := by simpa using h
   rcases idx_some kb K t (i + 1) with ⟨h1,h2⟩ | ⟨k,u,h1,h2,h3,h4⟩
   ·refine .inl ⟨h1,fun x hx => ?_⟩
    rcases List.mem_cons.1 hx with rfl | hx
    ·exact h0
    ·exact h2 x hx
   ·refine .inr ⟨k + 1,u,by rw [h1]; congr 1; omega,by simpa using h2,h3,fun x hx => ?_⟩
    rw [List.take_succ_cons] at hx
    rcases List.mem_cons.1 hx with rfl | hx
    ·exact h0
    ·exact h4 x hx
theorem del_none {kb : Bool} {K : Int} {l : List Rw} (h : ∀ r ∈ l,meantB kb K r = false) : delR kb K l = l := by
 unfold delR
 rw [List.filter_eq_self]
 intro a ha
 rw [h a ha]; rfl
theorem del_snoc (kb : Bool) (K : Int) {l : List Rw} {i : Nat} {r : Rw} (h : l[i]? = some r) : delR kb K (l.take (i + 1)) = if meantB kb K r = true then delR kb K (l.take i) else delR kb K (l.take i) ++ [r] := by
 unfold delR
 rw [List.take_add_one,h,Option.toList_some,List.filter_append,List.filter_cons]
 cases meantB kb K r <;> simp
set_option maxHeartbeats 2000000 in
theorem ridx_any (v : Value) (l : List Rw) (x : Nat) (kb : Bool) (K : Int) (w : World) (h : RR w v l) (hc : CK w x kb K) (hs : l.length ≤ 1000000) :
  Calls Tryz.prog 105 #[v,.func (.func 79) #[] #[.pointer (some ⟨x,0,none⟩)]] w fun e w' => e = .returned (.int .i64 (idxM kb K l 0)) ∧ Below w.heap.size w w' := by
 obtain ⟨R,hR⟩ : ∃ R,idxM kb K l 0 = R := ⟨_,rfl⟩
 rw [hR]
 obtain ⟨a,cap,rfl⟩ := h.form
 have HH := Lib.hid h
 have HR := Lib.hid hR
 have HC := Lib.hid hc
 have HX := Lib.hid hc.lt
 have HS := Lib.hid hs
 have henter : ∀ args w,(callFunc 79 args).run Tryz.prog w = .ok (.enter 79 args) w := fun args w => by show Sem.run Tryz.prog (callFunc 79 args) w = _; go_simp
 clear h hR hc hs
 go_enter Tryz.func105,Tryz.ntmps105
 go_wp2
 go_loopg [8] l.length (fun gk u8 wx => ∃ i : Nat,u8 = .int .i64 (i : Int) ∧ i + gk = l.length ∧ Below w.heap.size w wx ∧ idxM kb K (l.drop i) i = R)
 case atStart => exact ⟨0,rfl,by omega,Below.refl _ _,HR.out⟩
 case round =>
  obtain ⟨i,rfl,hi,hB,hr⟩ := hrel
  have HB := Lib.hid hB
  have HI := Lib.hid hi
  cases gk with
  | zero =>
   have l1 : ¬ ((i : Int) < (l.length : Int)) := by omega
   have hR : R = -1 := by rw [← hr,List.drop_of_length_le (by omega)]; rfl
   subst hR
   clear hB hi hr
   go_wp2
   go_ret
   exact ⟨rfl,HB.out⟩
  | succ gk =>
   have hlt : i < l.length := by omega
   have hRR := HH.out.below hB
   obtain ⟨b,o,cp,he,hcp,hx⟩ := hRR.inv (by omega)
   injection he with ea _ ec
   subst ea ec
   obtain ⟨t,ht0⟩ : ∃ t,l[i] = t := ⟨_,rfl⟩
   obtain ⟨x0,x1⟩ := hx i t (by rw [List.getElem?_eq_getElem hlt,ht0])
   have l0 : (0 : Int) ≤ (i : Int) := by omega
   have l1 : (i : Int) < (l.length : Int) := by omega
   obtain ⟨i1,hi1⟩ : ∃ i1,i + 1 = i1 := ⟨_,rfl⟩
   have wk : IntKind.i64.wrap ((i : Int) + 1) = (i1 : Int) := by rw [show (i : Int) + 1 = (i1 : Int) by omega]; exact IntWalk.i64_in _ (by have := HS.out; omega)
   have HI1 := Lib.hid hi1
   rw [List.drop_eq_getElem_cons hlt,ht0,idxM,hi1] at hr
   obtain ⟨r0,r1⟩ := t
   have HF := Lib.hid (meant_any r0 r1 x kb K wr (HC.out.below hB HX.out))
   obtain ⟨Q,hQ⟩ : ∃ Q,meantB kb K (r0,r1) = Q := ⟨_,rfl⟩
   rw [hQ] at HF
   simp only [hQ] at hr
   have HR2 := Lib.hid hr
   clear hB hi hr hRR hx ht0 hi1 hQ hlt
   cases Q with
   | true =>
    have hR : R = (i : Int) := by have := HR2.out; simpa using this.symm
    subst hR
    go_wp2_with (go_at_call 79; (refine HF.out.mono ?_); rintro e w2 ⟨rfl,hb2⟩; have HB2 := Lib.hid hb2; clear hb2)
    go_ret
    exact ⟨rfl,HB.out.trans (HB2.out.mono HB.out.size)⟩
   | false =>
    go_wp2_with (go_at_call 79; (refine HF.out.mono ?_); rintro e w2 ⟨rfl,hb2⟩; have HB2 := Lib.hid hb2; clear hb2)
    go_roundg gk
    case measure => exact Nat.lt_succ_self _
    case rel => exact ⟨i1,rfl,by have := HI1.out; have := HI.out; omega,HB.out.trans (HB2.out.mono HB.out.size),by have := HR2.out; simpa using this⟩
structure DelI (kb : Bool) (K : Int) (l m : List Rw) (i j : Nat) : Prop where
 len : m.length = l.length
 lt : i < j
 le : j ≤ l.length
 done : m.take i = delR kb K (l.take j)
 rest : m.drop j = l.drop j
theorem take_set_far {α : Type} (m : List α) (i j : Nat) (x : α) (h : i ≤ j) : (m.set j x).take i = m.take i := by
 apply List.ext_getElem?
 intro k
 rw [List.getElem?_take,List.getElem?_take]
 split
 ·rw [List.getElem?_set,if_neg (by omega)]
 ·rfl
theorem drop_set_far {α : Type} (m : List α) (i j : Nat) (x : α) (h : i < j) : (m.set i x).drop j = m.drop j := by
 apply List.ext_getElem?
 intro k
 rw [List.getElem?_drop,List.getElem?_drop,List.getElem?_set,if_neg (by omega)]
theorem DelI.at_ {kb : Bool} {K : Int} {l m : List Rw} {i j : Nat} (h : DelI kb K l m i j) (hj : j < l.length) : m[j]? = some l[j] := by
 have := congrArg (fun q => q[0]?) h.rest
 simp only [List.getElem?_drop,Nat.add_zero] at this
 rw [this,List.getElem?_eq_getElem hj]
theorem DelI.skip {kb : Bool} {K : Int} {l m : List Rw} {i j : Nat} (h : DelI kb K l m i j) (hj : j < l.length) (hm : meantB kb K l[j] = true) : DelI kb K l m i (j + 1) :=
 ⟨h.len,by have := h.lt; omega,hj,by rw [del_snoc kb K (List.getElem?_eq_getElem hj),if_pos hm]; exact h.done,by
  have := congrArg (List.drop 1) h.rest
  rw [List.drop_drop,List.drop_drop] at this
  exact this⟩
theorem DelI.keep {kb : Bool} {K : Int} {l m : List Rw} {i j : Nat} (h : DelI kb K l m i j) (hj : j < l.length) (hm : meantB kb K l[j] = false) : DelI kb K l (m.set i l[j]) (i + 1) (j + 1) := by
 have hi := h.lt
 refine ⟨by rw [List.length_set]; exact h.len,by omega,hj,?_,?_⟩
 ·rw [del_snoc kb K (List.getElem?_eq_getElem hj),hm,if_neg (by decide),← h.done,List.take_add_one,List.getElem?_set,if_pos rfl,if_pos (by rw [h.len]; omega),take_set_far m i i _ (Nat.le_refl _)]
  rfl
 ·rw [drop_set_far _ _ _ _ (by omega)]
  have := congrArg (List.drop 1) h.rest
  rw [List.drop_drop,List.drop_drop] at this
  exact this
theorem DelI.start {kb : Bool} {K : Int} {l : List Rw} {i : Nat} {r : Rw} (hr : l[i]? = some r) (hm : meantB kb K r = true) (hf : ∀ x ∈ l.take i,meantB kb K x = false) : DelI kb K l l i (i + 1) := by
 have hi := (List.getElem?_eq_some_iff.1 hr).1
 exact ⟨rfl,by omega,hi,by rw [del_snoc kb K hr,if_pos hm,del_none hf],rfl⟩
theorem OR.cells {B g cap : Nat} {w : World} {l : List Rw} (h : OR B w (.slice (some ⟨g,0,none⟩) l.length cap) l) (i : Nat) (r : Rw) (hi : l[i]? = some r) : w.cell? ⟨g,i * 2,none⟩ = some (.int .i64 r.1) ∧ w.cell? ⟨g,i * 2 + 1,none⟩ = some (.int .i64 r.2) ∧ w.frozen? ⟨g,i * 2,none⟩ = false ∧ w.frozen? ⟨g,i * 2 + 1,none⟩ = false := by
 obtain ⟨h1,h2⟩ := rcs_at l i r hi
 have hl : i < l.length := (List.getElem?_eq_some_iff.1 hi).1
 have c := fun j hj => World.ownsRow.cellAt h (g := g) (n := l.length) (cap := cap) j hj
 exact ⟨(c (i * 2) (by omega)).trans h1,(c (i * 2 + 1) (by omega)).trans h2,World.ownsRow.frozenAt h _,World.ownsRow.frozenAt h _⟩
theorem rcs_set (l : List Rw) (i : Nat) (r q : Rw) (h : l[i]? = some r) : ((rcs l).set (i * 2) (.int .i64 q.1)).set (i * 2 + 1) (.int .i64 q.2) = rcs (l.set i q) := by
 unfold rcs
 have h1 : (l.map rp)[i]? = some (rp r) := by rw [List.getElem?_map,h]; rfl
 rw [fl_set1 _ i (rp r) _ h1,fl_set2 _ i (.int .i64 q.1,(rp r).2) _ (by rw [List.getElem?_set,if_pos rfl,if_pos (List.getElem?_eq_some_iff.1 h1).1 |> Eq.symm |>.symm]),List.set_set,List.map_set]
theorem OR.set {B g cap : Nat} {w : World} {l : List Rw} (h : OR B w (.slice (some ⟨g,0,none⟩) l.length cap) l) (i : Nat) (r q : Rw) (hi : l[i]? = some r) :
  OR B ((w.setCell ⟨g,i * 2,none⟩ (.int .i64 q.1)).setCell ⟨g,i * 2 + 1,none⟩ (.int .i64 q.2)) (.slice (some ⟨g,0,none⟩) l.length cap) (l.set i q) ∧ w.grownBy ((w.setCell ⟨g,i * 2,none⟩ (.int .i64 q.1)).setCell ⟨g,i * 2 + 1,none⟩ (.int .i64 q.2)) (some g) := by
 obtain ⟨a1,a2⟩ := World.ownsRow.stored h (i * 2) (.int .i64 q.1)
 obtain ⟨b1,b2⟩ := World.ownsRow.stored a1 (i * 2 + 1) (.int .i64 q.2)
 rw [rcs_set l i r q hi] at b1
 exact ⟨by unfold OR; rw [List.length_set]; exact b1,⟨b2.os.trans a2.os,b2.tape.trans a2.tape,b2.output.trans a2.output,Nat.le_trans a2.size b2.size,fun k hk hn => (b2.block k (Nat.lt_of_lt_of_le hk a2.size) hn).trans (a2.block k hk hn)⟩⟩
theorem grown_trans {a b c : World} {row : Option Nat} (h : a.grownBy b row) (k : b.grownBy c row) : a.grownBy c row :=
 ⟨k.os.trans h.os,k.tape.trans h.tape,k.output.trans h.output,Nat.le_trans h.size k.size,fun i hi hn => (k.block i (Nat.lt_of_lt_of_le hi h.size) hn).trans (h.block i hi hn)⟩
theorem grown_bel {a b : World} {row : Option Nat} (h : Below a.heap.size a b) : a.grownBy b row := ⟨h.os,h.tape,h.output,h.size,fun k hk _ => h.block k hk⟩
def DelP (B : Nat) (g cap : Nat) (kb : Bool) (K : Int) (l : List Rw) (w : World) (e : Ending) (w' : World) : Prop :=
 e = .returned (.slice (some ⟨g,0,none⟩) (delR kb K l).length cap) ∧ OR B w' (.slice (some ⟨g,0,none⟩) (delR kb K l).length cap) (delR kb K l) ∧ w.grownBy w' (some g)
theorem splice_take {α : Type} (L : List α) (o k : Nat) (cs : List α) (h : k ≤ o) (h2 : o ≤ L.length) : (splice L o cs).take k = L.take k := by
 unfold splice
 rw [List.take_append_of_le_length (by rw [List.length_take]; omega),List.take_take]
 congr 1; omega

theorem retb {x y : Bool} (h : x = y) : Ending.returned (.bool x) = Ending.returned (.bool y) := by rw [h]
def letN (n : Int) : Bool := decide (97 ≤ n ∧ n ≤ 122 ∨ 65 ≤ n ∧ n ≤ 90 ∨ n = 95 ∨ 127 < n)
def digN (n : Int) : Bool := decide (48 ≤ n ∧ n ≤ 57)
def wordN (n : Int) : Bool := letN n || digN n || n == 36
def tagN (n : Int) : Bool := letN n || digN n
def numN (n : Int) : Bool := digN n || n == 46

theorem let_any (n : Int) (w : World) : Calls Tryz.prog 175 #[.int .i32 n] w fun e w' => e = .returned (.bool (letN n)) ∧ w' = w := by
 obtain ⟨b,hb⟩ : ∃ b,letN n = b := ⟨_,rfl⟩
 rw [hb]
 have HB := Lib.hid hb
 clear hb
 go_enter Tryz.func175,Tryz.ntmps175
 go_wp2
 all_goals
  go_ret
  refine ⟨?_,rfl⟩
  rw [← HB.out]
  refine retb ?_
  unfold letN
  rw [Bool.eq_iff_iff]
  simp
  try omega
theorem dig_any (n : Int) (w : World) : Calls Tryz.prog 180 #[.int .i32 n] w fun e w' => e = .returned (.bool (digN n)) ∧ w' = w := by
 obtain ⟨b,hb⟩ : ∃ b,digN n = b := ⟨_,rfl⟩
 rw [hb]
 have HB := Lib.hid hb
 clear hb
 go_enter Tryz.func180,Tryz.ntmps180
 go_wp2
 all_goals
  go_ret
  refine ⟨?_,rfl⟩
  rw [← HB.out]
  refine retb ?_
  unfold digN
  rw [Bool.eq_iff_iff]
  simp
  try omega
theorem let_b (n : Int) (b : Bool) (h : Hid (letN n = b)) (w : World) : Calls Tryz.prog 175 #[.int .i32 n] w fun e w' => e = .returned (.bool b) ∧ w' = w := by
 have := let_any n w
 rw [h.out] at this
 exact this
theorem dig_b (n : Int) (b : Bool) (h : Hid (digN n = b)) (w : World) : Calls Tryz.prog 180 #[.int .i32 n] w fun e w' => e = .returned (.bool b) ∧ w' = w := by
 have := dig_any n w
 rw [h.out] at this
 exact this
theorem word_any (n : Int) (w : World) : Calls Tryz.prog 176 #[.int .i32 n] w fun e w' => e = .returned (.bool (wordN n)) ∧ w' = w := by
 obtain ⟨b0,h0⟩ : ∃ b,letN n = b := ⟨_,rfl⟩
 have H0 := Lib.hid h0
 clear h0
 obtain ⟨b1,h1⟩ : ∃ b,digN n = b := ⟨_,rfl⟩
 have H1 := Lib.hid h1
 clear h1
 cases b0 <;> cases b1
 all_goals
  go_enter Tryz.func176,Tryz.ntmps176
  go_wp2_with (first | (go_at_call 175; (with_reducible refine (let_b n _ H0 _).mono ?_); rintro e w1 ⟨rfl,hw⟩; obtain rfl := hw.symm) | (go_at_call 180; (with_reducible refine (dig_b n _ H1 _).mono ?_); rintro e w1 ⟨rfl,hw⟩; obtain rfl := hw.symm))
 all_goals
  go_ret
  refine ⟨retb ?_,rfl⟩
  unfold wordN
  rw [H0.out,H1.out]
  try simp
theorem tag_any (n : Int) (w : World) : Calls Tryz.prog 233 #[.int .i32 n] w fun e w' => e = .returned (.bool (tagN n)) ∧ w' = w := by
 obtain ⟨b0,h0⟩ : ∃ b,letN n = b := ⟨_,rfl⟩
 have H0 := Lib.hid h0
 clear h0
 obtain ⟨b1,h1⟩ : ∃ b,digN n = b := ⟨_,rfl⟩
 have H1 := Lib.hid h1
 clear h1
 cases b0 <;> cases b1
 all_goals
  go_enter Tryz.func233,Tryz.ntmps233
  go_wp2_with (first | (go_at_call 175; (with_reducible refine (let_b n _ H0 _).mono ?_); rintro e w1 ⟨rfl,hw⟩; obtain rfl := hw.symm) | (go_at_call 180; (with_reducible refine (dig_b n _ H1 _).mono ?_); rintro e w1 ⟨rfl,hw⟩; obtain rfl := hw.symm))
 all_goals
  go_ret
  refine ⟨retb ?_,rfl⟩
  unfold tagN
  rw [H0.out,H1.out]
  try simp
theorem num_any (n : Int) (w : World) : Calls Tryz.prog 181 #[.int .i32 n] w fun e w' => e = .returned (.bool (numN n)) ∧ w' = w := by
 obtain ⟨b0,h0⟩ : ∃ b,digN n = b := ⟨_,rfl⟩
 have H0 := Lib.hid h0
 clear h0
 cases b0
 all_goals
  go_enter Tryz.func181,Tryz.ntmps181
  go_wp2_with (first | (go_at_call 180; (with_reducible refine (dig_b n _ H0 _).mono ?_); rintro e w1 ⟨rfl,hw⟩; obtain rfl := hw.symm))
 all_goals
  go_ret
  refine ⟨retb ?_,rfl⟩
  unfold numN
  rw [H0.out]
  try simp

def rowL (p : UInt8 → Bool) (l : Tx) : Nat := (l.takeWhile p).length
structure Kin (t : Int → Bool) (p : UInt8 → Bool) (hi : Bool) : Prop where
 low : ∀ c : UInt8,c.toNat < 128 → t (c.toNat : Int) = p c
 wide : ∀ n : Int,128 ≤ n → t n = hi
 bytes : ∀ c : UInt8,128 ≤ c.toNat → p c = hi
theorem rowL_at (p : UInt8 → Bool) (l : Tx) (n : Nat) (h1 : ∀ c ∈ l.take n,p c = true) (c : UInt8) (r : Tx) (h2 : l.drop n = c :: r) (h3 : p c = false) : rowL p l = n := by
 have hn : n < l.length := by
  have := congrArg List.length h2
  rw [List.length_drop,List.length_cons] at this; omega
 have e : l = l.take n ++ c :: r := by rw [← h2,List.take_append_drop]
 unfold rowL
 rw [e,List.takeWhile_append_of_pos h1,List.takeWhile_cons,if_neg (by rw [h3]; decide),List.append_nil,List.length_take]
 omega
theorem rowL_all (p : UInt8 → Bool) (l : Tx) (n : Nat) (h1 : ∀ c ∈ l.take n,p c = true) (hn : l.length ≤ n) : rowL p l = l.length := by
 rw [List.take_of_length_le hn] at h1
 unfold rowL
 have : l.takeWhile p = l := by
  have := List.takeWhile_append_of_pos (l₂ := []) h1
  simpa using this
 rw [this]
theorem get_list (s : ByteArray) (n : Nat) (h : n < s.size) : s.data.toList.drop n = s[n] :: s.data.toList.drop (n + 1) := by
 have hl : n < s.data.toList.length := by rw [← Lib.size_eq]; exact h
 rw [List.drop_eq_getElem_cons hl]
 rfl
theorem take_more (p : UInt8 → Bool) (s : ByteArray) (pos k : Nat) (h1 : ∀ c ∈ s.data.toList.take pos,p c = true) (h2 : ∀ j,j < k → ∀ hj : pos + j < s.size,p (s[pos + j]'hj) = true) (hk : pos + k ≤ s.size) : ∀ c ∈ s.data.toList.take (pos + k),p c = true := by
 induction k with
 | zero => exact h1
 | succ k ih =>
  have hlt : pos + k < s.data.toList.length := by rw [← Lib.size_eq]; omega
  have hlt2 : pos + k < s.size := by omega
  rw [← Nat.add_assoc,List.take_succ_eq_append_getElem hlt]
  intro c hc
  rcases List.mem_append.1 hc with hc | hc
  ·exact ih (fun j hj hj2 => h2 j (by omega) hj2) (by omega) c hc
  ·rw [List.mem_singleton.1 hc]
   exact h2 k (by omega) hlt2
theorem iter_below {w0 w : World} (g : Nat) (o : Obj) (B : Nat) (h : Below B w0 w) (hg : B ≤ g) : Below B w0 { w with heap := w.heap.setIfInBounds g o } := by
 refine ⟨h.os,h.tape,h.output,by simpa using h.size,fun k hk => ?_⟩
 rw [← h.block k hk]
 exact Array.getElem?_setIfInBounds_ne (by omega)
theorem row_step (t : Int → Bool) (p : UInt8 → Bool) (hi : Bool) (hs : Kin t p hi) (s : ByteArray) (pos : Nat) (hp : pos < s.size) (h : ∀ c ∈ s.data.toList.take pos,p c = true) :
  (t ((Utf8.decode s pos).1 : Nat) = false → rowL p s.data.toList = pos) ∧ (t ((Utf8.decode s pos).1 : Nat) = true → pos + (Utf8.decode s pos).2 ≤ s.size ∧ 1 ≤ (Utf8.decode s pos).2 ∧ ∀ c ∈ s.data.toList.take (pos + (Utf8.decode s pos).2),p c = true) := by
 by_cases ha : (s[pos]'hp).toNat < 128
 ·rw [decode_ascii s pos hp ha,hs.low _ ha]
  refine ⟨fun e => rowL_at p _ pos h _ _ (get_list s pos hp) e,fun e => ⟨hp,Nat.le_refl _,take_more p s pos 1 h (fun j hj hj2 => ?_) hp⟩⟩
  have : j = 0 := by omega
  subst this; exact e
 ·have ha' : 128 ≤ (s[pos]'hp).toNat := by omega
  obtain ⟨d1,d2⟩ := decode_high s pos hp ha'
  obtain ⟨e1,e2⟩ := decode_wide s pos hp ha'
  rw [hs.wide _ (by omega)]
  refine ⟨fun e => rowL_at p _ pos h _ _ (get_list s pos hp) (by rw [hs.bytes _ ha']; exact e),fun e => ⟨e1,d2,take_more p s pos _ h (fun j hj hj2 => ?_) e1⟩⟩
  rw [hs.bytes _ (e2 j hj hj2)]; exact e

set_option maxRecDepth 100000 in
theorem row_letter (t : Int → Bool) (p : UInt8 → Bool) (hi : Bool) (hs : Hid (Kin t p hi)) (s : ByteArray) (w : World)
  (hf : Hid (∀ (n : Int) (w : World),Calls Tryz.prog 175 #[.int .i32 n] w fun e w' => e = .returned (.bool (t n)) ∧ Below w.heap.size w w')) :
  Calls Tryz.prog 171 #[.string s,.func (.func 175) #[] #[]] w fun e w' => e = .returned (.int .i64 (rowL p s.data.toList : Nat)) ∧ Below w.heap.size w w' := by
 have h0 : (w.iter s 0).heap[w.heap.size]? = some (.stringIter s 0) := w.iter_heap s 0
 have hb0 : Below w.heap.size w (w.iter s 0) := (Below.refl _ _).alloc (Nat.le_refl _) _
 go_enter Tryz.func171,Tryz.ntmps171
 go_wp2
 go_loopw [5] (fun _ wr => ∃ pos,wr.heap[w.heap.size]? = some (.stringIter s pos) ∧ pos ≤ s.size ∧ (∀ c ∈ s.data.toList.take pos,p c = true) ∧ Below w.heap.size w wr) (fun _ wr => s.size - wr.iterPos w.heap.size)
 case atStart => exact ⟨0,h0,Nat.zero_le _,by simp,hb0⟩
 case round =>
  obtain ⟨pos,hg,hps,hall,hB⟩ := hrel
  clear h0 hb0
  have HG := Lib.hid hg
  have HALL := Lib.hid hall
  have HB := Lib.hid hB
  have hip : wr.iterPos w.heap.size = pos := by simp [World.iterPos,hg]
  have HIP := Lib.hid hip
  clear hg hall hB hip
  by_cases hp : pos < s.size
  ·have hnx : ∀ ty,(Instr.next (.pointer (some ⟨w.heap.size,0,none⟩)) true ty).run Tryz.prog wr = _ := fun ty => run_next_at_ wr w.heap.size s pos ty HG.out hp
   have st := row_step t p hi hs.out s pos hp HALL.out
   have h1 : ({ wr with heap := wr.heap.setIfInBounds w.heap.size (.stringIter s (pos + (Utf8.decode s pos).2)) } : World).heap[w.heap.size]? = some (.stringIter s (pos + (Utf8.decode s pos).2)) := by
    have hlt : w.heap.size < wr.heap.size := (Array.getElem?_eq_some_iff.1 HG.out).1
    simp [hlt]
   have hB1 := iter_below w.heap.size (.stringIter s (pos + (Utf8.decode s pos).2)) w.heap.size HB.out (Nat.le_refl _)
   generalize ({ wr with heap := wr.heap.setIfInBounds w.heap.size (.stringIter s (pos + (Utf8.decode s pos).2)) } : World) = w1 at *
   generalize (Utf8.decode s pos).1 = rn at *
   generalize (Utf8.decode s pos).2 = wd at *
   obtain ⟨b,hb⟩ : ∃ b,t (rn : Nat) = b := ⟨_,rfl⟩
   rw [hb] at st
   have F1 := hf.out (rn : Nat)
   rw [hb] at F1
   have HF1 := Lib.hid F1
   have ST := Lib.hid st
   have H1 := Lib.hid h1
   have HB1 := Lib.hid hB1
   clear F1 st hb h1 hB1
   cases b with
   | false =>
    have HR := Lib.hid (ST.out.1 rfl)
    clear ST
    go_wp2_with (go_at_call 175; refine (HF1.out _).mono ?_; rintro e w2 ⟨rfl,hb2⟩)
    go_ret
    exact ⟨by rw [HR.out]; rfl,HB1.out.trans (hb2.mono HB1.out.size)⟩
   | true =>
    obtain ⟨s1,s2,s3⟩ := ST.out.2 rfl
    go_wp2_with (go_at_call 175; refine (HF1.out _).mono ?_; rintro e w2 ⟨rfl,hb2⟩)
    go_roundw
    case rel => exact ⟨pos + wd,(hb2.block _ (Array.getElem?_eq_some_iff.1 H1.out).1).trans H1.out,s1,s3,HB1.out.trans (hb2.mono HB1.out.size)⟩
    case measure =>
     have e2 : w2.iterPos w.heap.size = pos + wd := by simp [World.iterPos,(hb2.block _ (Array.getElem?_eq_some_iff.1 H1.out).1).trans H1.out]
     rw [HIP.out,e2]; omega
  ·have hnx : ∀ ty,(Instr.next (.pointer (some ⟨w.heap.size,0,none⟩)) true ty).run Tryz.prog wr = _ := fun ty => run_next_over wr w.heap.size s pos ty HG.out hp
   go_wp2
   go_ret
   refine ⟨?_,HB.out⟩
   rw [rowL_all p _ pos HALL.out (by rw [← Lib.size_eq]; omega),← Lib.size_eq]; rfl
set_option maxRecDepth 100000 in
theorem row_word (t : Int → Bool) (p : UInt8 → Bool) (hi : Bool) (hs : Hid (Kin t p hi)) (s : ByteArray) (w : World)
  (hf : Hid (∀ (n : Int) (w : World),Calls Tryz.prog 176 #[.int .i32 n] w fun e w' => e = .returned (.bool (t n)) ∧ Below w.heap.size w w')) :
  Calls Tryz.prog 171 #[.string s,.func (.func 176) #[] #[]] w fun e w' => e = .returned (.int .i64 (rowL p s.data.toList : Nat)) ∧ Below w.heap.size w w' := by
 have h0 : (w.iter s 0).heap[w.heap.size]? = some (.stringIter s 0) := w.iter_heap s 0
 have hb0 : Below w.heap.size w (w.iter s 0) := (Below.refl _ _).alloc (Nat.le_refl _) _
 go_enter Tryz.func171,Tryz.ntmps171
 go_wp2
 go_loopw [5] (fun _ wr => ∃ pos,wr.heap[w.heap.size]? = some (.stringIter s pos) ∧ pos ≤ s.size ∧ (∀ c ∈ s.data.toList.take pos,p c = true) ∧ Below w.heap.size w wr) (fun _ wr => s.size - wr.iterPos w.heap.size)
 case atStart => exact ⟨0,h0,Nat.zero_le _,by simp,hb0⟩
 case round =>
  obtain ⟨pos,hg,hps,hall,hB⟩ := hrel
  clear h0 hb0
  have HG := Lib.hid hg
  have HALL := Lib.hid hall
  have HB := Lib.hid hB
  have hip : wr.iterPos w.heap.size = pos := by simp [World.iterPos,hg]
  have HIP := Lib.hid hip
  clear hg hall hB hip
  by_cases hp : pos < s.size
  ·have hnx : ∀ ty,(Instr.next (.pointer (some ⟨w.heap.size,0,none⟩)) true ty).run Tryz.prog wr = _ := fun ty => run_next_at_ wr w.heap.size s pos ty HG.out hp
   have st := row_step t p hi hs.out s pos hp HALL.out
   have h1 : ({ wr with heap := wr.heap.setIfInBounds w.heap.size (.stringIter s (pos + (Utf8.decode s pos).2)) } : World).heap[w.heap.size]? = some (.stringIter s (pos + (Utf8.decode s pos).2)) := by
    have hlt : w.heap.size < wr.heap.size := (Array.getElem?_eq_some_iff.1 HG.out).1
    simp [hlt]
   have hB1 := iter_below w.heap.size (.stringIter s (pos + (Utf8.decode s pos).2)) w.heap.size HB.out (Nat.le_refl _)
   generalize ({ wr with heap := wr.heap.setIfInBounds w.heap.size (.stringIter s (pos + (Utf8.decode s pos).2)) } : World) = w1 at *
   generalize (Utf8.decode s pos).1 = rn at *
   generalize (Utf8.decode s pos).2 = wd at *
   obtain ⟨b,hb⟩ : ∃ b,t (rn : Nat) = b := ⟨_,rfl⟩
   rw [hb] at st
   have F1 := hf.out (rn : Nat)
   rw [hb] at F1
   have HF1 := Lib.hid F1
   have ST := Lib.hid st
   have H1 := Lib.hid h1
   have HB1 := Lib.hid hB1
   clear F1 st hb h1 hB1
   cases b with
   | false =>
    have HR := Lib.hid (ST.out.1 rfl)
    clear ST
    go_wp2_with (go_at_call 176; refine (HF1.out _).mono ?_; rintro e w2 ⟨rfl,hb2⟩)
    go_ret
    exact ⟨by rw [HR.out]; rfl,HB1.out.trans (hb2.mono HB1.out.size)⟩
   | true =>
    obtain ⟨s1,s2,s3⟩ := ST.out.2 rfl
    go_wp2_with (go_at_call 176; refine (HF1.out _).mono ?_; rintro e w2 ⟨rfl,hb2⟩)
    go_roundw
    case rel => exact ⟨pos + wd,(hb2.block _ (Array.getElem?_eq_some_iff.1 H1.out).1).trans H1.out,s1,s3,HB1.out.trans (hb2.mono HB1.out.size)⟩
    case measure =>
     have e2 : w2.iterPos w.heap.size = pos + wd := by simp [World.iterPos,(hb2.block _ (Array.getElem?_eq_some_iff.1 H1.out).1).trans H1.out]
     rw [HIP.out,e2]; omega
  ·have hnx : ∀ ty,(Instr.next (.pointer (some ⟨w.heap.size,0,none⟩)) true ty).run Tryz.prog wr = _ := fun ty => run_next_over wr w.heap.size s pos ty HG.out hp
   go_wp2
   go_ret
   refine ⟨?_,HB.out⟩
   rw [rowL_all p _ pos HALL.out (by rw [← Lib.size_eq]; omega),← Lib.size_eq]; rfl
set_option maxRecDepth 100000 in
theorem row_digit (t : Int → Bool) (p : UInt8 → Bool) (hi : Bool) (hs : Hid (Kin t p hi)) (s : ByteArray) (w : World)
  (hf : Hid (∀ (n : Int) (w : World),Calls Tryz.prog 180 #[.int .i32 n] w fun e w' => e = .returned (.bool (t n)) ∧ Below w.heap.size w w')) :
  Calls Tryz.prog 171 #[.string s,.func (.func 180) #[] #[]] w fun e w' => e = .returned (.int .i64 (rowL p s.data.toList : Nat)) ∧ Below w.heap.size w w' := by
 have h0 : (w.iter s 0).heap[w.heap.size]? = some (.stringIter s 0) := w.iter_heap s 0
 have hb0 : Below w.heap.size w (w.iter s 0) := (Below.refl _ _).alloc (Nat.le_refl _) _
 go_enter Tryz.func171,Tryz.ntmps171
 go_wp2
 go_loopw [5] (fun _ wr => ∃ pos,wr.heap[w.heap.size]? = some (.stringIter s pos) ∧ pos ≤ s.size ∧ (∀ c ∈ s.data.toList.take pos,p c = true) ∧ Below w.heap.size w wr) (fun _ wr => s.size - wr.iterPos w.heap.size)
 case atStart => exact ⟨0,h0,Nat.zero_le _,by simp,hb0⟩
 case round =>
  obtain ⟨pos,hg,hps,hall,hB⟩ := hrel
  clear h0 hb0
  have HG := Lib.hid hg
  have HALL := Lib.hid hall
  have HB := Lib.hid hB
  have hip : wr.iterPos w.heap.size = pos := by simp [World.iterPos,hg]
  have HIP := Lib.hid hip
  clear hg hall hB hip
  by_cases hp : pos < s.size
  ·have hnx : ∀ ty,(Instr.next (.pointer (some ⟨w.heap.size,0,none⟩)) true ty).run Tryz.prog wr = _ := fun ty => run_next_at_ wr w.heap.size s pos ty HG.out hp
   have st := row_step t p hi hs.out s pos hp HALL.out
   have h1 : ({ wr with heap := wr.heap.setIfInBounds w.heap.size (.stringIter s (pos + (Utf8.decode s pos).2)) } : World).heap[w.heap.size]? = some (.stringIter s (pos + (Utf8.decode s pos).2)) := by
    have hlt : w.heap.size < wr.heap.size := (Array.getElem?_eq_some_iff.1 HG.out).1
    simp [hlt]
   have hB1 := iter_below w.heap.size (.stringIter s (pos + (Utf8.decode s pos).2)) w.heap.size HB.out (Nat.le_refl _)
   generalize ({ wr with heap := wr.heap.setIfInBounds w.heap.size (.stringIter s (pos + (Utf8.decode s pos).2)) } : World) = w1 at *
   generalize (Utf8.decode s pos).1 = rn at *
   generalize (Utf8.decode s pos).2 = wd at *
   obtain ⟨b,hb⟩ : ∃ b,t (rn : Nat) = b := ⟨_,rfl⟩
   rw [hb] at st
   have F1 := hf.out (rn : Nat)
   rw [hb] at F1
   have HF1 := Lib.hid F1
   have ST := Lib.hid st
   have H1 := Lib.hid h1
   have HB1 := Lib.hid hB1
   clear F1 st hb h1 hB1
   cases b with
   | false =>
    have HR := Lib.hid (ST.out.1 rfl)
    clear ST
    go_wp2_with (go_at_call 180; refine (HF1.out _).mono ?_; rintro e w2 ⟨rfl,hb2⟩)
    go_ret
    exact ⟨by rw [HR.out]; rfl,HB1.out.trans (hb2.mono HB1.out.size)⟩
   | true =>
    obtain ⟨s1,s2,s3⟩ := ST.out.2 rfl
    go_wp2_with (go_at_call 180; refine (HF1.out _).mono ?_; rintro e w2 ⟨rfl,hb2⟩)
    go_roundw
    case rel => exact ⟨pos + wd,(hb2.block _ (Array.getElem?_eq_some_iff.1 H1.out).1).trans H1.out,s1,s3,HB1.out.trans (hb2.mono HB1.out.size)⟩
    case measure =>
     have e2 : w2.iterPos w.heap.size = pos + wd := by simp [World.iterPos,(hb2.block _ (Array.getElem?_eq_some_iff.1 H1.out).1).trans H1.out]
     rw [HIP.out,e2]; omega
  ·have hnx : ∀ ty,(Instr.next (.pointer (some ⟨w.heap.size,0,none⟩)) true ty).run Tryz.prog wr = _ := fun ty => run_next_over wr w.heap.size s pos ty HG.out hp
   go_wp2
   go_ret
   refine ⟨?_,HB.out⟩
   rw [rowL_all p _ pos HALL.out (by rw [← Lib.size_eq]; omega),← Lib.size_eq]; rfl
set_option maxRecDepth 100000 in
theorem row_num (t : Int → Bool) (p : UInt8 → Bool) (hi : Bool) (hs : Hid (Kin t p hi)) (s : ByteArray) (w : World)
  (hf : Hid (∀ (n : Int) (w : World),Calls Tryz.prog 181 #[.int .i32 n] w fun e w' => e = .returned (.bool (t n)) ∧ Below w.heap.size w w')) :
  Calls Tryz.prog 171 #[.string s,.func (.func 181) #[] #[]] w fun e w' => e = .returned (.int .i64 (rowL p s.data.toList : Nat)) ∧ Below w.heap.size w w' := by
 have h0 : (w.iter s 0).heap[w.heap.size]? = some (.stringIter s 0) := w.iter_heap s 0
 have hb0 : Below w.heap.size w (w.iter s 0) := (Below.refl _ _).alloc (Nat.le_refl _) _
 go_enter Tryz.func171,Tryz.ntmps171
 go_wp2
 go_loopw [5] (fun _ wr => ∃ pos,wr.heap[w.heap.size]? = some (.stringIter s pos) ∧ pos ≤ s.size ∧ (∀ c ∈ s.data.toList.take pos,p c = true) ∧ Below w.heap.size w wr) (fun _ wr => s.size - wr.iterPos w.heap.size)
 case atStart => exact ⟨0,h0,Nat.zero_le _,by simp,hb0⟩
 case round =>
  obtain ⟨pos,hg,hps,hall,hB⟩ := hrel
  clear h0 hb0
  have HG := Lib.hid hg
  have HALL := Lib.hid hall
  have HB := Lib.hid hB
  have hip : wr.iterPos w.heap.size = pos := by simp [World.iterPos,hg]
  have HIP := Lib.hid hip
  clear hg hall hB hip
  by_cases hp : pos < s.size
  ·have hnx : ∀ ty,(Instr.next (.pointer (some ⟨w.heap.size,0,none⟩)) true ty).run Tryz.prog wr = _ := fun ty => run_next_at_ wr w.heap.size s pos ty HG.out hp
   have st := row_step t p hi hs.out s pos hp HALL.out
   have h1 : ({ wr with heap := wr.heap.setIfInBounds w.heap.size (.stringIter s (pos + (Utf8.decode s pos).2)) } : World).heap[w.heap.size]? = some (.stringIter s (pos + (Utf8.decode s pos).2)) := by
    have hlt : w.heap.size < wr.heap.size := (Array.getElem?_eq_some_iff.1 HG.out).1
    simp [hlt]
   have hB1 := iter_below w.heap.size (.stringIter s (pos + (Utf8.decode s pos).2)) w.heap.size HB.out (Nat.le_refl _)
   generalize ({ wr with heap := wr.heap.setIfInBounds w.heap.size (.stringIter s (pos + (Utf8.decode s pos).2)) } : World) = w1 at *
   generalize (Utf8.decode s pos).1 = rn at *
   generalize (Utf8.decode s pos).2 = wd at *
   obtain ⟨b,hb⟩ : ∃ b,t (rn : Nat) = b := ⟨_,rfl⟩
   rw [hb] at st
   have F1 := hf.out (rn : Nat)
   rw [hb] at F1
   have HF1 := Lib.hid F1
   have ST := Lib.hid st
   have H1 := Lib.hid h1
   have HB1 := Lib.hid hB1
   clear F1 st hb h1 hB1
   cases b with
   | false =>
    have HR := Lib.hid (ST.out.1 rfl)
    clear ST
    go_wp2_with (go_at_call 181; refine (HF1.out _).mono ?_; rintro e w2 ⟨rfl,hb2⟩)
    go_ret
    exact ⟨by rw [HR.out]; rfl,HB1.out.trans (hb2.mono HB1.out.size)⟩
   | true =>
    obtain ⟨s1,s2,s3⟩ := ST.out.2 rfl
    go_wp2_with (go_at_call 181; refine (HF1.out _).mono ?_; rintro e w2 ⟨rfl,hb2⟩)
    go_roundw
    case rel => exact ⟨pos + wd,(hb2.block _ (Array.getElem?_eq_some_iff.1 H1.out).1).trans H1.out,s1,s3,HB1.out.trans (hb2.mono HB1.out.size)⟩
    case measure =>
     have e2 : w2.iterPos w.heap.size = pos + wd := by simp [World.iterPos,(hb2.block _ (Array.getElem?_eq_some_iff.1 H1.out).1).trans H1.out]
     rw [HIP.out,e2]; omega
  ·have hnx : ∀ ty,(Instr.next (.pointer (some ⟨w.heap.size,0,none⟩)) true ty).run Tryz.prog wr = _ := fun ty => run_next_over wr w.heap.size s pos ty HG.out hp
   go_wp2
   go_ret
   refine ⟨?_,HB.out⟩
   rw [rowL_all p _ pos HALL.out (by rw [← Lib.size_eq]; omega),← Lib.size_eq]; rfl
set_option maxRecDepth 100000 in
theorem row_tag (t : Int → Bool) (p : UInt8 → Bool) (hi : Bool) (hs : Hid (Kin t p hi)) (s : ByteArray) (w : World)
  (hf : Hid (∀ (n : Int) (w : World),Calls Tryz.prog 233 #[.int .i32 n] w fun e w' => e = .returned (.bool (t n)) ∧ Below w.heap.size w w')) :
  Calls Tryz.prog 171 #[.string s,.func (.func 233) #[] #[]] w fun e w' => e = .returned (.int .i64 (rowL p s.data.toList : Nat)) ∧ Below w.heap.size w w' := by
 have h0 : (w.iter s 0).heap[w.heap.size]? = some (.stringIter s 0) := w.iter_heap s 0
 have hb0 : Below w.heap.size w (w.iter s 0) := (Below.refl _ _).alloc (Nat.le_refl _) _
 go_enter Tryz.func171,Tryz.ntmps171
 go_wp2
 go_loopw [5] (fun _ wr => ∃ pos,wr.heap[w.heap.size]? = some (.stringIter s pos) ∧ pos ≤ s.size ∧ (∀ c ∈ s.data.toList.take pos,p c = true) ∧ Below w.heap.size w wr) (fun _ wr => s.size - wr.iterPos w.heap.size)
 case atStart => exact ⟨0,h0,Nat.zero_le _,by simp,hb0⟩
 case round =>
  obtain ⟨pos,hg,hps,hall,hB⟩ := hrel
  clear h0 hb0
  have HG := Lib.hid hg
  have HALL := Lib.hid hall
  have HB := Lib.hid hB
  have hip : wr.iterPos w.heap.size = pos := by simp [World.iterPos,hg]
  have HIP := Lib.hid hip
  clear hg hall hB hip
  by_cases hp : pos < s.size
  ·have hnx : ∀ ty,(Instr.next (.pointer (some ⟨w.heap.size,0,none⟩)) true ty).run Tryz.prog wr = _ := fun ty => run_next_at_ wr w.heap.size s pos ty HG.out hp
   have st := row_step t p hi hs.out s pos hp HALL.out
   have h1 : ({ wr with heap := wr.heap.setIfInBounds w.heap.size (.stringIter s (pos + (Utf8.decode s pos).2)) } : World).heap[w.heap.size]? = some (.stringIter s (pos + (Utf8.decode s pos).2)) := by
    have hlt : w.heap.size < wr.heap.size := (Array.getElem?_eq_some_iff.1 HG.out).1
    simp [hlt]
   have hB1 := iter_below w.heap.size (.stringIter s (pos + (Utf8.decode s pos).2)) w.heap.size HB.out (Nat.le_refl _)
   generalize ({ wr with heap := wr.heap.setIfInBounds w.heap.size (.stringIter s (pos + (Utf8.decode s pos).2)) } : World) = w1 at *
   generalize (Utf8.decode s pos).1 = rn at *
   generalize (Utf8.decode s pos).2 = wd at *
   obtain ⟨b,hb⟩ : ∃ b,t (rn : Nat) = b := ⟨_,rfl⟩
   rw [hb] at st
   have F1 := hf.out (rn : Nat)
   rw [hb] at F1
   have HF1 := Lib.hid F1
   have ST := Lib.hid st
   have H1 := Lib.hid h1
   have HB1 := Lib.hid hB1
   clear F1 st hb h1 hB1
   cases b with
   | false =>
    have HR := Lib.hid (ST.out.1 rfl)
    clear ST
    go_wp2_with (go_at_call 233; refine (HF1.out _).mono ?_; rintro e w2 ⟨rfl,hb2⟩)
    go_ret
    exact ⟨by rw [HR.out]; rfl,HB1.out.trans (hb2.mono HB1.out.size)⟩
   | true =>
    obtain ⟨s1,s2,s3⟩ := ST.out.2 rfl
    go_wp2_with (go_at_call 233; refine (HF1.out _).mono ?_; rintro e w2 ⟨rfl,hb2⟩)
    go_roundw
    case rel => exact ⟨pos + wd,(hb2.block _ (Array.getElem?_eq_some_iff.1 H1.out).1).trans H1.out,s1,s3,HB1.out.trans (hb2.mono HB1.out.size)⟩
    case measure =>
     have e2 : w2.iterPos w.heap.size = pos + wd := by simp [World.iterPos,(hb2.block _ (Array.getElem?_eq_some_iff.1 H1.out).1).trans H1.out]
     rw [HIP.out,e2]; omega
  ·have hnx : ∀ ty,(Instr.next (.pointer (some ⟨w.heap.size,0,none⟩)) true ty).run Tryz.prog wr = _ := fun ty => run_next_over wr w.heap.size s pos ty HG.out hp
   go_wp2
   go_ret
   refine ⟨?_,HB.out⟩
   rw [rowL_all p _ pos HALL.out (by rw [← Lib.size_eq]; omega),← Lib.size_eq]; rfl
set_option maxRecDepth 100000 in
theorem row_blank (t : Int → Bool) (p : UInt8 → Bool) (hi : Bool) (hs : Hid (Kin t p hi)) (s : ByteArray) (w : World)
  (hf : Hid (∀ (n : Int) (w : World),Calls Tryz.prog 172 #[.int .i32 n] w fun e w' => e = .returned (.bool (t n)) ∧ Below w.heap.size w w')) :
  Calls Tryz.prog 171 #[.string s,.func (.func 172) #[] #[]] w fun e w' => e = .returned (.int .i64 (rowL p s.data.toList : Nat)) ∧ Below w.heap.size w w' := by
 have h0 : (w.iter s 0).heap[w.heap.size]? = some (.stringIter s 0) := w.iter_heap s 0
 have hb0 : Below w.heap.size w (w.iter s 0) := (Below.refl _ _).alloc (Nat.le_refl _) _
 go_enter Tryz.func171,Tryz.ntmps171
 go_wp2
 go_loopw [5] (fun _ wr => ∃ pos,wr.heap[w.heap.size]? = some (.stringIter s pos) ∧ pos ≤ s.size ∧ (∀ c ∈ s.data.toList.take pos,p c = true) ∧ Below w.heap.size w wr) (fun _ wr => s.size - wr.iterPos w.heap.size)
 case atStart => exact ⟨0,h0,Nat.zero_le _,by simp,hb0⟩
 case round =>
  obtain ⟨pos,hg,hps,hall,hB⟩ := hrel
  clear h0 hb0
  have HG := Lib.hid hg
  have HALL := Lib.hid hall
  have HB := Lib.hid hB
  have hip : wr.iterPos w.heap.size = pos := by simp [World.iterPos,hg]
  have HIP := Lib.hid hip
  clear hg hall hB hip
  by_cases hp : pos < s.size
  ·have hnx : ∀ ty,(Instr.next (.pointer (some ⟨w.heap.size,0,none⟩)) true ty).run Tryz.prog wr = _ := fun ty => run_next_at_ wr w.heap.size s pos ty HG.out hp
   have st := row_step t p hi hs.out s pos hp HALL.out
   have h1 : ({ wr with heap := wr.heap.setIfInBounds w.heap.size (.stringIter s (pos + (Utf8.decode s pos).2)) } : World).heap[w.heap.size]? = some (.stringIter s (pos + (Utf8.decode s pos).2)) := by
    have hlt : w.heap.size < wr.heap.size := (Array.getElem?_eq_some_iff.1 HG.out).1
    simp [hlt]
   have hB1 := iter_below w.heap.size (.stringIter s (pos + (Utf8.decode s pos).2)) w.heap.size HB.out (Nat.le_refl _)
   generalize ({ wr with heap := wr.heap.setIfInBounds w.heap.size (.stringIter s (pos + (Utf8.decode s pos).2)) } : World) = w1 at *
   generalize (Utf8.decode s pos).1 = rn at *
   generalize (Utf8.decode s pos).2 = wd at *
   obtain ⟨b,hb⟩ : ∃ b,t (rn : Nat) = b := ⟨_,rfl⟩
   rw [hb] at st
   have F1 := hf.out (rn : Nat)
   rw [hb] at F1
   have HF1 := Lib.hid F1
   have ST := Lib.hid st
   have H1 := Lib.hid h1
   have HB1 := Lib.hid hB1
   clear F1 st hb h1 hB1
   cases b with
   | false =>
    have HR := Lib.hid (ST.out.1 rfl)
    clear ST
    go_wp2_with (go_at_call 172; refine (HF1.out _).mono ?_; rintro e w2 ⟨rfl,hb2⟩)
    go_ret
    exact ⟨by rw [HR.out]; rfl,HB1.out.trans (hb2.mono HB1.out.size)⟩
   | true =>
    obtain ⟨s1,s2,s3⟩ := ST.out.2 rfl
    go_wp2_with (go_at_call 172; refine (HF1.out _).mono ?_; rintro e w2 ⟨rfl,hb2⟩)
    go_roundw
    case rel => exact ⟨pos + wd,(hb2.block _ (Array.getElem?_eq_some_iff.1 H1.out).1).trans H1.out,s1,s3,HB1.out.trans (hb2.mono HB1.out.size)⟩
    case measure =>
     have e2 : w2.iterPos w.heap.size = pos + wd := by simp [World.iterPos,(hb2.block _ (Array.getElem?_eq_some_iff.1 H1.out).1).trans H1.out]
     rw [HIP.out,e2]; omega
  ·have hnx : ∀ ty,(Instr.next (.pointer (some ⟨w.heap.size,0,none⟩)) true ty).run Tryz.prog wr = _ := fun ty => run_next_over wr w.heap.size s pos ty HG.out hp
   go_wp2
   go_ret
   refine ⟨?_,HB.out⟩
   rw [rowL_all p _ pos HALL.out (by rw [← Lib.size_eq]; omega),← Lib.size_eq]; rfl

-- the tests of bytes
def letB (c : UInt8) : Bool := letN (c.toNat : Int)
def digB (c : UInt8) : Bool := digN (c.toNat : Int)
def wordB (c : UInt8) : Bool := wordN (c.toNat : Int)
def tagB (c : UInt8) : Bool := tagN (c.toNat : Int)
def numB (c : UInt8) : Bool := numN (c.toNat : Int)
theorem let_wide (n : Int) (h : 128 ≤ n) : letN n = true := by unfold letN; exact decide_eq_true (by omega)
theorem dig_wide (n : Int) (h : 128 ≤ n) : digN n = false := by unfold digN; exact decide_eq_false (by omega)
theorem kin_let : Kin letN letB true := ⟨fun _ _ => rfl,let_wide,fun c h => let_wide _ (by omega)⟩
theorem kin_dig : Kin digN digB false := ⟨fun _ _ => rfl,dig_wide,fun c h => dig_wide _ (by omega)⟩
theorem kin_word : Kin wordN wordB true := ⟨fun _ _ => rfl,fun n h => by unfold wordN; rw [let_wide n h]; rfl,fun c h => by unfold wordB wordN; rw [let_wide _ (by omega)]; rfl⟩
theorem kin_tag : Kin tagN tagB true := ⟨fun _ _ => rfl,fun n h => by unfold tagN; rw [let_wide n h]; rfl,fun c h => by unfold tagB tagN; rw [let_wide _ (by omega)]; rfl⟩
theorem num_wide (n : Int) (h : 128 ≤ n) : numN n = false := by unfold numN; rw [dig_wide n h,beq_eq_false_iff_ne.2 (by omega)]; rfl
theorem kin_num : Kin numN numB false := ⟨fun _ _ => rfl,num_wide,fun c h => num_wide _ (by omega)⟩
end Go.Proofs.YtjmmninopagpjaaGreatDoor
namespace Go.Proofs.YtjmmninopagpjaaGreatDoor
set_option linter.unusedSimpArgs false
open Go.ChangeShapes Go.WideShapes Go.ChangeAt Go.RowKit
set_option maxRecDepth 100000
set_option linter.unusedVariables false

theorem slidx_any (s : ByteArray) (c : Int) (w : World) :
  Calls Tryz.prog 208 #[.string s,.int .u8 c] w fun e w' => e = .returned (.int .i64 (Lib.indexByte s.data.toList c.toNat.toUInt8)) ∧ w' = w := by
 go_enter Tryz.func208,Tryz.ntmps208
 go_wp2
 rw [run_callFunc_extern Tryz.func234 (by kernel_rfl) (by kernel_rfl) (by kernel_rfl) (e := Extern.BytealgIndexByte.indexByte) (by kernel_rfl),Lib.run_indexByteString]
 simp only [Result.andThen]
 rw [Oper.upon_value]
 go_wp2
 go_ret
 exact ⟨rfl,rfl⟩

theorem sidx_any (s : ByteArray) (c : Int) (w : World) :
  Calls Tryz.prog 183 #[.string s,.int .u8 c] w fun e w' => e = .returned (.int .i64 (Lib.indexByte s.data.toList c.toNat.toUInt8)) ∧ w' = w := by
 have h := slidx_any s c
 go_enter Tryz.func183,Tryz.ntmps183
 go_wp2_with (go_at_call 208; refine (h _).mono ?_; rintro e w' ⟨rfl,rfl⟩)
 go_ret
 exact ⟨rfl,rfl⟩


abbrev five : ByteArray := ⟨#[32,9,10,12,13]⟩

theorem valid_any (n : Int) (w : World) : Calls Tryz.prog 258 #[.int .i32 n] w fun e w' => e = .returned (.bool (Utf8.valid n)) ∧ w' = w := by
 obtain ⟨b,hb⟩ : ∃ b,Utf8.valid n = b := ⟨_,rfl⟩
 rw [hb]
 have HB := Lib.hid hb
 clear hb
 go_enter Tryz.func258,Tryz.ntmps258
 go_wp2
 all_goals
  go_ret
  refine ⟨?_,rfl⟩
  rw [← HB.out]
  refine retb ?_
  unfold Utf8.valid
  rw [Bool.eq_iff_iff]
  simp
  try omega
set_option maxRecDepth 100000 in
theorem runes_low (n : Int) (h0 : 0 ≤ n) (h1 : n < 128) (w : World) : Calls Tryz.prog 231 #[.string five,.int .i32 n] w fun e w' => e = .returned (.int .i64 (Lib.indexByte five.data.toList n.toNat.toUInt8)) ∧ Below w.heap.size w w' := by
 have d0 : decide ((0 : Int) ≤ n) = true := decide_eq_true h0
 have d1 : decide (n < (128 : Int)) = true := decide_eq_true h1
 have HM := Lib.hid (show n % 256 = n by omega)
 clear h0 h1
 go_enter Tryz.func231,Tryz.ntmps231
 go_wp2_with (go_at_call 183; refine (sidx_any _ _ _).mono ?_; rintro e w1 ⟨rfl,hw⟩; obtain rfl := hw.symm)
 go_ret
 refine ⟨?_,Below.refl _ _⟩
 rw [HM.out]; rfl
set_option maxRecDepth 100000 in
theorem runes_bad (n : Int) (h0 : Utf8.valid n = false) (w : World) : Calls Tryz.prog 231 #[.string five,.int .i32 n] w fun e w' => e = .returned (.int .i64 (-1)) ∧ Below w.heap.size w w' := by
 have hv : Calls Tryz.prog 258 #[.int .i32 n] w fun e w' => e = .returned (.bool false) ∧ w' = w := by
  have := valid_any n w
  rwa [h0] at this
 have hr : ¬ (0 ≤ n ∧ n < 55296) := by
  intro h; unfold Utf8.valid at h0; simp at h0; omega
 have d1 : (n == 65533) = false := by
  rw [beq_eq_false_iff_ne]; intro e; subst e; revert h0; decide
 clear h0
 have HV := Lib.hid hv
 clear hv
 by_cases h : 0 ≤ n
 ·have d0 : decide ((0 : Int) ≤ n) = true := decide_eq_true h
  have d2 : decide (n < (128 : Int)) = false := decide_eq_false (by omega)
  clear h hr
  go_enter Tryz.func231,Tryz.ntmps231
  go_wp2_with (go_at_call 258; refine HV.out.mono ?_; rintro e w1 ⟨rfl,hw⟩; obtain rfl := hw.symm)
  go_ret
  exact ⟨rfl,Below.refl _ _⟩
 ·have d0 : decide ((0 : Int) ≤ n) = false := decide_eq_false h
  clear h hr
  go_enter Tryz.func231,Tryz.ntmps231
  go_wp2_with (go_at_call 258; refine HV.out.mono ?_; rintro e w1 ⟨rfl,hw⟩; obtain rfl := hw.symm)
  go_ret
  exact ⟨rfl,Below.refl _ _⟩
theorem five_low (j : Nat) (h : j < five.size) : (five[j]'h).toNat < 128 := by
 have h5 : j < 5 := h
 match j,h5 with
 | 0,_ => show (32 : UInt8).toNat < 128; decide
 | 1,_ => show (9 : UInt8).toNat < 128; decide
 | 2,_ => show (10 : UInt8).toNat < 128; decide
 | 3,_ => show (12 : UInt8).toNat < 128; decide
 | 4,_ => show (13 : UInt8).toNat < 128; decide
set_option maxRecDepth 100000 in
theorem runes_err (w : World) : Calls Tryz.prog 231 #[.string five,.int .i32 65533] w fun e w' => e = .returned (.int .i64 (-1)) ∧ Below w.heap.size w w' := by
 obtain ⟨s,hs⟩ : ∃ s,s = five := ⟨_,rfl⟩
 have hlow : ∀ (j : Nat) (h : j < s.size),(s[j]'h).toNat < 128 := by subst hs; exact five_low
 rw [← hs]
 clear hs
 have HL := Lib.hid hlow
 clear hlow
 have h0 : (w.iter s 0).heap[w.heap.size]? = some (.stringIter s 0) := w.iter_heap s 0
 have hb0 : Below w.heap.size w (w.iter s 0) := (Below.refl _ _).alloc (Nat.le_refl _) _
 go_enter Tryz.func231,Tryz.ntmps231
 go_wp2
 go_loopw [5] (fun _ wr => ∃ pos,wr.heap[w.heap.size]? = some (.stringIter s pos) ∧ Below w.heap.size w wr) (fun _ wr => s.size - wr.iterPos w.heap.size)
 case atStart => exact ⟨0,h0,hb0⟩
 case round =>
  obtain ⟨pos,hg,hB⟩ := hrel
  clear h0 hb0
  have HG := Lib.hid hg
  have HB := Lib.hid hB
  have HIP := Lib.hid (show wr.iterPos w.heap.size = pos by simp [World.iterPos,hg])
  clear hg hB
  by_cases hp : pos < s.size
  ·have hnx : ∀ ty,(Instr.next (.pointer (some ⟨w.heap.size,0,none⟩)) true ty).run Tryz.prog wr = _ := fun ty => run_next_at_ wr w.heap.size s pos ty HG.out hp
   rw [decode_ascii s pos hp (HL.out pos hp)] at hnx
   have h1 : ({ wr with heap := wr.heap.setIfInBounds w.heap.size (.stringIter s (pos + 1)) } : World).heap[w.heap.size]? = some (.stringIter s (pos + 1)) := by
    have hlt : w.heap.size < wr.heap.size := (Array.getElem?_eq_some_iff.1 HG.out).1
    simp [hlt]
   have hB1 := iter_below w.heap.size (.stringIter s (pos + 1)) w.heap.size HB.out (Nat.le_refl _)
   have hne : (((s[pos]'hp).toNat : Int) == 65533) = false := by
    have := HL.out pos hp
    rw [beq_eq_false_iff_ne]; omega
   simp only at hnx
   generalize ({ wr with heap := wr.heap.setIfInBounds w.heap.size (.stringIter s (pos + 1)) } : World) = w1 at *
   generalize ((s[pos]'hp).toNat : Int) = rn at *
   have H1 := Lib.hid h1
   have HB1 := Lib.hid hB1
   clear h1 hB1
   go_wp2
   go_roundw
   case rel => exact ⟨pos + 1,H1.out,HB1.out⟩
   case measure =>
    have e2 : w1.iterPos w.heap.size = pos + 1 := by simp [World.iterPos,H1.out]
    rw [HIP.out,e2]; omega
  ·have hnx : ∀ ty,(Instr.next (.pointer (some ⟨w.heap.size,0,none⟩)) true ty).run Tryz.prog wr = _ := fun ty => run_next_over wr w.heap.size s pos ty HG.out hp
   go_wp2
   go_ret
   exact ⟨rfl,HB.out⟩
theorem below_drewN_ {B : Nat} {a w : World} (h : Below B a w) (n : Nat) : Below B a (w.drewN n) := ⟨h.os,h.tape,h.output,h.size,h.block⟩
theorem idx_none (l : Tx) (c : UInt8) (h : ∀ x ∈ l,x ≠ c) : Lib.indexByte l c = -1 := by
 induction l with
 | nil => rfl
 | cons x l ih =>
  have h1 := h x (by simp)
  have h2 := ih (fun y hy => h y (by simp [hy]))
  unfold Lib.indexByte
  rw [if_neg (by simpa using h1),h2]
  rfl
set_option maxHeartbeats 1000000 in
set_option maxRecDepth 100000 in
theorem runes_wide (n : Int) (hv : Utf8.valid n = true) (h128 : 128 ≤ n) (hne : n ≠ 65533) (w : World) : Calls Tryz.prog 231 #[.string five,.int .i32 n] w fun e w' => e = .returned (.int .i64 (-1)) ∧ Below w.heap.size w w' := by
 have hval : Calls Tryz.prog 258 #[.int .i32 n] w fun e w' => e = .returned (.bool true) ∧ w' = w := by
  have := valid_any n w
  rwa [hv] at this
 obtain ⟨z2,z4,zb⟩ := encode_facts n hv h128
 obtain ⟨L,hL⟩ : ∃ L,Utf8.encode n = L := ⟨_,rfl⟩
 obtain ⟨s,hs⟩ : ∃ s,s = five := ⟨_,rfl⟩
 have hlow : ∀ (j : Nat) (h : j < s.size),(s[j]'h).toNat < 128 := by subst hs; exact five_low
 have hsz : s.size = 5 := by rw [hs]; rfl
 have d0 : decide ((0 : Int) ≤ n) = true := decide_eq_true (by omega)
 have d2 : decide (n < (128 : Int)) = false := decide_eq_false (by omega)
 have d1 : (n == 65533) = false := by rw [beq_eq_false_iff_ne]; exact hne
 rw [← hs]
 rw [hL] at z2 z4 zb
 have HV := Lib.hid hval
 have HL := Lib.hid hlow
 have HZB := Lib.hid zb
 obtain ⟨m,hm⟩ : ∃ m,L.size = m + 1 := ⟨L.size - 1,by omega⟩
 have hm1 : 1 ≤ m := by omega
 have hm3 : m ≤ 3 := by omega
 have hLm : m < L.size := by omega
 have hsm : m < s.size := by omega
 have hb128 : 128 ≤ (L[m]'hLm).toNat := by
  have := zb (by omega)
  simpa [hm] using this
 have hs128 : (s[m]'hsm).toNat < 128 := hlow m hsm
 have hq : (((s[m]'hsm).toNat : Int) != ((L[m]'hLm).toNat : Int)) = true := by rw [bne,beq_eq_false_iff_ne.2 (by omega)]; rfl
 have hix : Hid (∀ a b,Lib.indexByte (s.extract a b).data.toList (((L[m]'hLm).toNat : Int).toNat.toUInt8) = -1) := Lib.hid (fun a b => idx_none _ _ (fun x hx e => by
  have hx2 : x ∈ s.data.toList := by
   have := List.mem_of_mem_drop (List.mem_of_mem_take (show x ∈ (s.data.toList.drop a).take (b - a) by simpa [List.extract_eq_take_drop] using hx))
   exact this
  obtain ⟨j,hj,rfl⟩ := List.getElem_of_mem hx2
  have hj2 : j < s.size := by rw [Lib.size_eq]; exact hj
  have := hlow j hj2
  have e2 : (s.data.toList[j]).toNat = (s[j]'hj2).toNat := rfl
  rw [e] at e2
  simp at e2
  omega))
 clear hs hlow hval zb hv h128 hne z2 z4
 have HSZ := Lib.hid hsz
 clear hsz
 go_enter Tryz.func231,Tryz.ntmps231
 go_wp2_with (go_at_call 258; refine HV.out.mono ?_; rintro e w1 ⟨rfl,hw⟩; obtain rfl := hw.symm)
 go_step3
 go_wp2
 have l0 : (0 : Int) ≤ (m : Int) := by omega
 have l1 : (m : Int) < (s.size : Int) := by omega
 have l2 : (m : Int) < (L.size : Int) := by omega
 have l4 : (m : Int) + 1 ≤ (s.size : Int) := by omega
 have l5 : m + 1 ≤ s.size := by omega
 have l6 : s.size ≤ 5 := by have := HSZ.out; omega
 have lw : IntKind.i64.wrap ((m : Int) + 1) = (m : Int) + 1 := IntWalk.i64_in _ (by omega)
 have HMM := Lib.hid hm
 clear hm hm1 hm3 hL
 go_loop [9] (fun i => i = .int .i64 m) (fun i => 0)
 case atStart => rfl
 case round =>
  subst hrel
  go_wp2
  go_step3
  go_wp2
  go_quiet (fail)
  go_wp2
  have l7 : (0:Int) ≤ (m : Int) + 1 := by omega
  have l8 : ((m : Int) + 1).toNat = m + 1 := by omega
  go_quiet (first | (go_at_call 183; exact (sidx_any _ _ _).mono (fun _ _ h => ⟨h.1,_,h.2⟩)))
  rw [hix.out]
  go_wp2
  simp (config := { zetaDelta := true }) only [Exit.noGoto_ret,Exit.inBlock,Exit.then]
  go_simp
  try rw [Exit.noGoto_ret]
  go_simp
  try rw [Exit.noGoto_ret]
  go_simp
  go_ret
  exact ⟨rfl,below_drewN_ (Below.refl _ _) _⟩
def fiveI (n : Int) : Int := if 0 ≤ n ∧ n < 128 then Lib.indexByte five.data.toList n.toNat.toUInt8 else -1
theorem runes_any (n : Int) (w : World) : Calls Tryz.prog 231 #[.string five,.int .i32 n] w fun e w' => e = .returned (.int .i64 (fiveI n)) ∧ Below w.heap.size w w' := by
 by_cases h : 0 ≤ n ∧ n < 128
 ·rw [show fiveI n = _ from if_pos h]
  exact runes_low n h.1 h.2 w
 ·rw [show fiveI n = _ from if_neg h]
  by_cases he : n = 65533
  ·subst he; exact runes_err w
  ·cases hv : Utf8.valid n with
   | false => exact runes_bad n hv w
   | true =>
    have h0 : 0 ≤ n := by unfold Utf8.valid at hv; simp at hv; omega
    exact runes_wide n hv (by omega) he w
def fiveB (n : Int) : Bool := decide (0 ≤ fiveI n)
theorem conr_any (n : Int) (w : World) : Calls Tryz.prog 203 #[.string five,.int .i32 n] w fun e w' => e = .returned (.bool (fiveB n)) ∧ Below w.heap.size w w' := by
 obtain ⟨i,hi⟩ : ∃ i,fiveI n = i := ⟨_,rfl⟩
 have hr := runes_any n w
 rw [hi] at hr
 have e1 : fiveB n = decide (0 ≤ i) := by unfold fiveB; rw [hi]
 rw [e1]
 have HR := Lib.hid hr
 clear hr hi e1
 go_enter Tryz.func203,Tryz.ntmps203
 go_wp2_with (go_at_call 231; refine HR.out.mono ?_; rintro e w1 ⟨rfl,hb⟩)
 go_ret
 exact ⟨rfl,hb⟩
theorem blank_any (n : Int) (w : World) : Calls Tryz.prog 172 #[.int .i32 n] w fun e w' => e = .returned (.bool (fiveB n)) ∧ Below w.heap.size w w' := by
 obtain ⟨b,hb⟩ : ∃ b,fiveB n = b := ⟨_,rfl⟩
 have hr := conr_any n w
 rw [hb] at *
 have HR := Lib.hid hr
 clear hr hb
 go_enter Tryz.func172,Tryz.ntmps172
 go_wp2_with (go_at_call 203; refine HR.out.mono ?_; rintro e w1 ⟨rfl,hb⟩)
 go_ret
 exact ⟨rfl,hb⟩
def fiveQ (c : UInt8) : Bool := fiveB (c.toNat : Int)
theorem five_wide (n : Int) (h : 128 ≤ n) : fiveB n = false := by unfold fiveB fiveI; rw [if_neg (by omega)]; rfl
theorem kin_blank : Kin fiveB fiveQ false := ⟨fun _ _ => rfl,five_wide,fun c h => five_wide _ (by omega)⟩

abbrev pcV (k : Int) (t : ByteArray) (n : Int) : Value := .agg #[.int .i64 k,.string t,.int .i64 n]
theorem bcell {W w1 : World} (hb : Below W.heap.size W w1) : (∀ b o,b < W.heap.size → w1.cell? ⟨b,o,none⟩ = W.cell? ⟨b,o,none⟩) ∧ (∀ b o,b < W.heap.size → w1.frozen? ⟨b,o,none⟩ = W.frozen? ⟨b,o,none⟩) :=
 ⟨fun b o h => hb.cell (p := ⟨b,o,none⟩) h,fun b o h => hb.frozen (p := ⟨b,o,none⟩) h⟩
theorem clone_any (s : ByteArray) (w : World) (hs : s.size ≤ 281474976710656) :
  Calls Tryz.prog 54 #[.string s] w fun e w' => e = .returned (.string s) ∧ Below w.heap.size w w' := by
 have c := fun w => Tryz.stringslite_Clone s w (by omega)
 go_enter Tryz.func54,Tryz.ntmps54
 go_wp2_with (go_at_call 74; refine (c _).mono ?_; rintro e w' ⟨rfl,hb⟩)
 go_ret
 exact ⟨rfl,hb⟩
theorem weak_ {f : Nat} {t : Int → Bool} (h : ∀ (n : Int) (w : World),Calls Tryz.prog f #[.int .i32 n] w fun e w' => e = .returned (.bool (t n)) ∧ w' = w) :
  ∀ (n : Int) (w : World),Calls Tryz.prog f #[.int .i32 n] w fun e w' => e = .returned (.bool (t n)) ∧ Below w.heap.size w w' :=
 fun n w => (h n w).mono fun e w' hh => ⟨hh.1,by rw [hh.2]; exact Below.refl _ _⟩
theorem gap_any (s : ByteArray) (w : World) :
  Calls Tryz.prog 129 #[.string s] w fun e w' => e = .returned (pcV 0 ⟨#[]⟩ (rowL fiveQ s.data.toList : Nat)) ∧ Below w.heap.size w w' := by
 have hr := fun w => row_blank fiveB fiveQ false (Lib.hid kin_blank) s w (Lib.hid blank_any)
 obtain ⟨n,hn⟩ : ∃ n,rowL fiveQ s.data.toList = n := ⟨_,rfl⟩
 simp only [hn] at hr
 rw [hn]
 have HR := Lib.hid hr
 clear hr hn
 go_enter Tryz.func129,Tryz.ntmps129
 go_wp2_with (go_at_call 171; refine (HR.out _).mono ?_; rintro e w1 ⟨rfl,hb1⟩; obtain ⟨hcc,hff⟩ := bcell hb1)
 have hB : Below w.heap.size w w1 := ((Below.refl _ _).alloc (Nat.le_refl _) _).trans (hb1.mono (by simp))
 refine bodyPost_ret (v := pcV 0 ⟨#[]⟩ (n : Nat)) (by simp [results,Tryz.results129,go_sem,hcc,hff]) rfl ?_
 refine ⟨rfl,((hB.setCell ?_ _).setCell ?_ _).setCell ?_ _⟩ <;> exact Nat.le_refl _
structure Own3 (w w1 : World) : Prop where
 bel : Below w.heap.size w w1
 lt : w.heap.size < w1.heap.size
 k0 : w1.cell? ⟨w.heap.size,0,none⟩ = some (.int .i64 0)
 k1 : w1.cell? ⟨w.heap.size,1,none⟩ = some (.string ⟨#[]⟩)
 k2 : w1.cell? ⟨w.heap.size,2,none⟩ = some (.int .i64 0)
 f0 : w1.frozen? ⟨w.heap.size,0,none⟩ = false
 f1 : w1.frozen? ⟨w.heap.size,1,none⟩ = false
 f2 : w1.frozen? ⟨w.heap.size,2,none⟩ = false
theorem Own3.new (w : World) : Own3 w (w.alloc (.cells #[.int .i64 0,.string ⟨#[]⟩,.int .i64 0] 141)) :=
 ⟨(Below.refl _ _).alloc (Nat.le_refl _) _,by simp,by simp [go_sem],by simp [go_sem],by simp [go_sem],by simp [go_sem],by simp [go_sem],by simp [go_sem]⟩
theorem Own3.step {w w1 w2 : World} (h : Own3 w w1) (b : Below w1.heap.size w1 w2) : Own3 w w2 := by
 obtain ⟨h1,h2⟩ := bcell b
 exact ⟨h.bel.trans (b.mono (Nat.le_of_lt h.lt)),Nat.lt_of_lt_of_le h.lt b.size,by rw [h1 _ _ h.lt]; exact h.k0,by rw [h1 _ _ h.lt]; exact h.k1,by rw [h1 _ _ h.lt]; exact h.k2,by rw [h2 _ _ h.lt]; exact h.f0,by rw [h2 _ _ h.lt]; exact h.f1,by rw [h2 _ _ h.lt]; exact h.f2⟩
theorem rowL_le (p : UInt8 → Bool) (l : Tx) : rowL p l ≤ l.length := by
 unfold rowL
 exact (List.takeWhile_sublist p).length_le
theorem num_no (s : ByteArray) (w : World) (h0 : rowL digB s.data.toList = 0) :
  Calls Tryz.prog 136 #[.string s] w fun e w' => e = .returned (pcV 0 ⟨#[]⟩ 0) ∧ Below w.heap.size w w' := by
 have hr := fun w => row_digit digN digB false (Lib.hid kin_dig) s w (Lib.hid (weak_ dig_any))
 simp only [h0] at hr
 have HR := Lib.hid hr
 clear hr h0
 go_enter Tryz.func136,Tryz.ntmps136
 go_wp2_with (go_at_call 171; refine (HR.out _).mono ?_; rintro e w1 ⟨rfl,hb1⟩; obtain ⟨hcc,hff⟩ := bcell hb1)
 have hB : Below w.heap.size w w1 := ((Below.refl _ _).alloc (Nat.le_refl _) _).trans (hb1.mono (by simp))
 refine bodyPost_ret (v := pcV 0 ⟨#[]⟩ 0) (by simp [results,Tryz.results136,go_sem,hcc,hff]) rfl ?_
 refine ⟨rfl,((hB.setCell ?_ _).setCell ?_ _).setCell ?_ _⟩ <;> exact Nat.le_refl _
theorem num_yes (s : ByteArray) (w : World) (hs : s.size ≤ 281474976710656) (h0 : rowL digB s.data.toList ≠ 0) :
  Calls Tryz.prog 136 #[.string s] w fun e w' => e = .returned (pcV 4 (s.extract 0 (rowL numB s.data.toList)) (rowL numB s.data.toList : Nat)) ∧ Below w.heap.size w w' := by
 have hr := fun w => row_digit digN digB false (Lib.hid kin_dig) s w (Lib.hid (weak_ dig_any))
 have hq := fun w => row_num numN numB false (Lib.hid kin_num) s w (Lib.hid (weak_ num_any))
 obtain ⟨n,hn⟩ : ∃ n,rowL numB s.data.toList = n := ⟨_,rfl⟩
 obtain ⟨m,hm⟩ : ∃ m,rowL digB s.data.toList = m := ⟨_,rfl⟩
 have hle : n ≤ s.size := by rw [← hn,Lib.size_eq]; exact rowL_le _ _
 rw [hn]
 simp only [hn] at hq
 simp only [hm] at hr
 rw [hm] at h0
 have hc := fun w => clone_any (s.extract 0 n) w (by rw [ByteArray.size_extract]; omega)
 have HR := Lib.hid hr
 have HQ := Lib.hid hq
 have HC := Lib.hid hc
 clear hr hq hn hm hc hs
 have c0 : ((m : Int) == 0) = false := by rw [beq_eq_false_iff_ne]; omega
 have c1 : (0 : Int) ≤ (n : Int) := by omega
 have c2 : (n : Int) ≤ (s.size : Int) := by omega
 clear h0
 go_enter Tryz.func136,Tryz.ntmps136
 go_wp2_with (first
  | (go_at_call 171; (with_reducible refine (HR.out _).mono ?_); rintro e w1 ⟨rfl,hb1⟩; have F1 := (Own3.new w).step hb1; clear hb1; obtain ⟨hB,hL,k0,k1,k2,f0,f1,f2⟩ := id F1)
  | (go_at_call 171; (with_reducible refine (HQ.out _).mono ?_); rintro e w2 ⟨rfl,hb2⟩; have F2 := F1.step hb2; clear hb2 hB hL k0 k1 k2 f0 f1 f2; obtain ⟨hB,hL,k0,k1,k2,f0,f1,f2⟩ := id F2)
  | (go_at_call 54; (with_reducible refine (HC.out _).mono ?_); rintro e w3 ⟨rfl,hb3⟩; have F3 := F2.step hb3; clear hb3 hB hL k0 k1 k2 f0 f1 f2; obtain ⟨hB,hL,k0,k1,k2,f0,f1,f2⟩ := id F3))
 refine bodyPost_ret (v := pcV 4 (s.extract 0 n) (n : Nat)) (by simp [results,Tryz.results136,go_sem,k0,k1,k2]) rfl ?_
 refine ⟨rfl,((hB.setCell ?_ _).setCell ?_ _).setCell ?_ _⟩ <;> exact Nat.le_refl _
end Go.Proofs.YtjmmninopagpjaaGreatDoor
