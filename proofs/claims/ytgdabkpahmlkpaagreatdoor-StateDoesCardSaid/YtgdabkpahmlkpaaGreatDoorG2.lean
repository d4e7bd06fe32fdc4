/- Di Dg Lxc Lxr Lxi Lxb Lxd Dj Dl Ds Dca Teo -/
import Derived.Test.YtgdabkpahmlkpaaGreatDoorG1
import Derived.Deep.RegionLaw
import Derived.LoopTactic
import Derived.Test.YtgdabkpahmlkpaaGreatDoorRows
import Derived.WalkKit
import Derived.ProofKit
import Derived.OpenShut
import Derived.ShutString
import Derived.Below
import Derived.IntWalk
import Derived.Lib.Strings
import Derived.Lib.Hide
import Derived.Lib.Bytealg
import Derived.Lib.Walk
import Derived.Lib.IndexLaws
import Derived.Laws.IdiomStrings
import Derived.Deep.QuietTactic
import Derived.Deep.RegionWith
import Derived.Deep.DeepCutAuto
import Derived.BigQuiet
import Derived.Laws.Runes
import Derived.WalkMore
import Derived.Deep.RegionHeld3
import Derived.Test.YtgdabkpahmlkpaaGreatDoorShelf
import Derived.OwnWalk
import Derived.Deep.LoopGhost
set_option linter.unusedSimpArgs false
set_option linter.unusedVariables false
namespace Go.Proofs.YtgdabkpahmlkpaaGreatDoor
open Go.ChangeShapes Go.WideShapes Go.ChangeAt Go.RowKit
set_option maxRecDepth 100000
set_option linter.unusedVariables false
set_option linter.unusedSimpArgs false

theorem splice_end {α : Type} (A Z X : List α) (k : Nat) (hk : A.length = k) (h : X.length ≤ Z.length) : splice (A ++ Z) k X = A ++ X ++ Z.drop X.length := by
 subst hk
 unfold splice
 rw [List.take_left,List.drop_append,List.drop_of_length_le (by omega : A.length ≤ A.length + X.length),List.nil_append,← List.append_assoc]
 congr 2
 omega
theorem splice_ins {α : Type} (A Z X Y : List α) (k m : Nat) (hk : A.length = k) (hm : k + X.length = m) (hz : Z.length = X.length + Y.length) : splice (splice (A ++ Z) k X) m Y = A ++ (X ++ Y) := by
 rw [splice_end A Z X k hk (by omega)]
 have h2 : (A ++ X).length = m := by rw [List.length_append]; omega
 have h3 : (Z.drop X.length).length = Y.length := by rw [List.length_drop]; omega
 rw [splice_end (A ++ X) (Z.drop X.length) Y m h2 (by omega),List.drop_of_length_le (by omega),List.append_nil,List.append_assoc]
def InsP (ty : TypeId) (B g : Nat) (l : List (Value × Value)) (w : World) (e : Ending) (w' : World) : Prop :=
 ∃ h c,e = .returned (.slice (some ⟨h,0,none⟩) l.length c) ∧ w'.ownsRow B ty 2 (.slice (some ⟨h,0,none⟩) l.length c) l.length (fl l) ∧ w.grownBy w' (some g) ∧ (h = g ∨ w.heap.size ≤ h)
theorem insLen {α : Type} (l : List α) (i : Nat) (x : α) (h : i ≤ l.length) : (l.take i ++ x :: l.drop i).length = l.length + 1 := by
 rw [List.length_append,List.length_cons,List.length_take,List.length_drop]; omega
set_option maxHeartbeats 4000000 in
theorem rinsert_any (B g : Nat) (l : List (Value × Value)) (i : Nat) (p0 p1 : Value) (vb : Nat) (w : World) (h : w.ownsRow B 39 2 (.slice (some ⟨g,0,none⟩) l.length l.length) l.length (fl l)) (hone : ∀ v ∈ fl l,v.oneCell' = true) (hp0 : p0.oneCell' = true) (hp1 : p1.oneCell' = true)
  (hv0 : w.cell? ⟨vb,0,none⟩ = some p0) (hv1 : w.cell? ⟨vb,1,none⟩ = some p1) (hi : i ≤ l.length) (hl : l.length ≤ 1000000) (hB : B ≤ w.heap.size) :
  Calls Tryz.prog 93 #[.slice (some ⟨g,0,none⟩) l.length l.length,.int .i64 (i : Int),.slice (some ⟨vb,0,none⟩) 1 1] w (InsP 39 B g (l.take i ++ (p0,p1) :: l.drop i) w) := by
 obtain ⟨i30,hi30,hz30,hs30,hb30⟩ := iRow
 have und30 := undRow
 have hnews : ∀ (W : World),W.cell? ⟨vb,0,none⟩ = some p0 → W.cell? ⟨vb,1,none⟩ = some p1 → ∀ j u,([p0,p1] : List Value)[j]? = some u → W.cell? ((⟨vb,0,none⟩ : Addr).add j) = some u := by
  intro W h0 h1 j u hu
  rw [Addr.add_lit]
  match j,hu with
  | 0,hu => simp at hu; subst hu; exact h0
  | 1,hu => simp at hu; subst hu; exact h1
 have hone2 : ∀ u ∈ ([p0,p1] : List Value),u.oneCell' = true := by
  intro u hu
  simp only [List.mem_cons,List.not_mem_nil,or_false] at hu
  rcases hu with rfl | rfl
  ·exact hp0
  ·exact hp1
 have HN := Lib.hid hnews
 have HO2 := Lib.hid hone2
 have HO := Lib.hid h
 have HONE := Lib.hid hone
 have HB := Lib.hid hB
 have HL := Lib.hid hl
 have HV0 := Lib.hid hv0
 have HV1 := Lib.hid hv1
 have hgl := (h.lt g rfl).2
 have hvl : vb < w.heap.size := World.block_lt_of_cell? w _ hv0
 have HGL := Lib.hid hgl
 have HVL := Lib.hid hvl
 have hll := insLen l i (p0,p1) hi
 obtain ⟨R,hR⟩ : ∃ R,l.take i ++ (p0,p1) :: l.drop i = R := ⟨_,rfl⟩
 rw [hR] at hll ⊢
 have HR := Lib.hid hR
 obtain ⟨n1,hn1⟩ : ∃ n1,l.length + 1 = n1 := ⟨_,rfl⟩
 rw [hn1] at hll
 have HRL := Lib.hid hll
 have HN1 := Lib.hid hn1
 have l0 : (0 : Int) ≤ (i : Int) := by omega
 have l1 : (i : Int) ≤ (l.length : Int) := by omega
 have wk : IntKind.i64.wrap ((l.length : Int) + 1) = (n1 : Int) := by rw [show (l.length : Int) + 1 = (n1 : Int) by omega]; exact IntWalk.i64_in _ (by omega)
 unfold InsP
 rw [hll]
 clear h hone hp0 hp1 hnews hone2 hl hgl hvl hR hll hB
 by_cases hin : i = l.length
 ·subst hin
  clear hv0 hv1
  go_enter Tryz.func93,Tryz.ntmps93
  go_wp2_with (at_builtin; refine wpList_append_lies _ rfl _ _ 30 rfl B 39 i30 (.agg #[.int .i64 0,.int .i64 0]) 2 16 und30 hi30 hz30 hs30 hb30 rfl (by decide) _ l.length (fl l) rfl HO.out ⟨vb,0,none⟩ 1 1 [p0,p1] rfl rfl ?c1 ?c2 (by decide) ?c3 ?c4 ?c5 _ rfl ?_)
  all_goals first
   | exact HN.out _ HV0.out HV1.out
   | exact HO2.out
   | (have := HL.out; unfold maxLen; omega)
   | (have := HL.out; omega)
   | exact HB.out
   | skip
  intro g9 cap9 w9 hown9 hgr9 hat9 hlt9
  have hR2 := HR.out
  rw [List.take_of_length_le (Nat.le_refl _),List.drop_of_length_le (Nat.le_refl _)] at hR2
  have hown8 : w9.ownsRow B 39 2 (.slice (some ⟨g9,0,none⟩) n1 cap9) n1 (fl R) := by
   rw [← hR2,fl_append]
   exact hown9
  have HO9 := Lib.hid hown8
  have HG9 := Lib.hid hgr9
  have hat8 : g9 = g ∨ w.heap.size ≤ g9 := by
   rcases hat9 with h | h
   ·left; injection h with h; exact h.symm
   ·right; omega
  have HA9 := Lib.hid hat8
  clear hown9 hown8 hgr9 hat9 hat8 hR2
  go_wp2
  go_ret
  exact ⟨g9,cap9,rfl,HO9.out,HG9.out,HA9.out⟩
 ·have hil : i < l.length := by omega
  have HIL := Lib.hid hil
  obtain ⟨k,hk⟩ : ∃ k,n1 - i = k := ⟨_,rfl⟩
  have HK := Lib.hid hk
  have wk2 : IntKind.i64.wrap ((n1 : Int) - (i : Int)) = (k : Int) := by rw [show (n1 : Int) - (i : Int) = (k : Int) by omega]; exact IntWalk.i64_in _ (by have := HL.out; have := HN1.out; omega)
  have l2 : ¬ ((i : Int) = (l.length : Int)) := by omega
  have l3 : (l.length : Int) < (n1 : Int) := by omega
  have l4 : ¬ (l.length = i) := by omega
  obtain ⟨i1,hi1⟩ : ∃ i1,i + 1 = i1 := ⟨_,rfl⟩
  have HI1 := Lib.hid hi1
  have wk3 : IntKind.i64.wrap ((i : Int) + 1) = (i1 : Int) := by rw [show (i : Int) + 1 = (i1 : Int) by omega]; exact IntWalk.i64_in _ (by have := HL.out; have := HIL.out; omega)
  obtain ⟨c,w1,hrun,hown,hgr⟩ := run_app_zeros (P := Tryz.prog) (w := w) (B := B) (e := 39) 30 3 30 i30 (.int .i64 0) (.int .i64 0) 16 .i64 .i64 und30 Tryz.underlying3 hi30 hz30 hs30 hb30
   (some ⟨g,0,none⟩) i l.length (fl (l.take i)) (by rw [fl_len,List.length_take]; omega) (fun _ => ⟨_,rfl,fun j v hj => by
    rw [fl_take,List.getElem?_take] at hj
    split at hj
    ·have := HO.out.cells rfl j v hj
     exact this
    ·cases hj⟩) k (by omega) (by omega) HB.out (by have := HL.out; omega) (by have := HL.out; unfold maxLen; omega)
  have hik : i + k = n1 := by omega
  rw [hik] at hrun hown
  have hcap : n1 ≤ c := by
   rcases hown.2 with ⟨h',_⟩ | ⟨g',cap',cur,h',_,_,hnc,_⟩
   ·cases h'
   ·injection h' with _ _ h'; omega
  have l5 : (n1 : Int) ≤ (c : Int) := by omega
  have l6 : ¬ (c = i) := by omega
  have l7 : ¬ (c = i1) := by omega
  have l8 : (i : Int) ≤ (n1 : Int) := by omega
  have l9 : (i1 : Int) ≤ (n1 : Int) := by omega
  have l10 : (0 : Int) ≤ (i1 : Int) := by omega
  have HIK := Lib.hid hik
  have HC := Lib.hid hcap
  have HOW := Lib.hid hown
  have HGR := Lib.hid hgr
  have x0 : w1.cell? ⟨vb,0,none⟩ = some p0 := hgr.cell (a := ⟨vb,0,none⟩) hv0 (by simp)
  have x1 : w1.cell? ⟨vb,1,none⟩ = some p1 := hgr.cell (a := ⟨vb,1,none⟩) hv1 (by simp)
  have HX0 := Lib.hid x0
  have HX1 := Lib.hid x1
  clear x0 x1 hv0 hv1 hin hil hk hi1 hown hgr hik hcap
  obtain ⟨H,hH⟩ : ∃ H,w.heap.size = H := ⟨_,rfl⟩
  have HH := Lib.hid hH
  rw [hH] at hrun HOW ⊢
  clear hH
  go_enter Tryz.func93,Tryz.ntmps93
  go_wp2_with (first
   | (at_builtin; refine Lib.wpList_append_run _ rfl _ _ _ _ rfl _ _ rfl rfl _ _ hrun ?_)
   | (refine wpList_copy2 rfl _ _ 30 30 rfl i30 und30 hi30 hs30 _ _ _ _ _ _ rfl rfl HOW.out [p0,p1] ?d1 ?d2 ?d3 HO2.out ?_))
  case d1 =>
   have := HIL.out; have := HN1.out
   rw [show Nat.min 1 (n1 - i) = 1 from Nat.min_eq_left (by omega)]; rfl
  case d2 => exact fun _ => ⟨_,rfl,HN.out w1 HX0.out HX1.out⟩
  case d3 =>
   have := HIL.out; have := HN1.out
   show i * 2 + 2 ≤ n1 * 2
   omega
  intro w3 ho3 hg3
  have hm1 : Nat.min 1 (n1 - i) = 1 := Nat.min_eq_left (by have := HIL.out; have := HN1.out; omega)
  have hm2 : Nat.min (l.length - i) (n1 - i1) = l.length - i := Nat.min_eq_left (by have := HIL.out; have := HN1.out; have := HI1.out; omega)
  have hdl : (fl (l.drop i)).length = (l.length - i) * 2 := by rw [fl_len,List.length_drop]
  have hsrc : ∀ j v,(fl (l.drop i))[j]? = some v → w3.cell? ((⟨g,i * 2,none⟩ : Addr).add j) = some v := by
   intro j v hj
   rw [fl_drop,List.getElem?_drop] at hj
   have h1 := HO.out.cells rfl (i * 2 + j) v hj
   rw [Addr.add_lit,Nat.zero_add] at h1
   rw [Addr.add_lit]
   have hne : g ≠ H := by have := HGL.out; have := HH.out; omega
   exact hg3.cell (a := ⟨g,i * 2 + j,none⟩) (HGR.out.cell (a := ⟨g,i * 2 + j,none⟩) h1 (by simp)) (fun e => hne (by injection e))
  have HSRC := Lib.hid hsrc
  have HO3 := Lib.hid ho3
  have HG3 := Lib.hid hg3
  have HM2 := Lib.hid hm2
  have HDL := Lib.hid hdl
  have HONED : Hid (∀ v ∈ fl (l.drop i),v.oneCell' = true) := Lib.hid (fun v hv => HONE.out v (by rw [fl_drop] at hv; exact List.mem_of_mem_drop hv))
  clear hsrc ho3 hg3 hm2 hdl
  rw [hm1]
  clear hm1
  go_wp2_with fail
  go_region_law (refine step_copy2 rfl _ _ 30 30 rfl i30 und30 hi30 hs30 (i1 * 2) (n1 - i1) (c - i1) (some ⟨g,i * 2,none⟩) (l.length - i) (l.length - i) (by simp [Act.eval,Act.put]) (by simp [Act.eval,Act.put]) HO3.out (fl (l.drop i)) (by rw [HM2.out]; exact HDL.out) (fun _ => ⟨_,rfl,HSRC.out⟩) (by rw [HDL.out]; have := HIL.out; have := HN1.out; have := HI1.out; omega) HONED.out ?_; intro w4 ho4 hg4)
  have HO4 := Lib.hid ho4
  have HG4 := Lib.hid hg4
  clear ho4 hg4
  go_wp2
  go_ret
  have hO := HO4.out
  rw [splice_ins _ _ _ _ _ _ (by rw [fl_len,List.length_take,Nat.min_eq_left (Nat.le_of_lt HIL.out)]) (by have := HI1.out; show i * 2 + 2 = i1 * 2; omega) (by rw [fl_len,List.length_replicate,HDL.out]; have := HIK.out; have := HN1.out; have := HIL.out; show k * 2 = 2 + _; omega)] at hO
  have hG : w.grownBy w4 (some g) := by
   have g1 := HGR.out
   have hsz := HH.out
   refine ⟨HG4.out.os.trans (HG3.out.os.trans g1.os),HG4.out.tape.trans (HG3.out.tape.trans g1.tape),HG4.out.output.trans (HG3.out.output.trans g1.output),Nat.le_trans g1.size (Nat.le_trans HG3.out.size HG4.out.size),fun q hq _ => ?_⟩
   have hqH : some q ≠ some H := fun e => by injection e with e; omega
   have h1 := g1.size
   exact (HG4.out.block q (Nat.lt_of_lt_of_le hq (Nat.le_trans h1 HG3.out.size)) hqH).trans ((HG3.out.block q (Nat.lt_of_lt_of_le hq h1) hqH).trans (g1.block q hq (by simp)))
  refine ⟨H,c,rfl,?_,hG,.inr (Nat.le_refl _)⟩
  rw [← HR.out,fl_append]
  exact hO
set_option maxHeartbeats 4000000 in
theorem tinsert_any (B g : Nat) (l : List (Value × Value)) (i : Nat) (p0 p1 : Value) (vb : Nat) (w : World) (h : w.ownsRow B 37 2 (.slice (some ⟨g,0,none⟩) l.length l.length) l.length (fl l)) (hone : ∀ v ∈ fl l,v.oneCell' = true) (hp0 : p0.oneCell' = true) (hp1 : p1.oneCell' = true)
  (hv0 : w.cell? ⟨vb,0,none⟩ = some p0) (hv1 : w.cell? ⟨vb,1,none⟩ = some p1) (hi : i ≤ l.length) (hl : l.length ≤ 1000000) (hB : B ≤ w.heap.size) :
  Calls Tryz.prog 91 #[.slice (some ⟨g,0,none⟩) l.length l.length,.int .i64 (i : Int),.slice (some ⟨vb,0,none⟩) 1 1] w (InsP 37 B g (l.take i ++ (p0,p1) :: l.drop i) w) := by
 obtain ⟨i30,hi30,hz30,hs30,hb30⟩ := iTab
 have und30 := undTab
 have hnews : ∀ (W : World),W.cell? ⟨vb,0,none⟩ = some p0 → W.cell? ⟨vb,1,none⟩ = some p1 → ∀ j u,([p0,p1] : List Value)[j]? = some u → W.cell? ((⟨vb,0,none⟩ : Addr).add j) = some u := by
  intro W h0 h1 j u hu
  rw [Addr.add_lit]
  match j,hu with
  | 0,hu => simp at hu; subst hu; exact h0
  | 1,hu => simp at hu; subst hu; exact h1
 have hone2 : ∀ u ∈ ([p0,p1] : List Value),u.oneCell' = true := by
  intro u hu
  simp only [List.mem_cons,List.not_mem_nil,or_false] at hu
  rcases hu with rfl | rfl
  ·exact hp0
  ·exact hp1
 have HN := Lib.hid hnews
 have HO2 := Lib.hid hone2
 have HO := Lib.hid h
 have HONE := Lib.hid hone
 have HB := Lib.hid hB
 have HL := Lib.hid hl
 have HV0 := Lib.hid hv0
 have HV1 := Lib.hid hv1
 have hgl := (h.lt g rfl).2
 have hvl : vb < w.heap.size := World.block_lt_of_cell? w _ hv0
 have HGL := Lib.hid hgl
 have HVL := Lib.hid hvl
 have hll := insLen l i (p0,p1) hi
 obtain ⟨R,hR⟩ : ∃ R,l.take i ++ (p0,p1) :: l.drop i = R := ⟨_,rfl⟩
 rw [hR] at hll ⊢
 have HR := Lib.hid hR
 obtain ⟨n1,hn1⟩ : ∃ n1,l.length + 1 = n1 := ⟨_,rfl⟩
 rw [hn1] at hll
 have HRL := Lib.hid hll
 have HN1 := Lib.hid hn1
 have l0 : (0 : Int) ≤ (i : Int) := by omega
 have l1 : (i : Int) ≤ (l.length : Int) := by omega
 have wk : IntKind.i64.wrap ((l.length : Int) + 1) = (n1 : Int) := by rw [show (l.length : Int) + 1 = (n1 : Int) by omega]; exact IntWalk.i64_in _ (by omega)
 unfold InsP
 rw [hll]
 clear h hone hp0 hp1 hnews hone2 hl hgl hvl hR hll hB
 by_cases hin : i = l.length
 ·subst hin
  clear hv0 hv1
  go_enter Tryz.func91,Tryz.ntmps91
  go_wp2_with (at_builtin; refine wpList_append_lies _ rfl _ _ 22 rfl B 37 i30 (.agg #[.string ByteArray.empty,.slice none 0 0]) 2 40 und30 hi30 hz30 hs30 hb30 rfl (by decide) _ l.length (fl l) rfl HO.out ⟨vb,0,none⟩ 1 1 [p0,p1] rfl rfl ?c1 ?c2 (by decide) ?c3 ?c4 ?c5 _ rfl ?_)
  all_goals first
   | exact HN.out _ HV0.out HV1.out
   | exact HO2.out
   | (have := HL.out; unfold maxLen; omega)
   | (have := HL.out; omega)
   | exact HB.out
   | skip
  intro g9 cap9 w9 hown9 hgr9 hat9 hlt9
  have hR2 := HR.out
  rw [List.take_of_length_le (Nat.le_refl _),List.drop_of_length_le (Nat.le_refl _)] at hR2
  have hown8 : w9.ownsRow B 37 2 (.slice (some ⟨g9,0,none⟩) n1 cap9) n1 (fl R) := by
   rw [← hR2,fl_append]
   exact hown9
  have HO9 := Lib.hid hown8
  have HG9 := Lib.hid hgr9
  have hat8 : g9 = g ∨ w.heap.size ≤ g9 := by
   rcases hat9 with h | h
   ·left; injection h with h; exact h.symm
   ·right; omega
  have HA9 := Lib.hid hat8
  clear hown9 hown8 hgr9 hat9 hat8 hR2
  go_wp2
  go_ret
  exact ⟨g9,cap9,rfl,HO9.out,HG9.out,HA9.out⟩
 ·have hil : i < l.length := by omega
  have HIL := Lib.hid hil
  obtain ⟨k,hk⟩ : ∃ k,n1 - i = k := ⟨_,rfl⟩
  have HK := Lib.hid hk
  have wk2 : IntKind.i64.wrap ((n1 : Int) - (i : Int)) = (k : Int) := by rw [show (n1 : Int) - (i : Int) = (k : Int) by omega]; exact IntWalk.i64_in _ (by have := HL.out; have := HN1.out; omega)
  have l2 : ¬ ((i : Int) = (l.length : Int)) := by omega
  have l3 : (l.length : Int) < (n1 : Int) := by omega
  have l4 : ¬ (l.length = i) := by omega
  obtain ⟨i1,hi1⟩ : ∃ i1,i + 1 = i1 := ⟨_,rfl⟩
  have HI1 := Lib.hid hi1
  have wk3 : IntKind.i64.wrap ((i : Int) + 1) = (i1 : Int) := by rw [show (i : Int) + 1 = (i1 : Int) by omega]; exact IntWalk.i64_in _ (by have := HL.out; have := HIL.out; omega)
  obtain ⟨c,w1,hrun,hown,hgr⟩ := run_app_zeros (P := Tryz.prog) (w := w) (B := B) (e := 37) 22 3 22 i30 (.string ByteArray.empty) (.slice none 0 0) 40 .i64 .i64 und30 Tryz.underlying3 hi30 hz30 hs30 hb30
   (some ⟨g,0,none⟩) i l.length (fl (l.take i)) (by rw [fl_len,List.length_take]; omega) (fun _ => ⟨_,rfl,fun j v hj => by
    rw [fl_take,List.getElem?_take] at hj
    split at hj
    ·have := HO.out.cells rfl j v hj
     exact this
    ·cases hj⟩) k (by omega) (by omega) HB.out (by have := HL.out; omega) (by have := HL.out; unfold maxLen; omega)
  have hik : i + k = n1 := by omega
  rw [hik] at hrun hown
  have hcap : n1 ≤ c := by
   rcases hown.2 with ⟨h',_⟩ | ⟨g',cap',cur,h',_,_,hnc,_⟩
   ·cases h'
   ·injection h' with _ _ h'; omega
  have l5 : (n1 : Int) ≤ (c : Int) := by omega
  have l6 : ¬ (c = i) := by omega
  have l7 : ¬ (c = i1) := by omega
  have l8 : (i : Int) ≤ (n1 : Int) := by omega
  have l9 : (i1 : Int) ≤ (n1 : Int) := by omega
  have l10 : (0 : Int) ≤ (i1 : Int) := by omega
  have HIK := Lib.hid hik
  have HC := Lib.hid hcap
  have HOW := Lib.hid hown
  have HGR := Lib.hid hgr
  have x0 : w1.cell? ⟨vb,0,none⟩ = some p0 := hgr.cell (a := ⟨vb,0,none⟩) hv0 (by simp)
  have x1 : w1.cell? ⟨vb,1,none⟩ = some p1 := hgr.cell (a := ⟨vb,1,none⟩) hv1 (by simp)
  have HX0 := Lib.hid x0
  have HX1 := Lib.hid x1
  clear x0 x1 hv0 hv1 hin hil hk hi1 hown hgr hik hcap
  obtain ⟨H,hH⟩ : ∃ H,w.heap.size = H := ⟨_,rfl⟩
  have HH := Lib.hid hH
  rw [hH] at hrun HOW ⊢
  clear hH
  go_enter Tryz.func91,Tryz.ntmps91
  go_wp2_with (first
   | (at_builtin; refine Lib.wpList_append_run _ rfl _ _ _ _ rfl _ _ rfl rfl _ _ hrun ?_)
   | (refine wpList_copy2 rfl _ _ 22 22 rfl i30 und30 hi30 hs30 _ _ _ _ _ _ rfl rfl HOW.out [p0,p1] ?d1 ?d2 ?d3 HO2.out ?_))
  case d1 =>
   have := HIL.out; have := HN1.out
   rw [show Nat.min 1 (n1 - i) = 1 from Nat.min_eq_left (by omega)]; rfl
  case d2 => exact fun _ => ⟨_,rfl,HN.out w1 HX0.out HX1.out⟩
  case d3 =>
   have := HIL.out; have := HN1.out
   show i * 2 + 2 ≤ n1 * 2
   omega
  intro w3 ho3 hg3
  have hm1 : Nat.min 1 (n1 - i) = 1 := Nat.min_eq_left (by have := HIL.out; have := HN1.out; omega)
  have hm2 : Nat.min (l.length - i) (n1 - i1) = l.length - i := Nat.min_eq_left (by have := HIL.out; have := HN1.out; have := HI1.out; omega)
  have hdl : (fl (l.drop i)).length = (l.length - i) * 2 := by rw [fl_len,List.length_drop]
  have hsrc : ∀ j v,(fl (l.drop i))[j]? = some v → w3.cell? ((⟨g,i * 2,none⟩ : Addr).add j) = some v := by
   intro j v hj
   rw [fl_drop,List.getElem?_drop] at hj
   have h1 := HO.out.cells rfl (i * 2 + j) v hj
   rw [Addr.add_lit,Nat.zero_add] at h1
   rw [Addr.add_lit]
   have hne : g ≠ H := by have := HGL.out; have := HH.out; omega
   exact hg3.cell (a := ⟨g,i * 2 + j,none⟩) (HGR.out.cell (a := ⟨g,i * 2 + j,none⟩) h1 (by simp)) (fun e => hne (by injection e))
  have HSRC := Lib.hid hsrc
  have HO3 := Lib.hid ho3
  have HG3 := Lib.hid hg3
  have HM2 := Lib.hid hm2
  have HDL := Lib.hid hdl
  have HONED : Hid (∀ v ∈ fl (l.drop i),v.oneCell' = true) := Lib.hid (fun v hv => HONE.out v (by rw [fl_drop] at hv; exact List.mem_of_mem_drop hv))
  clear hsrc ho3 hg3 hm2 hdl
  rw [hm1]
  clear hm1
  go_wp2_with fail
  go_region_law (refine step_copy2 rfl _ _ 22 22 rfl i30 und30 hi30 hs30 (i1 * 2) (n1 - i1) (c - i1) (some ⟨g,i * 2,none⟩) (l.length - i) (l.length - i) (by simp [Act.eval,Act.put]) (by simp [Act.eval,Act.put]) HO3.out (fl (l.drop i)) (by rw [HM2.out]; exact HDL.out) (fun _ => ⟨_,rfl,HSRC.out⟩) (by rw [HDL.out]; have := HIL.out; have := HN1.out; have := HI1.out; omega) HONED.out ?_; intro w4 ho4 hg4)
  have HO4 := Lib.hid ho4
  have HG4 := Lib.hid hg4
  clear ho4 hg4
  go_wp2
  go_ret
  have hO := HO4.out
  rw [splice_ins _ _ _ _ _ _ (by rw [fl_len,List.length_take,Nat.min_eq_left (Nat.le_of_lt HIL.out)]) (by have := HI1.out; show i * 2 + 2 = i1 * 2; omega) (by rw [fl_len,List.length_replicate,HDL.out]; have := HIK.out; have := HN1.out; have := HIL.out; show k * 2 = 2 + _; omega)] at hO
  have hG : w.grownBy w4 (some g) := by
   have g1 := HGR.out
   have hsz := HH.out
   refine ⟨HG4.out.os.trans (HG3.out.os.trans g1.os),HG4.out.tape.trans (HG3.out.tape.trans g1.tape),HG4.out.output.trans (HG3.out.output.trans g1.output),Nat.le_trans g1.size (Nat.le_trans HG3.out.size HG4.out.size),fun q hq _ => ?_⟩
   have hqH : some q ≠ some H := fun e => by injection e with e; omega
   have h1 := g1.size
   exact (HG4.out.block q (Nat.lt_of_lt_of_le hq (Nat.le_trans h1 HG3.out.size)) hqH).trans ((HG3.out.block q (Nat.lt_of_lt_of_le hq h1) hqH).trans (g1.block q hq (by simp)))
  refine ⟨H,c,rfl,?_,hG,.inr (Nat.le_refl _)⟩
  rw [← HR.out,fl_append]
  exact hO

def idxM (kb : Bool) (K : Int) : List Rw → Nat → Int
 | [],_ => -1
 | r :: t,i => if meantB kb K r = true then (i : Int) else idxM kb K t (i + 1)
theorem idx_some (kb : Bool) (K : Int) : ∀ (l : List Rw) (i : Nat),(idxM kb K l i = -1 ∧ ∀ r ∈ l,meantB kb K r = false) ∨ ∃ k r,idxM kb K l i = ((i + k : Nat) : Int) ∧ l[k]? = some r ∧ meantB kb K r = true ∧ ∀ x ∈ l.take k,meantB kb K x = false
 | [],i => .inl ⟨rfl,fun r h => by simp at h⟩
 | r :: t,i => by
  rw [idxM]
  by_cases h : meantB kb K r = true
  ·rw [if_pos h]; exact .inr ⟨0,r,by simp,rfl,h,fun x hx => by simp at hx⟩
  ·rw [if_neg h]
   have h0 : meantB kb K r = false := by simpa using h
   rcases idx_some kb K t (i + 1) with ⟨h1,h2⟩ | ⟨k,u,h1,h2,h3,h4⟩
   ·refine .inl ⟨h1,fun x hx => ?_⟩
    rcases List.mem_cons.1 hx with rfl | hx
    ·exact h0
    ·exact h2 x hx
   ·refine .inr ⟨k + 1,u,by rw [h1]; congr 1; omega,by simpa using h2,h3,fun x hx => ?_⟩
    rw [List.take_succ_cons] at hx
    rcases List.mem_cons.1 hx with rfl | hx
    ·exact h0
    ·exact h4 x hx
theorem del_none {kb : Bool} {K : Int} {l : List Rw} (h : ∀ r ∈ l,meantB kb K r = false) : delR kb K l = l := by
 unfold delR
 rw [List.filter_eq_self]
 intro a ha
 rw [h a ha]; rfl
theorem del_snoc (kb : Bool) (K : Int) {l : List Rw} {i : Nat} {r : Rw} (h : l[i]? = some r) : delR kb K (l.take (i + 1)) = if meantB kb K r = true then delR kb K (l.take i) else delR kb K (l.take i) ++ [r] := by
 unfold delR
 rw [List.take_add_one,h,Option.toList_some,List.filter_append,List.filter_cons]
 cases meantB kb K r <;> simp
set_option maxHeartbeats 2000000 in
theorem ridx_any (v : Value) (l : List Rw) (x : Nat) (kb : Bool) (K : Int) (w : World) (h : RR w v l) (hc : CK w x kb K) (hs : l.length ≤ 1000000) :
  Calls Tryz.prog 94 #[v,.func (.func 50) #[] #[.pointer (some ⟨x,0,none⟩)]] w fun e w' => e = .returned (.int .i64 (idxM kb K l 0)) ∧ Below w.heap.size w w' := by
 obtain ⟨R,hR⟩ : ∃ R,idxM kb K l 0 = R := ⟨_,rfl⟩
 rw [hR]
 obtain ⟨a,cap,rfl⟩ := h.form
 have HH := Lib.hid h
 have HR := Lib.hid hR
 have HC := Lib.hid hc
 have HX := Lib.hid hc.lt
 have HS := Lib.hid hs
 have henter : ∀ args w,(callFunc 50 args).run Tryz.prog w = .ok (.enter 50 args) w := fun args w => by show Sem.run Tryz.prog (callFunc 50 args) w = _; go_simp
 clear h hR hc hs
 go_enter Tryz.func94,Tryz.ntmps94
 go_wp2
 go_loopg [8] l.length (fun gk u8 wx => ∃ i : Nat,u8 = .int .i64 (i : Int) ∧ i + gk = l.length ∧ Below w.heap.size w wx ∧ idxM kb K (l.drop i) i = R)
 case atStart => exact ⟨0,rfl,by omega,Below.refl _ _,HR.out⟩
 case round =>
  obtain ⟨i,rfl,hi,hB,hr⟩ := hrel
  have HB := Lib.hid hB
  have HI := Lib.hid hi
  cases gk with
  | zero =>
   have l1 : ¬ ((i : Int) < (l.length : Int)) := by omega
   have hR : R = -1 := by rw [← hr,List.drop_of_length_le (by omega)]; rfl
   subst hR
   clear hB hi hr
   go_wp2
   go_ret
   exact ⟨rfl,HB.out⟩
  | succ gk =>
   have hlt : i < l.length := by omega
   have hRR := HH.out.below hB
   obtain ⟨b,o,cp,he,hcp,hx⟩ := hRR.inv (by omega)
   injection he with ea _ ec
   subst ea ec
   obtain ⟨t,ht0⟩ : ∃ t,l[i] = t := ⟨_,rfl⟩
   obtain ⟨x0,x1⟩ := hx i t (by rw [List.getElem?_eq_getElem hlt,ht0])
   have l0 : (0 : Int) ≤ (i : Int) := by omega
   have l1 : (i : Int) < (l.length : Int) := by omega
   obtain ⟨i1,hi1⟩ : ∃ i1,i + 1 = i1 := ⟨_,rfl⟩
   have wk : IntKind.i64.wrap ((i : Int) + 1) = (i1 : Int) := by rw [show (i : Int) + 1 = (i1 : Int) by omega]; exact IntWalk.i64_in _ (by have := HS.out; omega)
   have HI1 := Lib.hid hi1
   rw [List.drop_eq_getElem_cons hlt,ht0,idxM,hi1] at hr
   obtain ⟨r0,r1⟩ := t
   have HF := Lib.hid (meant_any r0 r1 x kb K wr (HC.out.below hB HX.out))
   obtain ⟨Q,hQ⟩ : ∃ Q,meantB kb K (r0,r1) = Q := ⟨_,rfl⟩
   rw [hQ] at HF
   simp only [hQ] at hr
   have HR2 := Lib.hid hr
   clear hB hi hr hRR hx ht0 hi1 hQ hlt
   cases Q with
   | true =>
    have hR : R = (i : Int) := by have := HR2.out; simpa using this.symm
    subst hR
    go_wp2_with (go_at_call 50; (refine HF.out.mono ?_); rintro e w2 ⟨rfl,hb2⟩; have HB2 := Lib.hid hb2; clear hb2)
    go_ret
    exact ⟨rfl,HB.out.trans (HB2.out.mono HB.out.size)⟩
   | false =>
    go_wp2_with (go_at_call 50; (refine HF.out.mono ?_); rintro e w2 ⟨rfl,hb2⟩; have HB2 := Lib.hid hb2; clear hb2)
    go_roundg gk
    case measure => exact Nat.lt_succ_self _
    case rel => exact ⟨i1,rfl,by have := HI1.out; have := HI.out; omega,HB.out.trans (HB2.out.mono HB.out.size),by have := HR2.out; simpa using this⟩
structure DelI (kb : Bool) (K : Int) (l m : List Rw) (i j : Nat) : Prop where
 len : m.length = l.length
 lt : i < j
 le : j ≤ l.length
 done : m.take i = delR kb K (l.take j)
 rest : m.drop j = l.drop j
theorem take_set_far {α : Type} (m : List α) (i j : Nat) (x : α) (h : i ≤ j) : (m.set j x).take i = m.take i := by
 apply List.ext_getElem?
 intro k
 rw [List.getElem?_take,List.getElem?_take]
 split
 ·rw [List.getElem?_set,if_neg (by omega)]
 ·rfl
theorem drop_set_far {α : Type} (m : List α) (i j : Nat) (x : α) (h : i < j) : (m.set i x).drop j = m.drop j := by
 apply List.ext_getElem?
 intro k
 rw [List.getElem?_drop,List.getElem?_drop,List.getElem?_set,if_neg (by omega)]
theorem DelI.at_ {kb : Bool} {K : Int} {l m : List Rw} {i j : Nat} (h : DelI kb K l m i j) (hj : j < l.length) : m[j]? = some l[j] := by
 have := congrArg (fun q => q[0]?) h.rest
 simp only [List.getElem?_drop,Nat.add_zero] at this
 rw [this,List.getElem?_eq_getElem hj]
theorem DelI.skip {kb : Bool} {K : Int} {l m : List Rw} {i j : Nat} (h : DelI kb K l m i j) (hj : j < l.length) (hm : meantB kb K l[j] = true) : DelI kb K l m i (j + 1) :=
 ⟨h.len,by have := h.lt; omega,hj,by rw [del_snoc kb K (List.getElem?_eq_getElem hj),if_pos hm]; exact h.done,by
  have := congrArg (List.drop 1) h.rest
  rw [List.drop_drop,List.drop_drop] at this
  exact this⟩
theorem DelI.keep {kb : Bool} {K : Int} {l m : List Rw} {i j : Nat} (h : DelI kb K l m i j) (hj : j < l.length) (hm : meantB kb K l[j] = false) : DelI kb K l (m.set i l[j]) (i + 1) (j + 1) := by
 have hi := h.lt
 refine ⟨by rw [List.length_set]; exact h.len,by omega,hj,?_,?_⟩
 ·rw [del_snoc kb K (List.getElem?_eq_getElem hj),hm,if_neg (by decide),← h.done,List.take_add_one,List.getElem?_set,if_pos rfl,if_pos (by rw [h.len]; omega),take_set_far m i i _ (Nat.le_refl _)]
  rfl
 ·rw [drop_set_far _ _ _ _ (by omega)]
  have := congrArg (List.drop 1) h.rest
  rw [List.drop_drop,List.drop_drop] at this
  exact this
theorem DelI.start {kb : Bool} {K : Int} {l : List Rw} {i : Nat} {r : Rw} (hr : l[i]? = some r) (hm : meantB kb K r = true) (hf : ∀ x ∈ l.take i,meantB kb K x = false) : DelI kb K l l i (i + 1) := by
 have hi := (List.getElem?_eq_some_iff.1 hr).1
 exact ⟨rfl,by omega,hi,by rw [del_snoc kb K hr,if_pos hm,del_none hf],rfl⟩
theorem OR.cells {B g cap : Nat} {w : World} {l : List Rw} (h : OR B w (.slice (some ⟨g,0,none⟩) l.length cap) l) (i : Nat) (r : Rw) (hi : l[i]? = some r) : w.cell? ⟨g,i * 2,none⟩ = some (.int .i64 r.1) ∧ w.cell? ⟨g,i * 2 + 1,none⟩ = some (.int .i64 r.2) ∧ w.frozen? ⟨g,i * 2,none⟩ = false ∧ w.frozen? ⟨g,i * 2 + 1,none⟩ = false := by
 obtain ⟨h1,h2⟩ := rcs_at l i r hi
 have hl : i < l.length := (List.getElem?_eq_some_iff.1 hi).1
 have c := fun j hj => World.ownsRow.cellAt h (g := g) (n := l.length) (cap := cap) j hj
 exact ⟨(c (i * 2) (by omega)).trans h1,(c (i * 2 + 1) (by omega)).trans h2,World.ownsRow.frozenAt h _,World.ownsRow.frozenAt h _⟩
theorem rcs_set (l : List Rw) (i : Nat) (r q : Rw) (h : l[i]? = some r) : ((rcs l).set (i * 2) (.int .i64 q.1)).set (i * 2 + 1) (.int .i64 q.2) = rcs (l.set i q) := by
 unfold rcs
 have h1 : (l.map rp)[i]? = some (rp r) := by rw [List.getElem?_map,h]; rfl
 rw [fl_set1 _ i (rp r) _ h1,fl_set2 _ i (.int .i64 q.1,(rp r).2) _ (by rw [List.getElem?_set,if_pos rfl,if_pos (List.getElem?_eq_some_iff.1 h1).1 |> Eq.symm |>.symm]),List.set_set,List.map_set]
theorem OR.set {B g cap : Nat} {w : World} {l : List Rw} (h : OR B w (.slice (some ⟨g,0,none⟩) l.length cap) l) (i : Nat) (r q : Rw) (hi : l[i]? = some r) :
  OR B ((w.setCell ⟨g,i * 2,none⟩ (.int .i64 q.1)).setCell ⟨g,i * 2 + 1,none⟩ (.int .i64 q.2)) (.slice (some ⟨g,0,none⟩) l.length cap) (l.set i q) ∧ w.grownBy ((w.setCell ⟨g,i * 2,none⟩ (.int .i64 q.1)).setCell ⟨g,i * 2 + 1,none⟩ (.int .i64 q.2)) (some g) := by
 obtain ⟨a1,a2⟩ := World.ownsRow.stored h (i * 2) (.int .i64 q.1)
 obtain ⟨b1,b2⟩ := World.ownsRow.stored a1 (i * 2 + 1) (.int .i64 q.2)
 rw [rcs_set l i r q hi] at b1
 exact ⟨by unfold OR; rw [List.length_set]; exact b1,⟨b2.os.trans a2.os,b2.tape.trans a2.tape,b2.output.trans a2.output,Nat.le_trans a2.size b2.size,fun k hk hn => (b2.block k (Nat.lt_of_lt_of_le hk a2.size) hn).trans (a2.block k hk hn)⟩⟩
theorem grown_trans {a b c : World} {row : Option Nat} (h : a.grownBy b row) (k : b.grownBy c row) : a.grownBy c row :=
 ⟨k.os.trans h.os,k.tape.trans h.tape,k.output.trans h.output,Nat.le_trans h.size k.size,fun i hi hn => (k.block i (Nat.lt_of_lt_of_le hi h.size) hn).trans (h.block i hi hn)⟩
theorem grown_bel {a b : World} {row : Option Nat} (h : Below a.heap.size a b) : a.grownBy b row := ⟨h.os,h.tape,h.output,h.size,fun k hk _ => h.block k hk⟩
def DelP (B : Nat) (g cap : Nat) (kb : Bool) (K : Int) (l : List Rw) (w : World) (e : Ending) (w' : World) : Prop :=
 e = .returned (.slice (some ⟨g,0,none⟩) (delR kb K l).length cap) ∧ OR B w' (.slice (some ⟨g,0,none⟩) (delR kb K l).length cap) (delR kb K l) ∧ w.grownBy w' (some g)
theorem splice_take {α : Type} (L : List α) (o k : Nat) (cs : List α) (h : k ≤ o) (h2 : o ≤ L.length) : (splice L o cs).take k = L.take k := by
 unfold splice
 rw [List.take_append_of_le_length (by rw [List.length_take]; omega),List.take_take]
 congr 1; omega

theorem retb {x y : Bool} (h : x = y) : Ending.returned (.bool x) = Ending.returned (.bool y) := by rw [h]
def letN (n : Int) : Bool := decide (97 ≤ n ∧ n ≤ 122 ∨ 65 ≤ n ∧ n ≤ 90 ∨ n = 95 ∨ 127 < n)
def digN (n : Int) : Bool := decide (48 ≤ n ∧ n ≤ 57)
def wordN (n : Int) : Bool := letN n || digN n || n == 36
def tagN (n : Int) : Bool := letN n || digN n
def numN (n : Int) : Bool := digN n || n == 46

theorem let_any (n : Int) (w : World) : Calls Tryz.prog 182 #[.int .i32 n] w fun e w' => e = .returned (.bool (letN n)) ∧ w' = w := by
 obtain ⟨b,hb⟩ : ∃ b,letN n = b := ⟨_,rfl⟩
 rw [hb]
 have HB := Lib.hid hb
 clear hb
 go_enter Tryz.func182,Tryz.ntmps182
 go_wp2
 all_goals
  go_ret
  refine ⟨?_,rfl⟩
  rw [← HB.out]
  refine retb ?_
  unfold letN
  rw [Bool.eq_iff_iff]
  simp
  try omega
theorem dig_any (n : Int) (w : World) : Calls Tryz.prog 187 #[.int .i32 n] w fun e w' => e = .returned (.bool (digN n)) ∧ w' = w := by
 obtain ⟨b,hb⟩ : ∃ b,digN n = b := ⟨_,rfl⟩
 rw [hb]
 have HB := Lib.hid hb
 clear hb
 go_enter Tryz.func187,Tryz.ntmps187
 go_wp2
 all_goals
  go_ret
  refine ⟨?_,rfl⟩
  rw [← HB.out]
  refine retb ?_
  unfold digN
  rw [Bool.eq_iff_iff]
  simp
  try omega
theorem rlet_any (n : Int) (w : World) : Calls Tryz.prog 107 #[.int .u8 n] w fun e w' => e = .returned (.bool (letN n)) ∧ w' = w := by
 obtain ⟨b,hb⟩ : ∃ b,letN n = b := ⟨_,rfl⟩
 rw [hb]
 have HB := Lib.hid hb
 clear hb
 go_enter Tryz.func107,Tryz.ntmps107
 go_wp2
 all_goals
  go_ret
  refine ⟨?_,rfl⟩
  rw [← HB.out]
  refine retb ?_
  unfold letN
  rw [Bool.eq_iff_iff]
  simp
  try omega
theorem rdig_any (n : Int) (w : World) : Calls Tryz.prog 110 #[.int .u8 n] w fun e w' => e = .returned (.bool (digN n)) ∧ w' = w := by
 obtain ⟨b,hb⟩ : ∃ b,digN n = b := ⟨_,rfl⟩
 rw [hb]
 have HB := Lib.hid hb
 clear hb
 go_enter Tryz.func110,Tryz.ntmps110
 go_wp2
 all_goals
  go_ret
  refine ⟨?_,rfl⟩
  rw [← HB.out]
  refine retb ?_
  unfold digN
  rw [Bool.eq_iff_iff]
  simp
  try omega
theorem let_b (n : Int) (b : Bool) (h : Hid (letN n = b)) (w : World) : Calls Tryz.prog 182 #[.int .i32 n] w fun e w' => e = .returned (.bool b) ∧ w' = w := by
 have := let_any n w
 rw [h.out] at this
 exact this
theorem dig_b (n : Int) (b : Bool) (h : Hid (digN n = b)) (w : World) : Calls Tryz.prog 187 #[.int .i32 n] w fun e w' => e = .returned (.bool b) ∧ w' = w := by
 have := dig_any n w
 rw [h.out] at this
 exact this
theorem word_any (n : Int) (w : World) : Calls Tryz.prog 183 #[.int .i32 n] w fun e w' => e = .returned (.bool (wordN n)) ∧ w' = w := by
 obtain ⟨b0,h0⟩ : ∃ b,letN n = b := ⟨_,rfl⟩
 have H0 := Lib.hid h0
 clear h0
 obtain ⟨b1,h1⟩ : ∃ b,digN n = b := ⟨_,rfl⟩
 have H1 := Lib.hid h1
 clear h1
 cases b0 <;> cases b1
 all_goals
  go_enter Tryz.func183,Tryz.ntmps183
  go_wp2_with (first | (go_at_call 182; (with_reducible refine (let_b n _ H0 _).mono ?_); rintro e w1 ⟨rfl,hw⟩; obtain rfl := hw.symm) | (go_at_call 187; (with_reducible refine (dig_b n _ H1 _).mono ?_); rintro e w1 ⟨rfl,hw⟩; obtain rfl := hw.symm))
 all_goals
  go_ret
  refine ⟨retb ?_,rfl⟩
  unfold wordN
  rw [H0.out,H1.out]
  try simp
theorem tag_any (n : Int) (w : World) : Calls Tryz.prog 252 #[.int .i32 n] w fun e w' => e = .returned (.bool (tagN n)) ∧ w' = w := by
 obtain ⟨b0,h0⟩ : ∃ b,letN n = b := ⟨_,rfl⟩
 have H0 := Lib.hid h0
 clear h0
 obtain ⟨b1,h1⟩ : ∃ b,digN n = b := ⟨_,rfl⟩
 have H1 := Lib.hid h1
 clear h1
 cases b0 <;> cases b1
 all_goals
  go_enter Tryz.func252,Tryz.ntmps252
  go_wp2_with (first | (go_at_call 182; (with_reducible refine (let_b n _ H0 _).mono ?_); rintro e w1 ⟨rfl,hw⟩; obtain rfl := hw.symm) | (go_at_call 187; (with_reducible refine (dig_b n _ H1 _).mono ?_); rintro e w1 ⟨rfl,hw⟩; obtain rfl := hw.symm))
 all_goals
  go_ret
  refine ⟨retb ?_,rfl⟩
  unfold tagN
  rw [H0.out,H1.out]
  try simp
theorem num_any (n : Int) (w : World) : Calls Tryz.prog 188 #[.int .i32 n] w fun e w' => e = .returned (.bool (numN n)) ∧ w' = w := by
 obtain ⟨b0,h0⟩ : ∃ b,digN n = b := ⟨_,rfl⟩
 have H0 := Lib.hid h0
 clear h0
 cases b0
 all_goals
  go_enter Tryz.func188,Tryz.ntmps188
  go_wp2_with (first | (go_at_call 187; (with_reducible refine (dig_b n _ H0 _).mono ?_); rintro e w1 ⟨rfl,hw⟩; obtain rfl := hw.symm))
 all_goals
  go_ret
  refine ⟨retb ?_,rfl⟩
  unfold numN
  rw [H0.out]
  try simp

def rowL (p : UInt8 → Bool) (l : Tx) : Nat := (l.takeWhile p).length
structure Kin (t : Int → Bool) (p : UInt8 → Bool) (hi : Bool) : Prop where
 low : ∀ c : UInt8,c.toNat < 128 → t (c.toNat : Int) = p c
 wide : ∀ n : Int,128 ≤ n → t n = hi
 bytes : ∀ c : UInt8,128 ≤ c.toNat → p c = hi
theorem rowL_at (p : UInt8 → Bool) (l : Tx) (n : Nat) (h1 : ∀ c ∈ l.take n,p c = true) (c : UInt8) (r : Tx) (h2 : l.drop n = c :: r) (h3 : p c = false) : rowL p l = n := by
 have hn : n < l.length := by
  have := congrArg List.length h2
  rw [List.length_drop,List.length_cons] at this; omega
 have e : l = l.take n ++ c :: r := by rw [← h2,List.take_append_drop]
 unfold rowL
 rw [e,List.takeWhile_append_of_pos h1,List.takeWhile_cons,if_neg (by rw [h3]; decide),List.append_nil,List.length_take]
 omega
theorem rowL_all (p : UInt8 → Bool) (l : Tx) (n : Nat) (h1 : ∀ c ∈ l.take n,p c = true) (hn : l.length ≤ n) : rowL p l = l.length := by
 rw [List.take_of_length_le hn] at h1
 unfold rowL
 have : l.takeWhile p = l := by
  have := List.takeWhile_append_of_pos (l₂ := []) h1
  simpa using this
 rw [this]
theorem get_list (s : ByteArray) (n : Nat) (h : n < s.size) : s.data.toList.drop n = s[n] :: s.data.toList.drop (n + 1) := by
 have hl : n < s.data.toList.length := by rw [← Lib.size_eq]; exact h
 rw [List.drop_eq_getElem_cons hl]
 rfl
theorem take_more (p : UInt8 → Bool) (s : ByteArray) (pos k : Nat) (h1 : ∀ c ∈ s.data.toList.take pos,p c = true) (h2 : ∀ j,j < k → ∀ hj : pos + j < s.size,p (s[pos + j]'hj) = true) (hk : pos + k ≤ s.size) : ∀ c ∈ s.data.toList.take (pos + k),p c = true := by
 induction k with
 | zero => exact h1
 | succ k ih =>
  have hlt : pos + k < s.data.toList.length := by rw [← Lib.size_eq]; omega
  have hlt2 : pos + k < s.size := by omega
  rw [← Nat.add_assoc,List.take_succ_eq_append_getElem hlt]
  intro c hc
  rcases List.mem_append.1 hc with hc | hc
  ·exact ih (fun j hj hj2 => h2 j (by omega) hj2) (by omega) c hc
  ·rw [List.mem_singleton.1 hc]
   exact h2 k (by omega) hlt2
theorem iter_below {w0 w : World} (g : Nat) (o : Obj) (B : Nat) (h : Below B w0 w) (hg : B ≤ g) : Below B w0 { w with heap := w.heap.setIfInBounds g o } := by
 refine ⟨h.os,h.tape,h.output,by simpa using h.size,fun k hk => ?_⟩
 rw [← h.block k hk]
 exact Array.getElem?_setIfInBounds_ne (by omega)
theorem row_step (t : Int → Bool) (p : UInt8 → Bool) (hi : Bool) (hs : Kin t p hi) (s : ByteArray) (pos : Nat) (hp : pos < s.size) (h : ∀ c ∈ s.data.toList.take pos,p c = true) :
  (t ((Utf8.decode s pos).1 : Nat) = false → rowL p s.data.toList = pos) ∧ (t ((Utf8.decode s pos).1 : Nat) = true → pos + (Utf8.decode s pos).2 ≤ s.size ∧ 1 ≤ (Utf8.decode s pos).2 ∧ ∀ c ∈ s.data.toList.take (pos + (Utf8.decode s pos).2),p c = true) := by
 by_cases ha : (s[pos]'hp).toNat < 128
 ·rw [decode_ascii s pos hp ha,hs.low _ ha]
  refine ⟨fun e => rowL_at p _ pos h _ _ (get_list s pos hp) e,fun e => ⟨hp,Nat.le_refl _,take_more p s pos 1 h (fun j hj hj2 => ?_) hp⟩⟩
  have : j = 0 := by omega
  subst this; exact e
 ·have ha' : 128 ≤ (s[pos]'hp).toNat := by omega
  obtain ⟨d1,d2⟩ := decode_high s pos hp ha'
  obtain ⟨e1,e2⟩ := decode_wide s pos hp ha'
  rw [hs.wide _ (by omega)]
  refine ⟨fun e => rowL_at p _ pos h _ _ (get_list s pos hp) (by rw [hs.bytes _ ha']; exact e),fun e => ⟨e1,d2,take_more p s pos _ h (fun j hj hj2 => ?_) e1⟩⟩
  rw [hs.bytes _ (e2 j hj hj2)]; exact e

set_option maxRecDepth 100000 in
theorem row_letter (t : Int → Bool) (p : UInt8 → Bool) (hi : Bool) (hs : Hid (Kin t p hi)) (s : ByteArray) (w : World)
  (hf : Hid (∀ (n : Int) (w : World),Calls Tryz.prog 182 #[.int .i32 n] w fun e w' => e = .returned (.bool (t n)) ∧ Below w.heap.size w w')) :
  Calls Tryz.prog 178 #[.string s,.func (.func 182) #[] #[]] w fun e w' => e = .returned (.int .i64 (rowL p s.data.toList : Nat)) ∧ Below w.heap.size w w' := by
 have h0 : (w.iter s 0).heap[w.heap.size]? = some (.stringIter s 0) := w.iter_heap s 0
 have hb0 : Below w.heap.size w (w.iter s 0) := (Below.refl _ _).alloc (Nat.le_refl _) _
 go_enter Tryz.func178,Tryz.ntmps178
 go_wp2
 go_loopw [5] (fun _ wr => ∃ pos,wr.heap[w.heap.size]? = some (.stringIter s pos) ∧ pos ≤ s.size ∧ (∀ c ∈ s.data.toList.take pos,p c = true) ∧ Below w.heap.size w wr) (fun _ wr => s.size - wr.iterPos w.heap.size)
 case atStart => exact ⟨0,h0,Nat.zero_le _,by simp,hb0⟩
 case round =>
  obtain ⟨pos,hg,hps,hall,hB⟩ := hrel
  clear h0 hb0
  have HG := Lib.hid hg
  have HALL := Lib.hid hall
  have HB := Lib.hid hB
  have hip : wr.iterPos w.heap.size = pos := by simp [World.iterPos,hg]
  have HIP := Lib.hid hip
  clear hg hall hB hip
  by_cases hp : pos < s.size
  ·have hnx : ∀ ty,(Instr.next (.pointer (some ⟨w.heap.size,0,none⟩)) true ty).run Tryz.prog wr = _ := fun ty => run_next_at_ wr w.heap.size s pos ty HG.out hp
   have st := row_step t p hi hs.out s pos hp HALL.out
   have h1 : ({ wr with heap := wr.heap.setIfInBounds w.heap.size (.stringIter s (pos + (Utf8.decode s pos).2)) } : World).heap[w.heap.size]? = some (.stringIter s (pos + (Utf8.decode s pos).2)) := by
    have hlt : w.heap.size < wr.heap.size := (Array.getElem?_eq_some_iff.1 HG.out).1
    simp [hlt]
   have hB1 := iter_below w.heap.size (.stringIter s (pos + (Utf8.decode s pos).2)) w.heap.size HB.out (Nat.le_refl _)
   generalize ({ wr with heap := wr.heap.setIfInBounds w.heap.size (.stringIter s (pos + (Utf8.decode s pos).2)) } : World) = w1 at *
   generalize (Utf8.decode s pos).1 = rn at *
   generalize (Utf8.decode s pos).2 = wd at *
   obtain ⟨b,hb⟩ : ∃ b,t (rn : Nat) = b := ⟨_,rfl⟩
   rw [hb] at st
   have F1 := hf.out (rn : Nat)
   rw [hb] at F1
   have HF1 := Lib.hid F1
   have ST := Lib.hid st
   have H1 := Lib.hid h1
   have HB1 := Lib.hid hB1
   clear F1 st hb h1 hB1
   cases b with
   | false =>
    have HR := Lib.hid (ST.out.1 rfl)
    clear ST
    go_wp2_with (go_at_call 182; refine (HF1.out _).mono ?_; rintro e w2 ⟨rfl,hb2⟩)
    go_ret
    exact ⟨by rw [HR.out]; rfl,HB1.out.trans (hb2.mono HB1.out.size)⟩
   | true =>
    obtain ⟨s1,s2,s3⟩ := ST.out.2 rfl
    go_wp2_with (go_at_call 182; refine (HF1.out _).mono ?_; rintro e w2 ⟨rfl,hb2⟩)
    go_roundw
    case rel => exact ⟨pos + wd,(hb2.block _ (Array.getElem?_eq_some_iff.1 H1.out).1).trans H1.out,s1,s3,HB1.out.trans (hb2.mono HB1.out.size)⟩
    case measure =>
     have e2 : w2.iterPos w.heap.size = pos + wd := by simp [World.iterPos,(hb2.block _ (Array.getElem?_eq_some_iff.1 H1.out).1).trans H1.out]
     rw [HIP.out,e2]; omega
  ·have hnx : ∀ ty,(Instr.next (.pointer (some ⟨w.heap.size,0,none⟩)) true ty).run Tryz.prog wr = _ := fun ty => run_next_over wr w.heap.size s pos ty HG.out hp
   go_wp2
   go_ret
   refine ⟨?_,HB.out⟩
   rw [rowL_all p _ pos HALL.out (by rw [← Lib.size_eq]; omega),← Lib.size_eq]; rfl
set_option maxRecDepth 100000 in
theorem row_word (t : Int → Bool) (p : UInt8 → Bool) (hi : Bool) (hs : Hid (Kin t p hi)) (s : ByteArray) (w : World)
  (hf : Hid (∀ (n : Int) (w : World),Calls Tryz.prog 183 #[.int .i32 n] w fun e w' => e = .returned (.bool (t n)) ∧ Below w.heap.size w w')) :
  Calls Tryz.prog 178 #[.string s,.func (.func 183) #[] #[]] w fun e w' => e = .returned (.int .i64 (rowL p s.data.toList : Nat)) ∧ Below w.heap.size w w' := by
 have h0 : (w.iter s 0).heap[w.heap.size]? = some (.stringIter s 0) := w.iter_heap s 0
 have hb0 : Below w.heap.size w (w.iter s 0) := (Below.refl _ _).alloc (Nat.le_refl _) _
 go_enter Tryz.func178,Tryz.ntmps178
 go_wp2
 go_loopw [5] (fun _ wr => ∃ pos,wr.heap[w.heap.size]? = some (.stringIter s pos) ∧ pos ≤ s.size ∧ (∀ c ∈ s.data.toList.take pos,p c = true) ∧ Below w.heap.size w wr) (fun _ wr => s.size - wr.iterPos w.heap.size)
 case atStart => exact ⟨0,h0,Nat.zero_le _,by simp,hb0⟩
 case round =>
  obtain ⟨pos,hg,hps,hall,hB⟩ := hrel
  clear h0 hb0
  have HG := Lib.hid hg
  have HALL := Lib.hid hall
  have HB := Lib.hid hB
  have hip : wr.iterPos w.heap.size = pos := by simp [World.iterPos,hg]
  have HIP := Lib.hid hip
  clear hg hall hB hip
  by_cases hp : pos < s.size
  ·have hnx : ∀ ty,(Instr.next (.pointer (some ⟨w.heap.size,0,none⟩)) true ty).run Tryz.prog wr = _ := fun ty => run_next_at_ wr w.heap.size s pos ty HG.out hp
   have st := row_step t p hi hs.out s pos hp HALL.out
   have h1 : ({ wr with heap := wr.heap.setIfInBounds w.heap.size (.stringIter s (pos + (Utf8.decode s pos).2)) } : World).heap[w.heap.size]? = some (.stringIter s (pos + (Utf8.decode s pos).2)) := by
    have hlt : w.heap.size < wr.heap.size := (Array.getElem?_eq_some_iff.1 HG.out).1
    simp [hlt]
   have hB1 := iter_below w.heap.size (.stringIter s (pos + (Utf8.decode s pos).2)) w.heap.size HB.out (Nat.le_refl _)
   generalize ({ wr with heap := wr.heap.setIfInBounds w.heap.size (.stringIter s (pos + (Utf8.decode s pos).2)) } : World) = w1 at *
   generalize (Utf8.decode s pos).1 = rn at *
   generalize (Utf8.decode s pos).2 = wd at *
   obtain ⟨b,hb⟩ : ∃ b,t (rn : Nat) = b := ⟨_,rfl⟩
   rw [hb] at st
   have F1 := hf.out (rn : Nat)
   rw [hb] at F1
   have HF1 := Lib.hid F1
   have ST := Lib.hid st
   have H1 := Lib.hid h1
   have HB1 := Lib.hid hB1
   clear F1 st hb h1 hB1
   cases b with
   | false =>
    have HR := Lib.hid (ST.out.1 rfl)
    clear ST
    go_wp2_with (go_at_call 183; refine (HF1.out _).mono ?_; rintro e w2 ⟨rfl,hb2⟩)
    go_ret
    exact ⟨by rw [HR.out]; rfl,HB1.out.trans (hb2.mono HB1.out.size)⟩
   | true =>
    obtain ⟨s1,s2,s3⟩ := ST.out.2 rfl
    go_wp2_with (go_at_call 183; refine (HF1.out _).mono ?_; rintro e w2 ⟨rfl,hb2⟩)
    go_roundw
    case rel => exact ⟨pos + wd,(hb2.block _ (Array.getElem?_eq_some_iff.1 H1.out).1).trans H1.out,s1,s3,HB1.out.trans (hb2.mono HB1.out.size)⟩
    case measure =>
     have e2 : w2.iterPos w.heap.size = pos + wd := by simp [World.iterPos,(hb2.block _ (Array.getElem?_eq_some_iff.1 H1.out).1).trans H1.out]
     rw [HIP.out,e2]; omega
  ·have hnx : ∀ ty,(Instr.next (.pointer (some ⟨w.heap.size,0,none⟩)) true ty).run Tryz.prog wr = _ := fun ty => run_next_over wr w.heap.size s pos ty HG.out hp
   go_wp2
   go_ret
   refine ⟨?_,HB.out⟩
   rw [rowL_all p _ pos HALL.out (by rw [← Lib.size_eq]; omega),← Lib.size_eq]; rfl
set_option maxRecDepth 100000 in
theorem row_digit (t : Int → Bool) (p : UInt8 → Bool) (hi : Bool) (hs : Hid (Kin t p hi)) (s : ByteArray) (w : World)
  (hf : Hid (∀ (n : Int) (w : World),Calls Tryz.prog 187 #[.int .i32 n] w fun e w' => e = .returned (.bool (t n)) ∧ Below w.heap.size w w')) :
  Calls Tryz.prog 178 #[.string s,.func (.func 187) #[] #[]] w fun e w' => e = .returned (.int .i64 (rowL p s.data.toList : Nat)) ∧ Below w.heap.size w w' := by
 have h0 : (w.iter s 0).heap[w.heap.size]? = some (.stringIter s 0) := w.iter_heap s 0
 have hb0 : Below w.heap.size w (w.iter s 0) := (Below.refl _ _).alloc (Nat.le_refl _) _
 go_enter Tryz.func178,Tryz.ntmps178
 go_wp2
 go_loopw [5] (fun _ wr => ∃ pos,wr.heap[w.heap.size]? = some (.stringIter s pos) ∧ pos ≤ s.size ∧ (∀ c ∈ s.data.toList.take pos,p c = true) ∧ Below w.heap.size w wr) (fun _ wr => s.size - wr.iterPos w.heap.size)
 case atStart => exact ⟨0,h0,Nat.zero_le _,by simp,hb0⟩
 case round =>
  obtain ⟨pos,hg,hps,hall,hB⟩ := hrel
  clear h0 hb0
  have HG := Lib.hid hg
  have HALL := Lib.hid hall
  have HB := Lib.hid hB
  have hip : wr.iterPos w.heap.size = pos := by simp [World.iterPos,hg]
  have HIP := Lib.hid hip
  clear hg hall hB hip
  by_cases hp : pos < s.size
  ·have hnx : ∀ ty,(Instr.next (.pointer (some ⟨w.heap.size,0,none⟩)) true ty).run Tryz.prog wr = _ := fun ty => run_next_at_ wr w.heap.size s pos ty HG.out hp
   have st := row_step t p hi hs.out s pos hp HALL.out
   have h1 : ({ wr with heap := wr.heap.setIfInBounds w.heap.size (.stringIter s (pos + (Utf8.decode s pos).2)) } : World).heap[w.heap.size]? = some (.stringIter s (pos + (Utf8.decode s pos).2)) := by
    have hlt : w.heap.size < wr.heap.size := (Array.getElem?_eq_some_iff.1 HG.out).1
    simp [hlt]
   have hB1 := iter_below w.heap.size (.stringIter s (pos + (Utf8.decode s pos).2)) w.heap.size HB.out (Nat.le_refl _)
   generalize ({ wr with heap := wr.heap.setIfInBounds w.heap.size (.stringIter s (pos + (Utf8.decode s pos).2)) } : World) = w1 at *
   generalize (Utf8.decode s pos).1 = rn at *
   generalize (Utf8.decode s pos).2 = wd at *
   obtain ⟨b,hb⟩ : ∃ b,t (rn : Nat) = b := ⟨_,rfl⟩
   rw [hb] at st
   have F1 := hf.out (rn : Nat)
   rw [hb] at F1
   have HF1 := Lib.hid F1
   have ST := Lib.hid st
   have H1 := Lib.hid h1
   have HB1 := Lib.hid hB1
   clear F1 st hb h1 hB1
   cases b with
   | false =>
    have HR := Lib.hid (ST.out.1 rfl)
    clear ST
    go_wp2_with (go_at_call 187; refine (HF1.out _).mono ?_; rintro e w2 ⟨rfl,hb2⟩)
    go_ret
    exact ⟨by rw [HR.out]; rfl,HB1.out.trans (hb2.mono HB1.out.size)⟩
   | true =>
    obtain ⟨s1,s2,s3⟩ := ST.out.2 rfl
    go_wp2_with (go_at_call 187; refine (HF1.out _).mono ?_; rintro e w2 ⟨rfl,hb2⟩)
    go_roundw
    case rel => exact ⟨pos + wd,(hb2.block _ (Array.getElem?_eq_some_iff.1 H1.out).1).trans H1.out,s1,s3,HB1.out.trans (hb2.mono HB1.out.size)⟩
    case measure =>
     have e2 : w2.iterPos w.heap.size = pos + wd := by simp [World.iterPos,(hb2.block _ (Array.getElem?_eq_some_iff.1 H1.out).1).trans H1.out]
     rw [HIP.out,e2]; omega
  ·have hnx : ∀ ty,(Instr.next (.pointer (some ⟨w.heap.size,0,none⟩)) true ty).run Tryz.prog wr = _ := fun ty => run_next_over wr w.heap.size s pos ty HG.out hp
   go_wp2
   go_ret
   refine ⟨?_,HB.out⟩
   rw [rowL_all p _ pos HALL.out (by rw [← Lib.size_eq]; omega),← Lib.size_eq]; rfl
set_option maxRecDepth 100000 in
theorem row_num (t : Int → Bool) (p : UInt8 → Bool) (hi : Bool) (hs : Hid (Kin t p hi)) (s : ByteArray) (w : World)
  (hf : Hid (∀ (n : Int) (w : World),Calls Tryz.prog 188 #[.int .i32 n] w fun e w' => e = .returned (.bool (t n)) ∧ Below w.heap.size w w')) :
  Calls Tryz.prog 178 #[.string s,.func (.func 188) #[] #[]] w fun e w' => e = .returned (.int .i64 (rowL p s.data.toList : Nat)) ∧ Below w.heap.size w w' := by
 have h0 : (w.iter s 0).heap[w.heap.size]? = some (.stringIter s 0) := w.iter_heap s 0
 have hb0 : Below w.heap.size w (w.iter s 0) := (Below.refl _ _).alloc (Nat.le_refl _) _
 go_enter Tryz.func178,Tryz.ntmps178
 go_wp2
 go_loopw [5] (fun _ wr => ∃ pos,wr.heap[w.heap.size]? = some (.stringIter s pos) ∧ pos ≤ s.size ∧ (∀ c ∈ s.data.toList.take pos,p c = true) ∧ Below w.heap.size w wr) (fun _ wr => s.size - wr.iterPos w.heap.size)
 case atStart => exact ⟨0,h0,Nat.zero_le _,by simp,hb0⟩
 case round =>
  obtain ⟨pos,hg,hps,hall,hB⟩ := hrel
  clear h0 hb0
  have HG := Lib.hid hg
  have HALL := Lib.hid hall
  have HB := Lib.hid hB
  have hip : wr.iterPos w.heap.size = pos := by simp [World.iterPos,hg]
  have HIP := Lib.hid hip
  clear hg hall hB hip
  by_cases hp : pos < s.size
  ·have hnx : ∀ ty,(Instr.next (.pointer (some ⟨w.heap.size,0,none⟩)) true ty).run Tryz.prog wr = _ := fun ty => run_next_at_ wr w.heap.size s pos ty HG.out hp
   have st := row_step t p hi hs.out s pos hp HALL.out
   have h1 : ({ wr with heap := wr.heap.setIfInBounds w.heap.size (.stringIter s (pos + (Utf8.decode s pos).2)) } : World).heap[w.heap.size]? = some (.stringIter s (pos + (Utf8.decode s pos).2)) := by
    have hlt : w.heap.size < wr.heap.size := (Array.getElem?_eq_some_iff.1 HG.out).1
    simp [hlt]
   have hB1 := iter_below w.heap.size (.stringIter s (pos + (Utf8.decode s pos).2)) w.heap.size HB.out (Nat.le_refl _)
   generalize ({ wr with heap := wr.heap.setIfInBounds w.heap.size (.stringIter s (pos + (Utf8.decode s pos).2)) } : World) = w1 at *
   generalize (Utf8.decode s pos).1 = rn at *
   generalize (Utf8.decode s pos).2 = wd at *
   obtain ⟨b,hb⟩ : ∃ b,t (rn : Nat) = b := ⟨_,rfl⟩
   rw [hb] at st
   have F1 := hf.out (rn : Nat)
   rw [hb] at F1
   have HF1 := Lib.hid F1
   have ST := Lib.hid st
   have H1 := Lib.hid h1
   have HB1 := Lib.hid hB1
   clear F1 st hb h1 hB1
   cases b with
   | false =>
    have HR := Lib.hid (ST.out.1 rfl)
    clear ST
    go_wp2_with (go_at_call 188; refine (HF1.out _).mono ?_; rintro e w2 ⟨rfl,hb2⟩)
    go_ret
    exact ⟨by rw [HR.out]; rfl,HB1.out.trans (hb2.mono HB1.out.size)⟩
   | true =>
    obtain ⟨s1,s2,s3⟩ := ST.out.2 rfl
    go_wp2_with (go_at_call 188; refine (HF1.out _).mono ?_; rintro e w2 ⟨rfl,hb2⟩)
    go_roundw
    case rel => exact ⟨pos + wd,(hb2.block _ (Array.getElem?_eq_some_iff.1 H1.out).1).trans H1.out,s1,s3,HB1.out.trans (hb2.mono HB1.out.size)⟩
    case measure =>
     have e2 : w2.iterPos w.heap.size = pos + wd := by simp [World.iterPos,(hb2.block _ (Array.getElem?_eq_some_iff.1 H1.out).1).trans H1.out]
     rw [HIP.out,e2]; omega
  ·have hnx : ∀ ty,(Instr.next (.pointer (some ⟨w.heap.size,0,none⟩)) true ty).run Tryz.prog wr = _ := fun ty => run_next_over wr w.heap.size s pos ty HG.out hp
   go_wp2
   go_ret
   refine ⟨?_,HB.out⟩
   rw [rowL_all p _ pos HALL.out (by rw [← Lib.size_eq]; omega),← Lib.size_eq]; rfl
set_option maxRecDepth 100000 in
theorem row_tag (t : Int → Bool) (p : UInt8 → Bool) (hi : Bool) (hs : Hid (Kin t p hi)) (s : ByteArray) (w : World)
  (hf : Hid (∀ (n : Int) (w : World),Calls Tryz.prog 252 #[.int .i32 n] w fun e w' => e = .returned (.bool (t n)) ∧ Below w.heap.size w w')) :
  Calls Tryz.prog 178 #[.string s,.func (.func 252) #[] #[]] w fun e w' => e = .returned (.int .i64 (rowL p s.data.toList : Nat)) ∧ Below w.heap.size w w' := by
 have h0 : (w.iter s 0).heap[w.heap.size]? = some (.stringIter s 0) := w.iter_heap s 0
 have hb0 : Below w.heap.size w (w.iter s 0) := (Below.refl _ _).alloc (Nat.le_refl _) _
 go_enter Tryz.func178,Tryz.ntmps178
 go_wp2
 go_loopw [5] (fun _ wr => ∃ pos,wr.heap[w.heap.size]? = some (.stringIter s pos) ∧ pos ≤ s.size ∧ (∀ c ∈ s.data.toList.take pos,p c = true) ∧ Below w.heap.size w wr) (fun _ wr => s.size - wr.iterPos w.heap.size)
 case atStart => exact ⟨0,h0,Nat.zero_le _,by simp,hb0⟩
 case round =>
  obtain ⟨pos,hg,hps,hall,hB⟩ := hrel
  clear h0 hb0
  have HG := Lib.hid hg
  have HALL := Lib.hid hall
  have HB := Lib.hid hB
  have hip : wr.iterPos w.heap.size = pos := by simp [World.iterPos,hg]
  have HIP := Lib.hid hip
  clear hg hall hB hip
  by_cases hp : pos < s.size
  ·have hnx : ∀ ty,(Instr.next (.pointer (some ⟨w.heap.size,0,none⟩)) true ty).run Tryz.prog wr = _ := fun ty => run_next_at_ wr w.heap.size s pos ty HG.out hp
   have st := row_step t p hi hs.out s pos hp HALL.out
   have h1 : ({ wr with heap := wr.heap.setIfInBounds w.heap.size (.stringIter s (pos + (Utf8.decode s pos).2)) } : World).heap[w.heap.size]? = some (.stringIter s (pos + (Utf8.decode s pos).2)) := by
    have hlt : w.heap.size < wr.heap.size := (Array.getElem?_eq_some_iff.1 HG.out).1
    simp [hlt]
   have hB1 := iter_below w.heap.size (.stringIter s (pos + (Utf8.decode s pos).2)) w.heap.size HB.out (Nat.le_refl _)
   generalize ({ wr with heap := wr.heap.setIfInBounds w.heap.size (.stringIter s (pos + (Utf8.decode s pos).2)) } : World) = w1 at *
   generalize (Utf8.decode s pos).1 = rn at *
   generalize (Utf8.decode s pos).2 = wd at *
   obtain ⟨b,hb⟩ : ∃ b,t (rn : Nat) = b := ⟨_,rfl⟩
   rw [hb] at st
   have F1 := hf.out (rn : Nat)
   rw [hb] at F1
   have HF1 := Lib.hid F1
   have ST := Lib.hid st
   have H1 := Lib.hid h1
   have HB1 := Lib.hid hB1
   clear F1 st hb h1 hB1
   cases b with
   | false =>
    have HR := Lib.hid (ST.out.1 rfl)
    clear ST
    go_wp2_with (go_at_call 252; refine (HF1.out _).mono ?_; rintro e w2 ⟨rfl,hb2⟩)
    go_ret
    exact ⟨by rw [HR.out]; rfl,HB1.out.trans (hb2.mono HB1.out.size)⟩
   | true =>
    obtain ⟨s1,s2,s3⟩ := ST.out.2 rfl
    go_wp2_with (go_at_call 252; refine (HF1.out _).mono ?_; rintro e w2 ⟨rfl,hb2⟩)
    go_roundw
    case rel => exact ⟨pos + wd,(hb2.block _ (Array.getElem?_eq_some_iff.1 H1.out).1).trans H1.out,s1,s3,HB1.out.trans (hb2.mono HB1.out.size)⟩
    case measure =>
     have e2 : w2.iterPos w.heap.size = pos + wd := by simp [World.iterPos,(hb2.block _ (Array.getElem?_eq_some_iff.1 H1.out).1).trans H1.out]
     rw [HIP.out,e2]; omega
  ·have hnx : ∀ ty,(Instr.next (.pointer (some ⟨w.heap.size,0,none⟩)) true ty).run Tryz.prog wr = _ := fun ty => run_next_over wr w.heap.size s pos ty HG.out hp
   go_wp2
   go_ret
   refine ⟨?_,HB.out⟩
   rw [rowL_all p _ pos HALL.out (by rw [← Lib.size_eq]; omega),← Lib.size_eq]; rfl
set_option maxRecDepth 100000 in
theorem row_blank (t : Int → Bool) (p : UInt8 → Bool) (hi : Bool) (hs : Hid (Kin t p hi)) (s : ByteArray) (w : World)
  (hf : Hid (∀ (n : Int) (w : World),Calls Tryz.prog 179 #[.int .i32 n] w fun e w' => e = .returned (.bool (t n)) ∧ Below w.heap.size w w')) :
  Calls Tryz.prog 178 #[.string s,.func (.func 179) #[] #[]] w fun e w' => e = .returned (.int .i64 (rowL p s.data.toList : Nat)) ∧ Below w.heap.size w w' := by
 have h0 : (w.iter s 0).heap[w.heap.size]? = some (.stringIter s 0) := w.iter_heap s 0
 have hb0 : Below w.heap.size w (w.iter s 0) := (Below.refl _ _).alloc (Nat.le_refl _) _
 go_enter Tryz.func178,Tryz.ntmps178
 go_wp2
 go_loopw [5] (fun _ wr => ∃ pos,wr.heap[w.heap.size]? = some (.stringIter s pos) ∧ pos ≤ s.size ∧ (∀ c ∈ s.data.toList.take pos,p c = true) ∧ Below w.heap.size w wr) (fun _ wr => s.size - wr.iterPos w.heap.size)
 case atStart => exact ⟨0,h0,Nat.zero_le _,by simp,hb0⟩
 case round =>
  obtain ⟨pos,hg,hps,hall,hB⟩ := hrel
  clear h0 hb0
  have HG := Lib.hid hg
  have HALL := Lib.hid hall
  have HB := Lib.hid hB
  have hip : wr.iterPos w.heap.size = pos := by simp [World.iterPos,hg]
  have HIP := Lib.hid hip
  clear hg hall hB hip
  by_cases hp : pos < s.size
  ·have hnx : ∀ ty,(Instr.next (.pointer (some ⟨w.heap.size,0,none⟩)) true ty).run Tryz.prog wr = _ := fun ty => run_next_at_ wr w.heap.size s pos ty HG.out hp
   have st := row_step t p hi hs.out s pos hp HALL.out
   have h1 : ({ wr with heap := wr.heap.setIfInBounds w.heap.size (.stringIter s (pos + (Utf8.decode s pos).2)) } : World).heap[w.heap.size]? = some (.stringIter s (pos + (Utf8.decode s pos).2)) := by
    have hlt : w.heap.size < wr.heap.size := (Array.getElem?_eq_some_iff.1 HG.out).1
    simp [hlt]
   have hB1 := iter_below w.heap.size (.stringIter s (pos + (Utf8.decode s pos).2)) w.heap.size HB.out (Nat.le_refl _)
   generalize ({ wr with heap := wr.heap.setIfInBounds w.heap.size (.stringIter s (pos + (Utf8.decode s pos).2)) } : World) = w1 at *
   generalize (Utf8.decode s pos).1 = rn at *
   generalize (Utf8.decode s pos).2 = wd at *
   obtain ⟨b,hb⟩ : ∃ b,t (rn : Nat) = b := ⟨_,rfl⟩
   rw [hb] at st
   have F1 := hf.out (rn : Nat)
   rw [hb] at F1
   have HF1 := Lib.hid F1
   have ST := Lib.hid st
   have H1 := Lib.hid h1
   have HB1 := Lib.hid hB1
   clear F1 st hb h1 hB1
   cases b with
   | false =>
    have HR := Lib.hid (ST.out.1 rfl)
    clear ST
    go_wp2_with (go_at_call 179; refine (HF1.out _).mono ?_; rintro e w2 ⟨rfl,hb2⟩)
    go_ret
    exact ⟨by rw [HR.out]; rfl,HB1.out.trans (hb2.mono HB1.out.size)⟩
   | true =>
    obtain ⟨s1,s2,s3⟩ := ST.out.2 rfl
    go_wp2_with (go_at_call 179; refine (HF1.out _).mono ?_; rintro e w2 ⟨rfl,hb2⟩)
    go_roundw
    case rel => exact ⟨pos + wd,(hb2.block _ (Array.getElem?_eq_some_iff.1 H1.out).1).trans H1.out,s1,s3,HB1.out.trans (hb2.mono HB1.out.size)⟩
    case measure =>
     have e2 : w2.iterPos w.heap.size = pos + wd := by simp [World.iterPos,(hb2.block _ (Array.getElem?_eq_some_iff.1 H1.out).1).trans H1.out]
     rw [HIP.out,e2]; omega
  ·have hnx : ∀ ty,(Instr.next (.pointer (some ⟨w.heap.size,0,none⟩)) true ty).run Tryz.prog wr = _ := fun ty => run_next_over wr w.heap.size s pos ty HG.out hp
   go_wp2
   go_ret
   refine ⟨?_,HB.out⟩
   rw [rowL_all p _ pos HALL.out (by rw [← Lib.size_eq]; omega),← Lib.size_eq]; rfl

-- the tests of bytes
def letB (c : UInt8) : Bool := letN (c.toNat : Int)
def digB (c : UInt8) : Bool := digN (c.toNat : Int)
def wordB (c : UInt8) : Bool := wordN (c.toNat : Int)
def tagB (c : UInt8) : Bool := tagN (c.toNat : Int)
def numB (c : UInt8) : Bool := numN (c.toNat : Int)
theorem let_wide (n : Int) (h : 128 ≤ n) : letN n = true := by unfold letN; exact decide_eq_true (by omega)
theorem dig_wide (n : Int) (h : 128 ≤ n) : digN n = false := by unfold digN; exact decide_eq_false (by omega)
theorem kin_let : Kin letN letB true := ⟨fun _ _ => rfl,let_wide,fun c h => let_wide _ (by omega)⟩
theorem kin_dig : Kin digN digB false := ⟨fun _ _ => rfl,dig_wide,fun c h => dig_wide _ (by omega)⟩
theorem kin_word : Kin wordN wordB true := ⟨fun _ _ => rfl,fun n h => by unfold wordN; rw [let_wide n h]; rfl,fun c h => by unfold wordB wordN; rw [let_wide _ (by omega)]; rfl⟩
theorem kin_tag : Kin tagN tagB true := ⟨fun _ _ => rfl,fun n h => by unfold tagN; rw [let_wide n h]; rfl,fun c h => by unfold tagB tagN; rw [let_wide _ (by omega)]; rfl⟩
theorem num_wide (n : Int) (h : 128 ≤ n) : numN n = false := by unfold numN; rw [dig_wide n h,beq_eq_false_iff_ne.2 (by omega)]; rfl
theorem kin_num : Kin numN numB false := ⟨fun _ _ => rfl,num_wide,fun c h => num_wide _ (by omega)⟩
end Go.Proofs.YtgdabkpahmlkpaaGreatDoor
namespace Go.Proofs.YtgdabkpahmlkpaaGreatDoor
set_option linter.unusedSimpArgs false
open Go.ChangeShapes Go.WideShapes Go.ChangeAt Go.RowKit
set_option maxRecDepth 100000
set_option linter.unusedVariables false

theorem slidx_any (s : ByteArray) (c : Int) (w : World) :
  Calls Tryz.prog 226 #[.string s,.int .u8 c] w fun e w' => e = .returned (.int .i64 (Lib.indexByte s.data.toList c.toNat.toUInt8)) ∧ w' = w := by
 go_enter Tryz.func226,Tryz.ntmps226
 go_wp2
 rw [run_callFunc_extern Tryz.func253 (by kernel_rfl) (by kernel_rfl) (by kernel_rfl) (e := Extern.BytealgIndexByte.indexByte) (by kernel_rfl),Lib.run_indexByteString]
 simp only [Result.andThen]
 rw [Oper.upon_value]
 go_wp2
 go_ret
 exact ⟨rfl,rfl⟩

theorem sidx_any (s : ByteArray) (c : Int) (w : World) :
  Calls Tryz.prog 190 #[.string s,.int .u8 c] w fun e w' => e = .returned (.int .i64 (Lib.indexByte s.data.toList c.toNat.toUInt8)) ∧ w' = w := by
 have h := slidx_any s c
 go_enter Tryz.func190,Tryz.ntmps190
 go_wp2_with (go_at_call 226; refine (h _).mono ?_; rintro e w' ⟨rfl,rfl⟩)
 go_ret
 exact ⟨rfl,rfl⟩


abbrev five : ByteArray := ⟨#[32,9,10,12,13]⟩

theorem valid_any (n : Int) (w : World) : Calls Tryz.prog 274 #[.int .i32 n] w fun e w' => e = .returned (.bool (Utf8.valid n)) ∧ w' = w := by
 obtain ⟨b,hb⟩ : ∃ b,Utf8.valid n = b := ⟨_,rfl⟩
 rw [hb]
 have HB := Lib.hid hb
 clear hb
 go_enter Tryz.func274,Tryz.ntmps274
 go_wp2
 all_goals
  go_ret
  refine ⟨?_,rfl⟩
  rw [← HB.out]
  refine retb ?_
  unfold Utf8.valid
  rw [Bool.eq_iff_iff]
  simp
  try omega
set_option maxRecDepth 100000 in
theorem runes_low (n : Int) (h0 : 0 ≤ n) (h1 : n < 128) (w : World) : Calls Tryz.prog 250 #[.string five,.int .i32 n] w fun e w' => e = .returned (.int .i64 (Lib.indexByte five.data.toList n.toNat.toUInt8)) ∧ Below w.heap.size w w' := by
 have d0 : decide ((0 : Int) ≤ n) = true := decide_eq_true h0
 have d1 : decide (n < (128 : Int)) = true := decide_eq_true h1
 have HM := Lib.hid (show n % 256 = n by omega)
 clear h0 h1
 go_enter Tryz.func250,Tryz.ntmps250
 go_wp2_with (go_at_call 190; refine (sidx_any _ _ _).mono ?_; rintro e w1 ⟨rfl,hw⟩; obtain rfl := hw.symm)
 go_ret
 refine ⟨?_,Below.refl _ _⟩
 rw [HM.out]; rfl
set_option maxRecDepth 100000 in
theorem runes_bad (n : Int) (h0 : Utf8.valid n = false) (w : World) : Calls Tryz.prog 250 #[.string five,.int .i32 n] w fun e w' => e = .returned (.int .i64 (-1)) ∧ Below w.heap.size w w' := by
 have hv : Calls Tryz.prog 274 #[.int .i32 n] w fun e w' => e = .returned (.bool false) ∧ w' = w := by
  have := valid_any n w
  rwa [h0] at this
 have hr : ¬ (0 ≤ n ∧ n < 55296) := by
  intro h; unfold Utf8.valid at h0; simp at h0; omega
 have d1 : (n == 65533) = false := by
  rw [beq_eq_false_iff_ne]; intro e; subst e; revert h0; decide
 clear h0
 have HV := Lib.hid hv
 clear hv
 by_cases h : 0 ≤ n
 ·have d0 : decide ((0 : Int) ≤ n) = true := decide_eq_true h
  have d2 : decide (n < (128 : Int)) = false := decide_eq_false (by omega)
  clear h hr
  go_enter Tryz.func250,Tryz.ntmps250
  go_wp2_with (go_at_call 274; refine HV.out.mono ?_; rintro e w1 ⟨rfl,hw⟩; obtain rfl := hw.symm)
  go_ret
  exact ⟨rfl,Below.refl _ _⟩
 ·have d0 : decide ((0 : Int) ≤ n) = false := decide_eq_false h
  clear h hr
  go_enter Tryz.func250,Tryz.ntmps250
  go_wp2_with (go_at_call 274; refine HV.out.mono ?_; rintro e w1 ⟨rfl,hw⟩; obtain rfl := hw.symm)
  go_ret
  exact ⟨rfl,Below.refl _ _⟩
theorem five_low (j : Nat) (h : j < five.size) : (five[j]'h).toNat < 128 := by
 have h5 : j < 5 := h
 match j,h5 with
 | 0,_ => show (32 : UInt8).toNat < 128; decide
 | 1,_ => show (9 : UInt8).toNat < 128; decide
 | 2,_ => show (10 : UInt8).toNat < 128; decide
 | 3,_ => show (12 : UInt8).toNat < 128; decide
 | 4,_ => show (13 : UInt8).toNat < 128; decide
set_option maxRecDepth 100000 in
theorem runes_err (w : World) : Calls Tryz.prog 250 #[.string five,.int .i32 65533] w fun e w' => e = .returned (.int .i64 (-1)) ∧ Below w.heap.size w w' := by
 obtain ⟨s,hs⟩ : ∃ s,s = five := ⟨_,rfl⟩
 have hlow : ∀ (j : Nat) (h : j < s.size),(s[j]'h).toNat < 128 := by subst hs; exact five_low
 rw [← hs]
 clear hs
 have HL := Lib.hid hlow
 clear hlow
 have h0 : (w.iter s 0).heap[w.heap.size]? = some (.stringIter s 0) := w.iter_heap s 0
 have hb0 : Below w.heap.size w (w.iter s 0) := (Below.refl _ _).alloc (Nat.le_refl _) _
 go_enter Tryz.func250,Tryz.ntmps250
 go_wp2
 go_loopw [5] (fun _ wr => ∃ pos,wr.heap[w.heap.size]? = some (.stringIter s pos) ∧ Below w.heap.size w wr) (fun _ wr => s.size - wr.iterPos w.heap.size)
 case atStart => exact ⟨0,h0,hb0⟩
 case round =>
  obtain ⟨pos,hg,hB⟩ := hrel
  clear h0 hb0
  have HG := Lib.hid hg
  have HB := Lib.hid hB
  have HIP := Lib.hid (show wr.iterPos w.heap.size = pos by simp [World.iterPos,hg])
  clear hg hB
  by_cases hp : pos < s.size
  ·have hnx : ∀ ty,(Instr.next (.pointer (some ⟨w.heap.size,0,none⟩)) true ty).run Tryz.prog wr = _ := fun ty => run_next_at_ wr w.heap.size s pos ty HG.out hp
   rw [decode_ascii s pos hp (HL.out pos hp)] at hnx
   have h1 : ({ wr with heap := wr.heap.setIfInBounds w.heap.size (.stringIter s (pos + 1)) } : World).heap[w.heap.size]? = some (.stringIter s (pos + 1)) := by
    have hlt : w.heap.size < wr.heap.size := (Array.getElem?_eq_some_iff.1 HG.out).1
    simp [hlt]
   have hB1 := iter_below w.heap.size (.stringIter s (pos + 1)) w.heap.size HB.out (Nat.le_refl _)
   have hne : (((s[pos]'hp).toNat : Int) == 65533) = false := by
    have := HL.out pos hp
    rw [beq_eq_false_iff_ne]; omega
   simp only at hnx
   generalize ({ wr with heap := wr.heap.setIfInBounds w.heap.size (.stringIter s (pos + 1)) } : World) = w1 at *
   generalize ((s[pos]'hp).toNat : Int) = rn at *
   have H1 := Lib.hid h1
   have HB1 := Lib.hid hB1
   clear h1 hB1
   go_wp2
   go_roundw
   case rel => exact ⟨pos + 1,H1.out,HB1.out⟩
   case measure =>
    have e2 : w1.iterPos w.heap.size = pos + 1 := by simp [World.iterPos,H1.out]
    rw [HIP.out,e2]; omega
  ·have hnx : ∀ ty,(Instr.next (.pointer (some ⟨w.heap.size,0,none⟩)) true ty).run Tryz.prog wr = _ := fun ty => run_next_over wr w.heap.size s pos ty HG.out hp
   go_wp2
   go_ret
   exact ⟨rfl,HB.out⟩
theorem below_drewN_ {B : Nat} {a w : World} (h : Below B a w) (n : Nat) : Below B a (w.drewN n) := ⟨h.os,h.tape,h.output,h.size,h.block⟩
theorem idx_none (l : Tx) (c : UInt8) (h : ∀ x ∈ l,x ≠ c) : Lib.indexByte l c = -1 := by
 induction l with
 | nil => rfl
 | cons x l ih =>
  have h1 := h x (by simp)
  have h2 := ih (fun y hy => h y (by simp [hy]))
  unfold Lib.indexByte
  rw [if_neg (by simpa using h1),h2]
  rfl
set_option maxHeartbeats 1000000 in
set_option maxRecDepth 100000 in
theorem runes_wide (n : Int) (hv : Utf8.valid n = true) (h128 : 128 ≤ n) (hne : n ≠ 65533) (w : World) : Calls Tryz.prog 250 #[.string five,.int .i32 n] w fun e w' => e = .returned (.int .i64 (-1)) ∧ Below w.heap.size w w' := by
 have hval : Calls Tryz.prog 274 #[.int .i32 n] w fun e w' => e = .returned (.bool true) ∧ w' = w := by
  have := valid_any n w
  rwa [hv] at this
 obtain ⟨z2,z4,zb⟩ := encode_facts n hv h128
 obtain ⟨L,hL⟩ : ∃ L,Utf8.encode n = L := ⟨_,rfl⟩
 obtain ⟨s,hs⟩ : ∃ s,s = five := ⟨_,rfl⟩
 have hlow : ∀ (j : Nat) (h : j < s.size),(s[j]'h).toNat < 128 := by subst hs; exact five_low
 have hsz : s.size = 5 := by rw [hs]; rfl
 have d0 : decide ((0 : Int) ≤ n) = true := decide_eq_true (by omega)
 have d2 : decide (n < (128 : Int)) = false := decide_eq_false (by omega)
 have d1 : (n == 65533) = false := by rw [beq_eq_false_iff_ne]; exact hne
 rw [← hs]
 rw [hL] at z2 z4 zb
 have HV := Lib.hid hval
 have HL := Lib.hid hlow
 have HZB := Lib.hid zb
 obtain ⟨m,hm⟩ : ∃ m,L.size = m + 1 := ⟨L.size - 1,by omega⟩
 have hm1 : 1 ≤ m := by omega
 have hm3 : m ≤ 3 := by omega
 have hLm : m < L.size := by omega
 have hsm : m < s.size := by omega
 have hb128 : 128 ≤ (L[m]'hLm).toNat := by
  have := zb (by omega)
  simpa [hm] using this
 have hs128 : (s[m]'hsm).toNat < 128 := hlow m hsm
 have hq : (((s[m]'hsm).toNat : Int) != ((L[m]'hLm).toNat : Int)) = true := by rw [bne,beq_eq_false_iff_ne.2 (by omega)]; rfl
 have hix : Hid (∀ a b,Lib.indexByte (s.extract a b).data.toList (((L[m]'hLm).toNat : Int).toNat.toUInt8) = -1) := Lib.hid (fun a b => idx_none _ _ (fun x hx e => by
  have hx2 : x ∈ s.data.toList := by
   have := List.mem_of_mem_drop (List.mem_of_mem_take (show x ∈ (s.data.toList.drop a).take (b - a) by simpa [List.extract_eq_take_drop] using hx))
   exact this
  obtain ⟨j,hj,rfl⟩ := List.getElem_of_mem hx2
  have hj2 : j < s.size := by rw [Lib.size_eq]; exact hj
  have := hlow j hj2
  have e2 : (s.data.toList[j]).toNat = (s[j]'hj2).toNat := rfl
  rw [e] at e2
  simp at e2
  omega))
 clear hs hlow hval zb hv h128 hne z2 z4
 have HSZ := Lib.hid hsz
 clear hsz
 go_enter Tryz.func250,Tryz.ntmps250
 go_wp2_with (go_at_call 274; refine HV.out.mono ?_; rintro e w1 ⟨rfl,hw⟩; obtain rfl := hw.symm)
 go_step3
 go_wp2
 have l0 : (0 : Int) ≤ (m : Int) := by omega
 have l1 : (m : Int) < (s.size : Int) := by omega
 have l2 : (m : Int) < (L.size : Int) := by omega
 have l4 : (m : Int) + 1 ≤ (s.size : Int) := by omega
 have l5 : m + 1 ≤ s.size := by omega
 have l6 : s.size ≤ 5 := by have := HSZ.out; omega
 have lw : IntKind.i64.wrap ((m : Int) + 1) = (m : Int) + 1 := IntWalk.i64_in _ (by omega)
 have HMM := Lib.hid hm
 clear hm hm1 hm3 hL
 go_loop [9] (fun i => i = .int .i64 m) (fun i => 0)
 case atStart => rfl
 case round =>
  subst hrel
  go_wp2
  go_step3
  go_wp2
  go_quiet (fail)
  go_wp2
  have l7 : (0:Int) ≤ (m : Int) + 1 := by omega
  have l8 : ((m : Int) + 1).toNat = m + 1 := by omega
  go_quiet (first | (go_at_call 190; exact (sidx_any _ _ _).mono (fun _ _ h => ⟨h.1,_,h.2⟩)))
  rw [hix.out]
  go_wp2
  simp (config := { zetaDelta := true }) only [Exit.noGoto_ret,Exit.inBlock,Exit.then]
  go_simp
  try rw [Exit.noGoto_ret]
  go_simp
  try rw [Exit.noGoto_ret]
  go_simp
  go_ret
  exact ⟨rfl,below_drewN_ (Below.refl _ _) _⟩
def fiveI (n : Int) : Int := if 0 ≤ n ∧ n < 128 then Lib.indexByte five.data.toList n.toNat.toUInt8 else -1
theorem runes_any (n : Int) (w : World) : Calls Tryz.prog 250 #[.string five,.int .i32 n] w fun e w' => e = .returned (.int .i64 (fiveI n)) ∧ Below w.heap.size w w' := by
 by_cases h : 0 ≤ n ∧ n < 128
 ·rw [show fiveI n = _ from if_pos h]
  exact runes_low n h.1 h.2 w
 ·rw [show fiveI n = _ from if_neg h]
  by_cases he : n = 65533
  ·subst he; exact runes_err w
  ·cases hv : Utf8.valid n with
   | false => exact runes_bad n hv w
   | true =>
    have h0 : 0 ≤ n := by unfold Utf8.valid at hv; simp at hv; omega
    exact runes_wide n hv (by omega) he w
def fiveB (n : Int) : Bool := decide (0 ≤ fiveI n)
theorem conr_any (n : Int) (w : World) : Calls Tryz.prog 221 #[.string five,.int .i32 n] w fun e w' => e = .returned (.bool (fiveB n)) ∧ Below w.heap.size w w' := by
 obtain ⟨i,hi⟩ : ∃ i,fiveI n = i := ⟨_,rfl⟩
 have hr := runes_any n w
 rw [hi] at hr
 have e1 : fiveB n = decide (0 ≤ i) := by unfold fiveB; rw [hi]
 rw [e1]
 have HR := Lib.hid hr
 clear hr hi e1
 go_enter Tryz.func221,Tryz.ntmps221
 go_wp2_with (go_at_call 250; refine HR.out.mono ?_; rintro e w1 ⟨rfl,hb⟩)
 go_ret
 exact ⟨rfl,hb⟩
theorem blank_any (n : Int) (w : World) : Calls Tryz.prog 179 #[.int .i32 n] w fun e w' => e = .returned (.bool (fiveB n)) ∧ Below w.heap.size w w' := by
 obtain ⟨b,hb⟩ : ∃ b,fiveB n = b := ⟨_,rfl⟩
 have hr := conr_any n w
 rw [hb] at *
 have HR := Lib.hid hr
 clear hr hb
 go_enter Tryz.func179,Tryz.ntmps179
 go_wp2_with (go_at_call 221; refine HR.out.mono ?_; rintro e w1 ⟨rfl,hb⟩)
 go_ret
 exact ⟨rfl,hb⟩
def fiveQ (c : UInt8) : Bool := fiveB (c.toNat : Int)
theorem five_wide (n : Int) (h : 128 ≤ n) : fiveB n = false := by unfold fiveB fiveI; rw [if_neg (by omega)]; rfl
theorem kin_blank : Kin fiveB fiveQ false := ⟨fun _ _ => rfl,five_wide,fun c h => five_wide _ (by omega)⟩

abbrev pcV (k : Int) (t : ByteArray) (n : Int) : Value := .agg #[.int .i64 k,.string t,.int .i64 n]
theorem bcell {W w1 : World} (hb : Below W.heap.size W w1) : (∀ b o,b < W.heap.size → w1.cell? ⟨b,o,none⟩ = W.cell? ⟨b,o,none⟩) ∧ (∀ b o,b < W.heap.size → w1.frozen? ⟨b,o,none⟩ = W.frozen? ⟨b,o,none⟩) :=
 ⟨fun b o h => hb.cell (p := ⟨b,o,none⟩) h,fun b o h => hb.frozen (p := ⟨b,o,none⟩) h⟩
theorem clone_any (s : ByteArray) (w : World) (hs : s.size ≤ 281474976710656) :
  Calls Tryz.prog 85 #[.string s] w fun e w' => e = .returned (.string s) ∧ Below w.heap.size w w' := by
 have c := fun w => Tryz.stringslite_Clone s w (by omega)
 go_enter Tryz.func85,Tryz.ntmps85
 go_wp2_with (go_at_call 120; refine (c _).mono ?_; rintro e w' ⟨rfl,hb⟩)
 go_ret
 exact ⟨rfl,hb⟩
theorem weak_ {f : Nat} {t : Int → Bool} (h : ∀ (n : Int) (w : World),Calls Tryz.prog f #[.int .i32 n] w fun e w' => e = .returned (.bool (t n)) ∧ w' = w) :
  ∀ (n : Int) (w : World),Calls Tryz.prog f #[.int .i32 n] w fun e w' => e = .returned (.bool (t n)) ∧ Below w.heap.size w w' :=
 fun n w => (h n w).mono fun e w' hh => ⟨hh.1,by rw [hh.2]; exact Below.refl _ _⟩
theorem gap_any (s : ByteArray) (w : World) :
  Calls Tryz.prog 140 #[.string s] w fun e w' => e = .returned (pcV 0 ⟨#[]⟩ (rowL fiveQ s.data.toList : Nat)) ∧ Below w.heap.size w w' := by
 have hr := fun w => row_blank fiveB fiveQ false (Lib.hid kin_blank) s w (Lib.hid blank_any)
 obtain ⟨n,hn⟩ : ∃ n,rowL fiveQ s.data.toList = n := ⟨_,rfl⟩
 simp only [hn] at hr
 rw [hn]
 have HR := Lib.hid hr
 clear hr hn
 go_enter Tryz.func140,Tryz.ntmps140
 go_wp2_with (go_at_call 178; refine (HR.out _).mono ?_; rintro e w1 ⟨rfl,hb1⟩; obtain ⟨hcc,hff⟩ := bcell hb1)
 have hB : Below w.heap.size w w1 := ((Below.refl _ _).alloc (Nat.le_refl _) _).trans (hb1.mono (by simp))
 refine bodyPost_ret (v := pcV 0 ⟨#[]⟩ (n : Nat)) (by simp [results,Tryz.results140,go_sem,hcc,hff]) rfl ?_
 refine ⟨rfl,((hB.setCell ?_ _).setCell ?_ _).setCell ?_ _⟩ <;> exact Nat.le_refl _
structure Own3 (w w1 : World) : Prop where
 bel : Below w.heap.size w w1
 lt : w.heap.size < w1.heap.size
 k0 : w1.cell? ⟨w.heap.size,0,none⟩ = some (.int .i64 0)
 k1 : w1.cell? ⟨w.heap.size,1,none⟩ = some (.string ⟨#[]⟩)
 k2 : w1.cell? ⟨w.heap.size,2,none⟩ = some (.int .i64 0)
 f0 : w1.frozen? ⟨w.heap.size,0,none⟩ = false
 f1 : w1.frozen? ⟨w.heap.size,1,none⟩ = false
 f2 : w1.frozen? ⟨w.heap.size,2,none⟩ = false
theorem Own3.new (w : World) : Own3 w (w.alloc (.cells #[.int .i64 0,.string ⟨#[]⟩,.int .i64 0] 154)) :=
 ⟨(Below.refl _ _).alloc (Nat.le_refl _) _,by simp,by simp [go_sem],by simp [go_sem],by simp [go_sem],by simp [go_sem],by simp [go_sem],by simp [go_sem]⟩
theorem Own3.step {w w1 w2 : World} (h : Own3 w w1) (b : Below w1.heap.size w1 w2) : Own3 w w2 := by
 obtain ⟨h1,h2⟩ := bcell b
 exact ⟨h.bel.trans (b.mono (Nat.le_of_lt h.lt)),Nat.lt_of_lt_of_le h.lt b.size,by rw [h1 _ _ h.lt]; exact h.k0,by rw [h1 _ _ h.lt]; exact h.k1,by rw [h1 _ _ h.lt]; exact h.k2,by rw [h2 _ _ h.lt]; exact h.f0,by rw [h2 _ _ h.lt]; exact h.f1,by rw [h2 _ _ h.lt]; exact h.f2⟩
theorem rowL_le (p : UInt8 → Bool) (l : Tx) : rowL p l ≤ l.length := by
 unfold rowL
 exact (List.takeWhile_sublist p).length_le
theorem num_no (s : ByteArray) (w : World) (h0 : rowL digB s.data.toList = 0) :
  Calls Tryz.prog 147 #[.string s] w fun e w' => e = .returned (pcV 0 ⟨#[]⟩ 0) ∧ Below w.heap.size w w' := by
 have hr := fun w => row_digit digN digB false (Lib.hid kin_dig) s w (Lib.hid (weak_ dig_any))
 simp only [h0] at hr
 have HR := Lib.hid hr
 clear hr h0
 go_enter Tryz.func147,Tryz.ntmps147
 go_wp2_with (go_at_call 178; refine (HR.out _).mono ?_; rintro e w1 ⟨rfl,hb1⟩; obtain ⟨hcc,hff⟩ := bcell hb1)
 have hB : Below w.heap.size w w1 := ((Below.refl _ _).alloc (Nat.le_refl _) _).trans (hb1.mono (by simp))
 refine bodyPost_ret (v := pcV 0 ⟨#[]⟩ 0) (by simp [results,Tryz.results147,go_sem,hcc,hff]) rfl ?_
 refine ⟨rfl,((hB.setCell ?_ _).setCell ?_ _).setCell ?_ _⟩ <;> exact Nat.le_refl _
theorem num_yes (s : ByteArray) (w : World) (hs : s.size ≤ 281474976710656) (h0 : rowL digB s.data.toList ≠ 0) :
  Calls Tryz.prog 147 #[.string s] w fun e w' => e = .returned (pcV 4 (s.extract 0 (rowL numB s.data.toList)) (rowL numB s.data.toList : Nat)) ∧ Below w.heap.size w w' := by
 have hr := fun w => row_digit digN digB false (Lib.hid kin_dig) s w (Lib.hid (weak_ dig_any))
 have hq := fun w => row_num numN numB false (Lib.hid kin_num) s w (Lib.hid (weak_ num_any))
 obtain ⟨n,hn⟩ : ∃ n,rowL numB s.data.toList = n := ⟨_,rfl⟩
 obtain ⟨m,hm⟩ : ∃ m,rowL digB s.data.toList = m := ⟨_,rfl⟩
 have hle : n ≤ s.size := by rw [← hn,Lib.size_eq]; exact rowL_le _ _
 rw [hn]
 simp only [hn] at hq
 simp only [hm] at hr
 rw [hm] at h0
 have hc := fun w => clone_any (s.extract 0 n) w (by rw [ByteArray.size_extract]; omega)
 have HR := Lib.hid hr
 have HQ := Lib.hid hq
 have HC := Lib.hid hc
 clear hr hq hn hm hc hs
 have c0 : ((m : Int) == 0) = false := by rw [beq_eq_false_iff_ne]; omega
 have c1 : (0 : Int) ≤ (n : Int) := by omega
 have c2 : (n : Int) ≤ (s.size : Int) := by omega
 clear h0
 go_enter Tryz.func147,Tryz.ntmps147
 go_wp2_with (first
  | (go_at_call 178; (with_reducible refine (HR.out _).mono ?_); rintro e w1 ⟨rfl,hb1⟩; have F1 := (Own3.new w).step hb1; clear hb1; obtain ⟨hB,hL,k0,k1,k2,f0,f1,f2⟩ := id F1)
  | (go_at_call 178; (with_reducible refine (HQ.out _).mono ?_); rintro e w2 ⟨rfl,hb2⟩; have F2 := F1.step hb2; clear hb2 hB hL k0 k1 k2 f0 f1 f2; obtain ⟨hB,hL,k0,k1,k2,f0,f1,f2⟩ := id F2)
  | (go_at_call 85; (with_reducible refine (HC.out _).mono ?_); rintro e w3 ⟨rfl,hb3⟩; have F3 := F2.step hb3; clear hb3 hB hL k0 k1 k2 f0 f1 f2; obtain ⟨hB,hL,k0,k1,k2,f0,f1,f2⟩ := id F3))
 refine bodyPost_ret (v := pcV 4 (s.extract 0 n) (n : Nat)) (by simp [results,Tryz.results147,go_sem,k0,k1,k2]) rfl ?_
 refine ⟨rfl,((hB.setCell ?_ _).setCell ?_ _).setCell ?_ _⟩ <;> exact Nat.le_refl _

theorem FS.modk {w w1 : World} {B g cap : Nat} {x : List Tv} (h : FS B w (.slice (some ⟨g,0,none⟩) x.length cap) x) (i : Nat) (t : Tv) (hi : x[i]? = some t) (u : Value) (l : List Rw)
  (hu : OR B w1 u l) (hk : ∀ k,k < w.heap.size → some k ≠ t.2.1.ownBlock → w1.heap[k]? = w.heap[k]?) (key : ∀ (j : Nat) (p : Tv),j ≠ i → x[j]? = some p → (p.2.1.ownBlock = none ∨ p.2.1.ownBlock ≠ u.ownBlock)) :
  FS B (w1.setCell ⟨g,i * 2 + 1,none⟩ u) (.slice (some ⟨g,0,none⟩) x.length cap) (x.set i (t.1,u,l)) := by
 have hl : i < x.length := (List.getElem?_eq_some_iff.1 hi).1
 have hm : t ∈ x := List.mem_of_getElem? hi
 have hgt : some g ≠ t.2.1.ownBlock := fun e => own_ne h.own (h.rows t hm) (g := g) (g' := g) rfl e.symm ty_ne rfl
 have hg1 : w1.ownsRow B 37 2 (.slice (some ⟨g,0,none⟩) x.length cap) x.length (tcs x) := own_keep h.own fun k hk2 => by
  obtain rfl : g = k := by simpa [Value.ownBlock] using hk2
  exact hk g (h.own.lt g rfl).2 hgt
 have hug : u.ownBlock ≠ some g := fun e => own_ne hg1 hu (g := g) (g' := g) rfl e ty_ne rfl
 have hst := (World.ownsRow.stored hg1 (i * 2 + 1) u).1
 rw [tcs_set x i t u l hi] at hst
 refine ⟨by rw [List.length_set]; exact hst,?_,?_⟩
 ·intro t' ht'
  obtain ⟨j,hj,e⟩ := List.getElem_of_mem ht'
  rw [List.getElem_set] at e
  rw [List.length_set] at hj
  split at e
  ·subst e
   exact own_keep hu fun k hk2 => Below.heap_setCell _ _ _ _ (fun e => hug (by rw [hk2,e]))
  ·rename_i hij
   subst e
   have hmj : x[j] ∈ x := List.getElem_mem hj
   refine own_keep (h.rows _ hmj) fun k hk2 => ?_
   have hkg : k ≠ g := fun e => own_ne h.own (h.rows _ hmj) (g := g) (g' := k) rfl hk2 ty_ne e.symm
   rw [Below.heap_setCell _ _ _ _ (by exact hkg)]
   refine hk k ((h.rows _ hmj).lt k hk2).2 fun e => ?_
   rcases h.apart j i _ _ (fun e => hij e.symm) (List.getElem?_eq_getElem hj) hi with h1 | h1
   ·rw [hk2] at h1; cases h1
   ·exact h1 (hk2.trans e)
 ·intro a b p q hab ha hb2
  rw [List.getElem?_set] at ha hb2
  split at ha
  ·rename_i e1
   split at hb2
   ·rename_i e2; exact absurd (e1.symm.trans e2) hab
   ·rename_i e2
    try rw [if_pos hl] at ha
    injection ha with ha
    subst ha
    rcases key b q (fun e => e2 e.symm) hb2 with h1 | h1
    ·cases hub : u.ownBlock with
     | none => exact .inl hub
     | some k => exact .inr (by show u.ownBlock ≠ _; rw [hub,h1]; exact fun e => by cases e)
    ·exact .inr (fun e => h1 e.symm)
  ·rename_i e1
   split at hb2
   ·rename_i e2
    try rw [if_pos hl] at hb2
    injection hb2 with hb2
    subst hb2
    exact key a p (fun e => e1 e.symm) ha
   ·exact h.apart a b p q hab ha hb2
theorem FS.name {w : World} {B g cap : Nat} {x : List Tv} (h : FS B w (.slice (some ⟨g,0,none⟩) x.length cap) x) (i : Nat) (t : Tv) (hi : x[i]? = some t) (n : ByteArray) :
  FS B (w.setCell ⟨g,i * 2,none⟩ (.string n)) (.slice (some ⟨g,0,none⟩) x.length cap) (x.set i (n,t.2.1,t.2.2)) := by
 have hl : i < x.length := (List.getElem?_eq_some_iff.1 hi).1
 have hm : t ∈ x := List.mem_of_getElem? hi
 have hst := (World.ownsRow.stored h.own (i * 2) (.string n)).1
 rw [tcs_name x i t n t.2.2 hi] at hst
 have kp : ∀ b ∈ x,OR B (w.setCell ⟨g,i * 2,none⟩ (.string n)) b.2.1 b.2.2 := fun b hb => own_keep (h.rows b hb) fun k hk2 => Below.heap_setCell _ _ _ _ (fun e => own_ne h.own (h.rows b hb) (g := g) (g' := k) rfl hk2 ty_ne e.symm)
 refine ⟨by rw [List.length_set]; exact hst,fun b hb => ?_,fun a b p q hab ha hb2 => ?_⟩
 ·rcases mem_set hb with rfl | hb
  ·exact kp t hm
  ·exact kp b hb
 ·rw [List.getElem?_set] at ha hb2
  have e1 : ∃ p',x[a]? = some p' ∧ p'.2.1 = p.2.1 := by
   split at ha
   ·rename_i e; subst e
    try rw [if_pos hl] at ha
    injection ha with ha; subst ha; exact ⟨t,hi,rfl⟩
   ·exact ⟨p,ha,rfl⟩
  have e2 : ∃ q',x[b]? = some q' ∧ q'.2.1 = q.2.1 := by
   split at hb2
   ·rename_i e; subst e
    try rw [if_pos hl] at hb2
    injection hb2 with hb2; subst hb2; exact ⟨t,hi,rfl⟩
   ·exact ⟨q,hb2,rfl⟩
  obtain ⟨p',hp,ep⟩ := e1
  obtain ⟨q',hq,eq⟩ := e2
  have := h.apart a b p' q' hab hp hq
  unfold aprt at this ⊢
  rw [← ep,← eq]; exact this
def tight (t : Tv) : Prop := ∃ g,t.2.1 = .slice (some ⟨g,0,none⟩) t.2.2.length t.2.2.length
structure CopI (B g n : Nat) (s : List Tb) (i : Nat) (w : World) (x : List Tv) : Prop where
 fs : FS B w (.slice (some ⟨g,0,none⟩) x.length n) x
 len : x.length = n
 done : tbs (x.take i) = s.take i
 tight : ∀ (j : Nat) (t : Tv),j < i → x[j]? = some t → tight t
theorem CopI.start {B g n : Nat} {s : List Tb} {w : World} (h : w.ownsRow B 37 2 (.slice (some ⟨g,0,none⟩) n n) n (fl (List.replicate n (.string ByteArray.empty,.slice none 0 0)))) : CopI B g n s 0 w (List.replicate n (⟨#[]⟩,.slice none 0 0,[])) := by
 refine ⟨⟨?_,?_,?_⟩,List.length_replicate ..,by simp [tbs],fun j t hj => by omega⟩
 ·rw [List.length_replicate]
  unfold tcs
  rw [List.map_replicate]
  exact h
 ·intro t ht
  rw [List.eq_of_mem_replicate ht]
  exact World.ownsRow_nil _ _ _ _
 ·intro i j a b _ ha _
  rw [List.eq_of_mem_replicate (List.mem_of_getElem? ha)]
  exact .inl rfl
theorem CopI.step {B g n : Nat} {s : List Tb} {i : Nat} {w w1 : World} {x : List Tv} (h : CopI B g n s i w x) (hb : Below w.heap.size w w1) (t : Tb) (ht : s[i]? = some t) (hn : i < n) (G : Nat) (hG : w.heap.size ≤ G) (hu : OR B w1 (.slice (some ⟨G,0,none⟩) t.2.length t.2.length) t.2) :
  CopI B g n s (i + 1) ((w1.setCell ⟨g,i * 2,none⟩ (.string t.1)).setCell ⟨g,i * 2 + 1,none⟩ (.slice (some ⟨G,0,none⟩) t.2.length t.2.length)) (x.set i (t.1,.slice (some ⟨G,0,none⟩) t.2.length t.2.length,t.2)) := by
 have hil : i < x.length := by rw [h.len]; exact hn
 have hxi := List.getElem?_eq_getElem hil
 have f1 := FS.name (h.fs.below hb) i _ hxi t.1
 have hy : (x.set i (t.1,x[i].2.1,x[i].2.2))[i]? = some (t.1,x[i].2.1,x[i].2.2) := by rw [List.getElem?_set,if_pos rfl,if_pos hil]
 have hlen : (x.set i (t.1,x[i].2.1,x[i].2.2)).length = x.length := List.length_set ..
 have hgl : g < w.heap.size := (h.fs.own.lt g rfl).2
 rw [← hlen] at f1
 have f2 := FS.modk f1 i _ hy (.slice (some ⟨G,0,none⟩) t.2.length t.2.length) t.2 (w1 := w1.setCell ⟨g,i * 2,none⟩ (.string t.1)) (own_keep hu fun k hk => Below.heap_setCell _ _ _ _ (by
   have e : G = k := by simpa [Value.ownBlock] using hk
   show k ≠ g
   omega)) (fun k _ _ => rfl) (fun j p hj hp => by
   rw [List.getElem?_set,if_neg (fun e => hj e.symm)] at hp
   cases hpb : p.2.1.ownBlock with
   | none => exact .inl rfl
   | some k =>
    right
    intro e
    have := ((h.fs.rows p (List.mem_of_getElem? hp)).lt k hpb).2
    have e2 : k = G := by simpa [Value.ownBlock] using e
    omega)
 rw [List.set_set,hlen] at f2
 refine ⟨by rw [List.length_set]; exact f2,by rw [List.length_set]; exact h.len,?_,fun j q hj hq => ?_⟩
 ·rw [List.take_add_one,List.getElem?_set,if_pos rfl,if_pos hil,Option.toList_some]
  have e1 : (x.set i (t.1,.slice (some ⟨G,0,none⟩) t.2.length t.2.length,t.2)).take i = x.take i := by
   apply List.ext_getElem?
   intro k
   rw [List.getElem?_take,List.getElem?_take]
   split
   ·rw [List.getElem?_set,if_neg (by omega)]
   ·rfl
  rw [e1,List.take_add_one,ht,Option.toList_some,← h.done]
  unfold tbs
  rw [List.map_append]; rfl
 ·rw [List.getElem?_set] at hq
  split at hq
  ·try rw [if_pos hil] at hq
   injection hq with hq; subst hq; exact ⟨G,rfl⟩
  ·exact h.tight j q (by omega) hq
theorem splice_all {α : Type} (L X : List α) (h : X.length = L.length) : splice L 0 X = X := by
 unfold splice
 rw [List.take_zero,List.nil_append,List.drop_of_length_le (by omega),List.append_nil]
def FewS (s : List Tb) : Prop := s.length ≤ 1000000 ∧ ∀ t ∈ s,t.1.size ≤ 1000000 ∧ t.2.length ≤ 1000000
def CopP (s : List Tb) (w : World) (e : Ending) (w' : World) : Prop :=
 ∃ g x,e = .returned (.slice (some ⟨g,0,none⟩) s.length s.length) ∧ w.heap.size ≤ g ∧ FS w.heap.size w' (.slice (some ⟨g,0,none⟩) s.length s.length) x ∧ tbs x = s ∧ (∀ t ∈ x,tight t) ∧ Below w.heap.size w w'
theorem RR.src {w : World} {a : Option Addr} {c : Nat} {l : List Rw} (h : RR w (.slice a l.length c) l) (hp : 0 < l.length) : ∃ ad,a = some ad ∧ ∀ j v,(rcs l)[j]? = some v → w.cell? (ad.add j) = some v := by
 obtain ⟨g,off,cap,he,hc,hx⟩ := h.inv hp
 injection he with ea _ _
 refine ⟨_,ea,fun j v hj => ?_⟩
 obtain ⟨i,p,hi,hjv⟩ := fl_inv _ j v hj
 rw [List.getElem?_map] at hi
 cases hli : l[i]? with
 | none => rw [hli] at hi; cases hi
 | some r =>
  rw [hli] at hi
  injection hi with hi
  subst hi
  obtain ⟨h1,h2⟩ := hx i r hli
  rw [Addr.add_lit]
  rcases hjv with ⟨rfl,rfl⟩ | ⟨rfl,rfl⟩
  ·exact h1
  ·exact h2
set_option maxHeartbeats 4000000 in
theorem copy_any (v : Value) (s : List Tb) (w : World) (h : SR w v s) (hf : FewS s) :
  Calls Tryz.prog 41 #[v] w (CopP s w) := by
 obtain ⟨a,cap,rfl⟩ := h.form
 obtain ⟨i30,hi30,hz30,hs30,hb30⟩ := iTab
 obtain ⟨i31,hi31,hz31,hs31,hb31⟩ := iRow
 have und30 := undTab
 have und31 := undRow
 have HH := Lib.hid h
 have HF := Lib.hid hf
 have HF1 : Hid (s.length ≤ 1000000) := Lib.hid hf.1
 clear h hf
 go_enter Tryz.func41,Tryz.ntmps41
 go_wp2_with (refine wpList_make_full _ rfl _ _ 22 rfl w.heap.size 37 i30 _ 2 und30 hi30 hz30 hs30 _ _ _ _ s.length rfl rfl rfl rfl ?a1 ?a2 (Nat.le_refl _) ?_)
 case a1 => rw [hb30]; have := HF1.out; omega
 case a2 => have := HF1.out; unfold maxLen; omega
 intro w1 how hgr

 rw [made2] at how
 have HI0 := Lib.hid (CopI.start (s := s) how)
 have HB1 := Lib.hid ((Below.refl w.heap.size w).grown hgr (Nat.le_refl _) (fun k hk => by cases hk))
 obtain ⟨g,hg⟩ : ∃ g,w.heap.size = g := ⟨_,rfl⟩
 have HG := Lib.hid hg
 have HHW : Hid (SR w1 (.slice a s.length cap) s) := Lib.hid (HH.out.below HB1.out)
 rw [hg] at HI0 HB1 ⊢
 clear how hgr hg
 go_wp2
 go_loopg [12] s.length (fun gk u12 wx => ∃ (i : Nat) (x : List Tv),u12 = .int .i64 (i : Int) ∧ i + gk = s.length ∧ CopI g g s.length s i wx x ∧ Below g w wx)
 case atStart => exact ⟨0,_,rfl,by omega,HI0.out,HB1.out⟩
 case round =>
  obtain ⟨i,x,rfl,hi,hC,hB⟩ := hrel
  have HB := Lib.hid hB
  have HI := Lib.hid hi
  have HC := Lib.hid hC
  cases gk with
  | zero =>
   have l1 : ¬ ((i : Int) < (s.length : Int)) := by omega
   have hfin : CopP s w (.returned (.slice (some ⟨g,0,none⟩) s.length s.length)) wr := by
    have hxl : x.length = s.length := hC.len
    refine ⟨g,x,rfl,Nat.le_of_eq HG.out,by have := hC.fs; rw [hxl] at this; rw [HG.out]; exact this,?_,fun t ht => ?_,by rw [HG.out]; exact hB⟩
    ·have := hC.done
     rw [List.take_of_length_le (by omega),List.take_of_length_le (by omega)] at this
     exact this
    ·obtain ⟨j,hj⟩ := List.getElem?_of_mem ht
     exact hC.tight j t (by have := (List.getElem?_eq_some_iff.1 hj).1; omega) hj
   have HFIN := Lib.hid hfin
   clear hB hi hC hfin
   go_wp2
   go_ret
   exact HFIN.out
  | succ gk =>
   have hlt : i < s.length := by omega
   have hSR := HH.out.below (show Below w.heap.size w wr by rw [HG.out]; exact hB)
   obtain ⟨b,o,cp,he,hcp,hx⟩ := hSR.inv (by omega)
   injection he with ea _ ec
   subst ea ec
   obtain ⟨t,ht0⟩ : ∃ t,s[i] = t := ⟨_,rfl⟩
   have hsi : s[i]? = some t := by rw [List.getElem?_eq_getElem hlt,ht0]
   obtain ⟨x0,u,x1,hu⟩ := hx i t hsi
   have hsz := HF.out.2 t (List.mem_of_getElem? hsi)
   have l0 : (0 : Int) ≤ (i : Int) := by omega
   have l1 : (i : Int) < (s.length : Int) := by omega
   obtain ⟨i1,hi1⟩ : ∃ i1,i + 1 = i1 := ⟨_,rfl⟩
   have wk : IntKind.i64.wrap ((i : Int) + 1) = (i1 : Int) := by rw [show (i : Int) + 1 = (i1 : Int) by omega]; exact IntWalk.i64_in _ (by have := HF1.out; omega)
   have HI1 := Lib.hid hi1
   obtain ⟨nm,rs⟩ := t
   simp only at hsz x0 x1 hu
   obtain ⟨ua,ucap,rfl⟩ := hu.form
   have HSI := Lib.hid hsi
   have HSZ := Lib.hid hsz
   have HLT := Lib.hid hlt
   have hba := (Below.refl wr.heap.size wr).alloc (Nat.le_refl _) (.cells #[.string nm,.slice ua rs.length ucap] 37)
   have hblk : Blk (wr.alloc (.cells #[.string nm,.slice ua rs.length ucap] 37)) wr.heap.size 37 #[.string nm,.slice ua rs.length ucap] := Blk.new _ _ _
   have HBA := Lib.hid hba
   have HK := Lib.hid hblk
   have HU := Lib.hid (hu.below hba)
   have hgl : g < wr.heap.size := (hC.fs.own.lt g rfl).2
   have HGL := Lib.hid hgl
   have hxl : i < x.length := by rw [hC.len]; exact hlt
   have HXL := Lib.hid hxl
   clear hB hi hC hSR hx ht0 hsi hsz hlt hi1 hu hba hblk hgl hxl
   go_wp2_with (refine wpList_make_full _ rfl _ _ 30 rfl g 39 i31 _ 2 und31 hi31 hz31 hs31 _ _ _ _ rs.length rfl rfl rfl rfl ?b1 ?b2 ?b3 ?_)
   case b1 => have := HSZ.out.2; omega
   case b2 => have := HSZ.out.2; unfold maxLen; omega
   case b3 => have := HGL.out; simp; omega
   intro w2 ho2 hg2
   rw [made2] at ho2
   have hb2 : Below (wr.alloc (.cells #[.string nm,.slice ua rs.length ucap] 37)).heap.size _ w2 := (Below.refl _ _).grown hg2 (Nat.le_refl _) (fun k hk => by cases hk)
   have hsG : (wr.alloc (.cells #[.string nm,.slice ua rs.length ucap] 37)).heap.size = wr.heap.size + 1 := by simp
   have HU2 := Lib.hid (HU.out.below hb2)
   have hk2 := HK.out.below hb2 HK.out.lt
   have y0 : w2.cell? ⟨wr.heap.size,0,none⟩ = some (.string nm) := hk2.cell 0
   have y1 : w2.cell? ⟨wr.heap.size,1,none⟩ = some (.slice ua rs.length ucap) := hk2.cell 1
   have HK2 := Lib.hid hk2
   have HB2 : Hid (Below wr.heap.size wr w2) := Lib.hid (HBA.out.trans (hb2.mono HBA.out.size))
   have HO2 := Lib.hid ho2
   have HZ2 : Hid (wr.heap.size + 1 < w2.heap.size) := Lib.hid (ho2.lt _ rfl).2
   clear ho2 hg2 hb2 hsG hk2
   go_wp2_with (refine wpList_copy2 rfl _ _ 30 30 rfl i31 und31 hi31 hs31 _ _ _ _ _ _ rfl rfl HO2.out (rcs rs) ?d1 ?d2 ?d3 (rcs_one rs) ?_)
   case d1 => rw [show Nat.min rs.length rs.length = rs.length from Nat.min_self _,rcs_len]
   case d2 => exact fun h => HU2.out.src (by rw [show Nat.min rs.length rs.length = rs.length from Nat.min_self _] at h; exact h)
   case d3 => rw [rcs_len]; omega
   intro w3 ho3 hg3
   rw [splice_all _ _ (by rw [fl_len,List.length_replicate,rcs_len])] at ho3
   have HB3 : Hid (Below wr.heap.size wr w3) := Lib.hid (HB2.out.grown hg3 HB2.out.size (fun k hk => by injection hk with hk; omega))
   have HO3 : Hid (OR g w3 (.slice (some ⟨wr.heap.size + 1,0,none⟩) rs.length rs.length) rs) := Lib.hid ho3
   have HK3 := Lib.hid (HK2.out.grown hg3 (fun e => by injection e; omega))
   have z0 : w3.cell? ⟨wr.heap.size,0,none⟩ = some (.string nm) := HK3.out.cell 0
   have HCL := Lib.hid (clone_any nm w3 (Nat.le_trans HSZ.out.1 (by decide)))
   clear y0 y1 ho3 hg3
   go_wp2_with (go_at_call 85; (refine HCL.out.mono ?_); rintro e w4 ⟨rfl,hb4⟩; have hb5 : Below wr.heap.size wr w4 := HB3.out.trans (hb4.mono HB3.out.size); have hst := CopI.step HC.out hb5 (nm,rs) HSI.out HLT.out (wr.heap.size + 1) (Nat.le_succ _) (own_below HO3.out hb4); have HST := Lib.hid hst; have HB4 := Lib.hid hb5; have hfs := HC.out.fs.below hb5; obtain ⟨c0,c1⟩ := FS.at_ hfs i _ (List.getElem?_eq_getElem HXL.out); have f0 := World.ownsRow.frozenAt hfs.own (i * 2); have f1 := World.ownsRow.frozenAt hfs.own (i * 2 + 1); clear hb4 hb5 hst hfs)
   go_roundg gk
   case measure => exact Nat.lt_succ_self _
   case rel =>
    have hBg : Below g w w4 := HB.out.trans (HB4.out.mono (Nat.le_of_lt HGL.out))
    refine ⟨i1,_,rfl,by have := HI1.out; have := HI.out; omega,by have := HST.out; rw [HI1.out] at this; exact this,?_⟩
    exact (hBg.setCell (p := ⟨g,i * 2,none⟩) (Nat.le_refl _) _).setCell (p := ⟨g,i * 2 + 1,none⟩) (Nat.le_refl _) _

theorem rowAt_any (v : Value) (l : List Rw) (k : Int) (w : World) (h : RR w v l) (hu : upR l) (hl : l.length ≤ 1000000) :
  Calls Tryz.prog 92 #[v,.int .i64 k] w fun e w' => e = .returned (.tuple #[.int .i64 (lowR l k : Nat),.bool (hasR l k)]) ∧ Below w.heap.size w w' := by
 obtain ⟨a,cap,rfl⟩ := h.form
 have HS := Lib.hid (rsearch_any _ l k w h (upR_mono hu k) hl)
 clear h hu hl
 go_enter Tryz.func92,Tryz.ntmps92
 go_wp2_with (go_at_call 127; (refine HS.out.mono ?_); rintro e w2 ⟨rfl,hb2⟩; have HB2 := Lib.hid hb2; clear hb2)
 go_ret2
 exact ⟨rfl,HB2.out⟩
theorem FS.modr {w w1 : World} {B : Nat} {v : Value} {x : List Tv} (h : FS B w v x) (i : Nat) (t : Tv) (hi : x[i]? = some t) (l : List Rw) (hu : OR B w1 t.2.1 l)
  (hk : ∀ k,k < w.heap.size → some k ≠ t.2.1.ownBlock → w1.heap[k]? = w.heap[k]?) : FS B w1 v (x.set i (t.1,t.2.1,l)) := by
 have hl : i < x.length := (List.getElem?_eq_some_iff.1 hi).1
 have hm : t ∈ x := List.mem_of_getElem? hi
 have e : tcs (x.set i (t.1,t.2.1,l)) = tcs x := by
  rw [← tcs_set x i t t.2.1 l hi]
  exact set_self _ _ _ (tcs_at x i t hi).2
 refine ⟨?_,?_,?_⟩
 ·rw [List.length_set,e]
  refine own_keep h.own fun k hk2 => hk k (h.own.lt k hk2).2 fun e => ?_
  exact own_ne h.own (h.rows t hm) hk2 e.symm ty_ne rfl
 ·intro b hb
  obtain ⟨j,hj,e⟩ := List.getElem_of_mem hb
  rw [List.getElem_set] at e
  rw [List.length_set] at hj
  split at e
  ·subst e; exact hu
  ·rename_i hij
   subst e
   refine own_keep (h.rows _ (List.getElem_mem hj)) fun k hk2 => hk k ((h.rows _ (List.getElem_mem hj)).lt k hk2).2 fun e => ?_
   rcases h.apart j i _ _ (fun e => hij e.symm) (List.getElem?_eq_getElem hj) hi with h1 | h1
   ·rw [hk2] at h1; cases h1
   ·exact h1 (hk2.trans e)
 ·intro a b p q hab ha hb2
  rw [List.getElem?_set] at ha hb2
  have e1 : ∃ p',x[a]? = some p' ∧ p'.2.1 = p.2.1 := by
   split at ha
   ·rename_i e; subst e
    try rw [if_pos hl] at ha
    injection ha with ha; subst ha; exact ⟨t,hi,rfl⟩
   ·exact ⟨p,ha,rfl⟩
  have e2 : ∃ q',x[b]? = some q' ∧ q'.2.1 = q.2.1 := by
   split at hb2
   ·rename_i e; subst e
    try rw [if_pos hl] at hb2
    injection hb2 with hb2; subst hb2; exact ⟨t,hi,rfl⟩
   ·exact ⟨q,hb2,rfl⟩
  obtain ⟨p',hp,ep⟩ := e1
  obtain ⟨q',hq,eq⟩ := e2
  have := h.apart a b p' q' hab hp hq
  unfold aprt at this ⊢
  rw [← ep,← eq]; exact this
theorem OR.setV {B g cap : Nat} {w : World} {l : List Rw} (h : OR B w (.slice (some ⟨g,0,none⟩) l.length cap) l) (i : Nat) (r : Rw) (v : Int) (hi : l[i]? = some r) :
  OR B (w.setCell ⟨g,i * 2 + 1,none⟩ (.int .i64 v)) (.slice (some ⟨g,0,none⟩) l.length cap) (l.set i (r.1,v)) ∧ w.grownBy (w.setCell ⟨g,i * 2 + 1,none⟩ (.int .i64 v)) (some g) := by
 obtain ⟨a1,a2⟩ := World.ownsRow.stored h (i * 2 + 1) (.int .i64 v)
 have e : (rcs l).set (i * 2 + 1) (.int .i64 v) = rcs (l.set i (r.1,v)) := by
  unfold rcs
  rw [fl_set2 _ i (rp r) _ (by rw [List.getElem?_map,hi]; rfl),List.map_set]
 rw [e] at a1
 exact ⟨by unfold OR; rw [List.length_set]; exact a1,a2⟩
theorem rowins_any (B h : Nat) (l : List Rw) (i : Nat) (k v : Int) (vb : Nat) (w : World) (ho : OR B w (.slice (some ⟨h,0,none⟩) l.length l.length) l) (hv0 : w.cell? ⟨vb,0,none⟩ = some (.int .i64 k)) (hv1 : w.cell? ⟨vb,1,none⟩ = some (.int .i64 v)) (hi : i ≤ l.length) (hl : l.length ≤ 1000000) (hB : B ≤ w.heap.size) :
  Calls Tryz.prog 93 #[.slice (some ⟨h,0,none⟩) l.length l.length,.int .i64 (i : Int),.slice (some ⟨vb,0,none⟩) 1 1] w fun e w' =>
   ∃ h' c,e = .returned (.slice (some ⟨h',0,none⟩) (l.take i ++ (k,v) :: l.drop i).length c) ∧ OR B w' (.slice (some ⟨h',0,none⟩) (l.take i ++ (k,v) :: l.drop i).length c) (l.take i ++ (k,v) :: l.drop i) ∧ w.grownBy w' (some h) ∧ (h' = h ∨ w.heap.size ≤ h') := by
 have e1 : (l.map rp).length = l.length := List.length_map ..
 have e2 : (l.map rp).take i ++ (.int .i64 k,.int .i64 v) :: (l.map rp).drop i = (l.take i ++ (k,v) :: l.drop i).map rp := by
  rw [List.map_append,List.map_cons,List.map_take,List.map_drop]
 have ho2 : w.ownsRow B 39 2 (.slice (some ⟨h,0,none⟩) (l.map rp).length (l.map rp).length) (l.map rp).length (fl (l.map rp)) := by rw [e1]; exact ho
 have := rinsert_any B h (l.map rp) i (.int .i64 k) (.int .i64 v) vb w ho2 (rcs_one l) rfl rfl hv0 hv1 (by rw [e1]; exact hi) (by rw [e1]; exact hl) hB
 rw [e1,e2] at this
 refine this.mono ?_
 rintro e w' ⟨h',c,h1,h2,h3,h4⟩
 rw [List.length_map] at h1 h2
 exact ⟨h',c,h1,h2,h3,h4⟩
def ChgP (B : Nat) (V : Value) (x : List Tv) (i : Nat) (n : ByteArray) (R : List Rw × Int) (w : World) (e : Ending) (w' : World) : Prop :=
 ∃ u,e = .returned (.int .i64 R.2) ∧ FS B w' V (x.set i (n,u,R.1)) ∧ Below B w w'
theorem grown_below {B : Nat} {a b : World} {row : Option Nat} (h : a.grownBy b row) (hB : B ≤ a.heap.size) (hr : ∀ k,row = some k → B ≤ k) : Below B a b := (Below.refl B a).grown h hB hr
set_option maxHeartbeats 4000000 in
theorem put_any (B g cap : Nat) (x : List Tv) (i : Nat) (t : Tv) (k v : Int) (w : World) (h : FS B w (.slice (some ⟨g,0,none⟩) x.length cap) x) (hi : x[i]? = some t) (ht : tight t) (hu : upR t.2.2) (hl : t.2.2.length ≤ 1000000) (hB : B ≤ w.heap.size) :
  Calls Tryz.prog 52 #[.pointer (some ⟨g,i * 2,none⟩),.int .i64 k,.int .i64 v] w (ChgP B (.slice (some ⟨g,0,none⟩) x.length cap) x i t.1 (putR t.2.2 k v) w) := by
 obtain ⟨c0,c1⟩ := FS.at_ h i t hi
 have hor := h.rows t (List.mem_of_getElem? hi)
 have HF := Lib.hid h
 have HI := Lib.hid hi
 have hgl := (h.own.lt g rfl).2
 have hBg := (h.own.lt g rfl).1
 have hap : ∀ (j : Nat) (p : Tv),j ≠ i → x[j]? = some p → (p.2.1.ownBlock = none ∨ p.2.1.ownBlock ≠ t.2.1.ownBlock) := fun j p hj hp => h.apart j i p t hj hp hi
 obtain ⟨hb,hue⟩ := ht
 obtain ⟨n,u,l⟩ := t
 simp only at hue hor hu hl c0 c1 hap ⊢
 subst hue
 have hbl := hor.lt hb rfl
 have hgh : g ≠ hb := own_ne h.own hor rfl rfl ty_ne
 have HAP := Lib.hid hap
 have HOR := Lib.hid hor
 have HRA := Lib.hid (rowAt_any _ l k w hor.rr hu hl)
 have hlow : lowR l k ≤ l.length := low_le (ltK k) l
 have HGL := Lib.hid hgl
 have HBG := Lib.hid hBg
 have HBL := Lib.hid hbl
 have HGH := Lib.hid hgh
 have HL := Lib.hid hl
 have HB := Lib.hid hB
 have hfr : ∀ W : World,Below w.heap.size w W → W.cell? ⟨g,i * 2 + 1,none⟩ = some (.slice (some ⟨hb,0,none⟩) l.length l.length) ∧ W.frozen? ⟨g,i * 2 + 1,none⟩ = false := fun W hW =>
  ⟨(hW.cell (p := ⟨g,i * 2 + 1,none⟩) hgl).trans c1,World.ownsRow.frozenAt (HF.out.below hW).own _⟩
 have HFR := Lib.hid hfr
 obtain ⟨R,hR⟩ : ∃ R,putR l k v = R := ⟨_,rfl⟩
 rw [hR]
 obtain ⟨F,hF⟩ : ∃ F,hasR l k = F := ⟨_,rfl⟩
 obtain ⟨L,hL⟩ : ∃ L,lowR l k = L := ⟨_,rfl⟩
 have hPR : putR l k v = if F = true then (l.set L (k,v),0) else if 64 ≤ l.length then (l,11) else (l.take L ++ (k,v) :: l.drop L,0) := by unfold putR insR; rw [hF,hL]
 rw [hF,hL] at HRA
 rw [hL] at hlow
 rw [hR] at hPR
 have hHA : F = true → ∃ r,l[L]? = some r ∧ r.1 = k := fun e => by rw [← hL]; exact has_at (hF.trans e)
 have HHA := Lib.hid hHA
 have HLOW := Lib.hid hlow
 clear h hi hgl hBg hap hor hu hl hbl hgh hlow hB hfr hR hF hL hHA c0
 cases F with
 | true =>
  obtain ⟨r,hr,hrk⟩ := HHA.out rfl
  have hlt : L < l.length := (List.getElem?_eq_some_iff.1 hr).1
  have hR2 : R = (l.set L (k,v),0) := by rw [hPR,if_pos rfl]
  subst hR2
  have HR := Lib.hid hr
  have HRK := Lib.hid hrk
  have l0 : (0 : Int) ≤ (L : Int) := by omega
  have l1 : (L : Int) < (l.length : Int) := by omega
  clear hr hrk hlt hPR
  go_enter Tryz.func52,Tryz.ntmps52
  go_wp2_with (go_at_call 92; (refine HRA.out.mono ?_); rintro e w2 ⟨rfl,hb2⟩; have HB2 := Lib.hid hb2; have HO2 : Hid (OR B w2 (.slice (some ⟨hb,0,none⟩) l.length l.length) l) := Lib.hid (own_below HOR.out hb2); obtain ⟨y0,y1,f0,f1⟩ := OR.cells HO2.out L _ HR.out; obtain ⟨c2,f2⟩ := HFR.out w2 hb2; clear hb2)
  go_ret
  obtain ⟨o1,o2⟩ := OR.setV HO2.out L _ v HR.out
  rw [HRK.out] at o1
  refine ⟨.slice (some ⟨hb,0,none⟩) l.length l.length,rfl,?_,(HB2.out.mono HB.out).setCell (p := ⟨hb,L * 2 + 1,none⟩) HBL.out.1 _⟩
  refine FS.modr HF.out i (n,.slice (some ⟨hb,0,none⟩) l.length l.length,l) HI.out (l.set L (k,v)) ?_ ?_
  ·have e : (l.set L (k,v)).length = l.length := List.length_set ..
   exact o1
  ·intro q hq hne
   exact (o2.block q (Nat.lt_of_lt_of_le hq HB2.out.size) hne).trans (HB2.out.block q hq)
 | false =>
  have hR1 : R = if 64 ≤ l.length then (l,11) else (l.take L ++ (k,v) :: l.drop L,0) := by rw [hPR,if_neg (by decide)]
  by_cases h64 : 64 ≤ l.length
  ·have hR2 : R = (l,11) := by rw [hR1,if_pos h64]
   subst hR2
   have l64 : (64 : Int) ≤ (l.length : Int) := by omega
   clear hPR hR1 h64
   go_enter Tryz.func52,Tryz.ntmps52
   go_wp2_with (go_at_call 92; (refine HRA.out.mono ?_); rintro e w2 ⟨rfl,hb2⟩; have HB2 := Lib.hid hb2; obtain ⟨c2,f2⟩ := HFR.out w2 hb2; clear hb2)
   go_ret
   refine ⟨.slice (some ⟨hb,0,none⟩) l.length l.length,rfl,?_,HB2.out.mono HB.out⟩
   rw [set_self x i _ HI.out]
   exact HF.out.below HB2.out
  ·have hR2 : R = (l.take L ++ (k,v) :: l.drop L,0) := by rw [hR1,if_neg h64]
   subst hR2
   have l64 : ¬ ((64 : Int) ≤ (l.length : Int)) := by omega
   clear hPR hR1 h64
   go_enter Tryz.func52,Tryz.ntmps52
   go_wp2_with (first
    | (go_at_call 92; (refine HRA.out.mono ?_); rintro e w2 ⟨rfl,hb2⟩; have HB2 := Lib.hid hb2; have hba := hb2.alloc hb2.size (.cells #[.int .i64 k,.int .i64 v] 39); have HBA := Lib.hid hba; obtain ⟨c2,f2⟩ := HFR.out w2 hb2; obtain ⟨c3,f3⟩ := HFR.out _ hba; have HIN := Lib.hid (rowins_any B hb l L k v w2.heap.size (w2.alloc (.cells #[.int .i64 k,.int .i64 v] 39)) (own_below HOR.out hba) ((Blk.new w2 _ _).cell 0) ((Blk.new w2 _ _).cell 1) HLOW.out HL.out (Nat.le_trans HB.out hba.size)); clear hb2 hba)
    | (go_at_call 93; (refine HIN.out.mono ?_); rintro e w3 ⟨h',c',rfl,ho3,hg3,hh3⟩; have HO3 := Lib.hid ho3; have HG3 := Lib.hid hg3; have HH3 := Lib.hid hh3; have hne3 : (some g : Option Nat) ≠ some hb := (fun e => HGH.out (by injection e)); have c4 := hg3.cell (a := ⟨g,i * 2 + 1,none⟩) c3 hne3; have f4 : w3.frozen? ⟨g,i * 2 + 1,none⟩ = false := (World.frozen?_of_block (hg3.block g (Nat.lt_of_lt_of_le HGL.out HBA.out.size) hne3)).trans f3; clear ho3 hg3 hh3 hne3))
   go_ret
   have hBA : Below w.heap.size w _ := HBA.out
   have hle : min L l.length + (l.length - L + 1) = (l.take L ++ (k,v) :: l.drop L).length := by simp
   rw [hle]
   refine ⟨.slice (some ⟨h',0,none⟩) (l.take L ++ (k,v) :: l.drop L).length c',rfl,?_,?_⟩
   ·refine FS.modk HF.out i _ HI.out _ _ HO3.out (fun q hq hne => (HG3.out.block q (Nat.lt_of_lt_of_le hq hBA.size) hne).trans (hBA.block q hq)) (fun j p hj hp => ?_)
    rcases HH3.out with rfl | hnew
    ·exact HAP.out j p hj hp
    ·cases hpb : p.2.1.ownBlock with
     | none => exact .inl rfl
     | some q =>
      right
      intro e
      have h1 := ((HF.out.rows p (List.mem_of_getElem? hp)).lt q hpb).2
      have h2 : q = h' := by simpa [Value.ownBlock] using e
      have h3 := hBA.size
      omega
   ·exact ((hBA.mono HB.out).grown HG3.out (Nat.le_trans HB.out hBA.size) (fun q hq => by injection hq with hq; rw [← hq]; exact HBL.out.1)).setCell (p := ⟨g,i * 2 + 1,none⟩) HBG.out _
set_option maxHeartbeats 4000000 in
theorem add_any (B g cap : Nat) (x : List Tv) (i : Nat) (t : Tv) (k : Int) (w : World) (h : FS B w (.slice (some ⟨g,0,none⟩) x.length cap) x) (hi : x[i]? = some t) (ht : tight t) (hu : upR t.2.2) (hl : t.2.2.length ≤ 1000000) (hB : B ≤ w.heap.size) (hv : ∀ r ∈ t.2.2,inI r.2) :
  Calls Tryz.prog 53 #[.pointer (some ⟨g,i * 2,none⟩),.int .i64 k] w (ChgP B (.slice (some ⟨g,0,none⟩) x.length cap) x i t.1 (addR t.2.2 k) w) := by
 obtain ⟨c0,c1⟩ := FS.at_ h i t hi
 have hor := h.rows t (List.mem_of_getElem? hi)
 have HF := Lib.hid h
 have HI := Lib.hid hi
 have hgl := (h.own.lt g rfl).2
 obtain ⟨hb,hue⟩ := ht
 obtain ⟨n,u,l⟩ := t
 simp only at hue hor hu hl c0 c1 hv ⊢
 subst hue
 have hbl := hor.lt hb rfl
 have HOR := Lib.hid hor
 have HRA := Lib.hid (rowAt_any _ l k w hor.rr hu hl)
 have HBL := Lib.hid hbl
 have HL := Lib.hid hl
 have HB := Lib.hid hB
 have HV := Lib.hid hv
 have hfr : ∀ W : World,Below w.heap.size w W → W.cell? ⟨g,i * 2 + 1,none⟩ = some (.slice (some ⟨hb,0,none⟩) l.length l.length) := fun W hW => (hW.cell (p := ⟨g,i * 2 + 1,none⟩) hgl).trans c1
 have HFR := Lib.hid hfr
 obtain ⟨R,hR⟩ : ∃ R,addR l k = R := ⟨_,rfl⟩
 rw [hR]
 obtain ⟨F,hF⟩ : ∃ F,hasR l k = F := ⟨_,rfl⟩
 obtain ⟨L,hL⟩ : ∃ L,lowR l k = L := ⟨_,rfl⟩
 have hAR : (F = false ∧ R = (l,0)) ∨ ∃ r,F = true ∧ l[L]? = some r ∧ r.1 = k ∧ R = if 999999 ≤ r.2 then (l,2) else (l.set L (k,r.2 + 1),0) := by
  rw [← hR,← hF,← hL]
  cases hh : hasR l k with
  | false =>
   refine .inl ⟨rfl,?_⟩
   unfold addR
   split
   ·rename_i r hr
    have : r.1 ≠ k := fun e => by
     unfold hasR at hh
     rw [hr] at hh
     simp [e] at hh
    rw [if_neg this]
   ·rfl
  | true =>
   obtain ⟨r,hr,hk⟩ := has_at hh
   refine .inr ⟨r,rfl,hr,hk,?_⟩
   unfold addR
   rw [hr]
   simp only
   rw [if_pos hk]
 rw [hF,hL] at HRA
 clear h hi hgl hor hu hl hbl hB hfr hR hF hL c0 hv
 rcases hAR with ⟨rfl,rfl⟩ | ⟨r,rfl,hr,hrk,hR⟩
 ·go_enter Tryz.func53,Tryz.ntmps53
  go_wp2_with (go_at_call 92; (refine HRA.out.mono ?_); rintro e w2 ⟨rfl,hb2⟩; have HB2 := Lib.hid hb2; clear hb2)
  go_ret
  refine ⟨.slice (some ⟨hb,0,none⟩) l.length l.length,rfl,?_,HB2.out.mono HB.out⟩
  rw [set_self x i _ HI.out]
  exact HF.out.below HB2.out
 ·have hlt : L < l.length := (List.getElem?_eq_some_iff.1 hr).1
  have HR := Lib.hid hr
  have HRK := Lib.hid hrk
  have hrv := HV.out r (List.mem_of_getElem? hr)
  obtain ⟨r0,r1⟩ := r
  simp only at hR hrv
  have l0 : (0 : Int) ≤ (L : Int) := by omega
  have l1 : (L : Int) < (l.length : Int) := by omega
  clear hr hrk hlt
  by_cases h9 : 999999 ≤ r1
  ·rw [if_pos h9] at hR
   subst hR
   clear hrv
   go_enter Tryz.func53,Tryz.ntmps53
   go_wp2_with (go_at_call 92; (refine HRA.out.mono ?_); rintro e w2 ⟨rfl,hb2⟩; have HB2 := Lib.hid hb2; have HO2 : Hid (OR B w2 (.slice (some ⟨hb,0,none⟩) l.length l.length) l) := Lib.hid (own_below HOR.out hb2); obtain ⟨y0,y1,f0,f1⟩ := OR.cells HO2.out L _ HR.out; have c2 := HFR.out w2 hb2; clear hb2)
   go_ret
   refine ⟨.slice (some ⟨hb,0,none⟩) l.length l.length,rfl,?_,HB2.out.mono HB.out⟩
   rw [set_self x i _ HI.out]
   exact HF.out.below HB2.out
  ·rw [if_neg h9] at hR
   subst hR
   have wk : IntKind.i64.wrap (r1 + 1) = r1 + 1 := IntWalk.i64_in _ (by unfold inI at hrv; omega)
   clear hrv
   go_enter Tryz.func53,Tryz.ntmps53
   go_wp2_with (go_at_call 92; (refine HRA.out.mono ?_); rintro e w2 ⟨rfl,hb2⟩; have HB2 := Lib.hid hb2; have HO2 : Hid (OR B w2 (.slice (some ⟨hb,0,none⟩) l.length l.length) l) := Lib.hid (own_below HOR.out hb2); obtain ⟨y0,y1,f0,f1⟩ := OR.cells HO2.out L _ HR.out; have c2 := HFR.out w2 hb2; clear hb2)
   go_ret
   obtain ⟨o1,o2⟩ := OR.setV HO2.out L _ (r1 + 1) HR.out
   rw [HRK.out] at o1
   refine ⟨.slice (some ⟨hb,0,none⟩) l.length l.length,rfl,?_,(HB2.out.mono HB.out).setCell (p := ⟨hb,L * 2 + 1,none⟩) HBL.out.1 _⟩
   refine FS.modr HF.out i (n,.slice (some ⟨hb,0,none⟩) l.length l.length,l) HI.out (l.set L (k,r1 + 1)) o1 ?_
   intro q hq hne
   exact (o2.block q (Nat.lt_of_lt_of_le hq HB2.out.size) hne).trans (HB2.out.block q hq)

def lightT (t : Tb) : Bool := decide (t.1.size ≤ 60) && decide (t.2.length ≤ 70)
def lightS (s : List Tb) : Bool := decide (s.length ≤ 20) && s.all lightT
set_option maxHeartbeats 2000000 in
theorem light8_any (v : Value) (s : List Tb) (w : World) (h : SR w v s) :
  Calls Tryz.prog 9 #[v] w fun e w' => e = .returned (.bool (lightS s)) ∧ ∃ n,w' = w.drewN n := by
 obtain ⟨R,hR⟩ : ∃ R,lightS s = R := ⟨_,rfl⟩
 rw [hR]
 obtain ⟨a,cap,rfl⟩ := h.form
 have HH := Lib.hid h
 by_cases h20 : s.length ≤ 20
 ·have hg : (s.drop 0).all lightT = R := by rw [← hR,List.drop_zero]; unfold lightS; rw [decide_eq_true h20,Bool.true_and]
  have l20 : ¬ ((20 : Int) < (s.length : Int)) := by omega
  have HG := Lib.hid hg
  have H20 := Lib.hid h20
  clear h hR hg
  go_enter Tryz.func9,Tryz.ntmps9
  go_wp2
  go_loopg [3] s.length (fun gk u3 wx => ∃ i : Nat,u3 = .int .i64 (i : Int) ∧ i + gk = s.length ∧ (∃ n,wx = w.drewN n) ∧ (s.drop i).all lightT = R)
  case atStart => exact ⟨0,rfl,by omega,⟨0,rfl⟩,HG.out⟩
  case round =>
   obtain ⟨i,rfl,hi,⟨n0,rfl⟩,hr⟩ := hrel
   have HI := Lib.hid hi
   cases gk with
   | zero =>
    have l1 : ¬ ((i : Int) < (s.length : Int)) := by omega
    have hR : R = true := by rw [← hr,List.drop_of_length_le (by omega)]; rfl
    subst hR
    clear hi hr
    go_wp2
    go_ret
    exact ⟨rfl,_,rfl⟩
   | succ gk =>
    have hlt : i < s.length := by omega
    obtain ⟨b,o,cp,he,hcp,hx⟩ := HH.out.inv (by omega)
    injection he with ea _ ec
    subst ea ec
    obtain ⟨t,ht0⟩ : ∃ t,s[i] = t := ⟨_,rfl⟩
    obtain ⟨x0,u,x1,hu⟩ := hx i t (by rw [List.getElem?_eq_getElem hlt,ht0])
    obtain ⟨ua,uc,rfl⟩ := hu.form
    have l0 : (0 : Int) ≤ (i : Int) := by omega
    have l1 : (i : Int) < (s.length : Int) := by omega
    obtain ⟨i1,hi1⟩ : ∃ i1,i + 1 = i1 := ⟨_,rfl⟩
    have wk : IntKind.i64.wrap ((i : Int) + 1) = (i1 : Int) := by rw [show (i : Int) + 1 = (i1 : Int) by omega]; exact IntWalk.i64_in _ (by have := H20.out; omega)
    have HI1 := Lib.hid hi1
    rw [List.drop_eq_getElem_cons hlt,ht0,List.all_cons,hi1] at hr
    obtain ⟨n,rs⟩ := t
    unfold lightT at hr
    simp only at hr x0 hu
    by_cases hn : n.size ≤ 60
    ·have ln : ¬ ((60 : Int) < (n.size : Int)) := by omega
     rw [decide_eq_true hn,Bool.true_and] at hr
     by_cases hl : rs.length ≤ 70
     ·have ll : ¬ ((70 : Int) < (rs.length : Int)) := by omega
      rw [decide_eq_true hl,Bool.true_and] at hr
      have HR2 := Lib.hid hr
      clear hi hr hx ht0 hi1 hlt hu hn hl
      go_wp2
      go_roundg gk
      case measure => exact Nat.lt_succ_self _
      case rel => exact ⟨i1,rfl,by have := HI1.out; have := HI.out; omega,⟨_,rfl⟩,HR2.out⟩
     ·have ll : (70 : Int) < (rs.length : Int) := by omega
      rw [decide_eq_false hl,Bool.false_and] at hr
      have HR2 := Lib.hid hr.symm
      have hR2 : R = false := hr.symm
      subst hR2
      clear hi hr hx ht0 hi1 hlt hu hn hl
      go_wp2
      go_ret
      exact ⟨rfl,_,rfl⟩
    ·have ln : (60 : Int) < (n.size : Int) := by omega
     rw [decide_eq_false hn,Bool.false_and,Bool.false_and] at hr
     have hR2 : R = false := hr.symm
     subst hR2
     clear hi hr hx ht0 hi1 hlt hu hn
     go_wp2
     go_ret
     exact ⟨rfl,_,rfl⟩
 ·have l20 : (20 : Int) < (s.length : Int) := by omega
  have hR2 : R = false := by rw [← hR]; unfold lightS; rw [decide_eq_false h20,Bool.false_and]
  subst hR2
  clear h hR h20
  go_enter Tryz.func9,Tryz.ntmps9
  go_wp2
  go_ret
  exact ⟨rfl,0,rfl⟩

theorem run_append_nil0 {P : Program} {w : World} (t ty e : TypeId) (i : TypeInfo) (ht : P.underlying t = some (.slice e)) (hi : P.info? e = some i) (p : Option Addr) (c : Nat) :
  (Builtin.append_ #[t,t] ty #[.slice none 0 0,.slice p 0 c]).run P w = .ok (.slice none 0 0) w := by
 have hf : (Builtin.firstCells i.size 0 (.slice p 0 c)).run P w = .ok #[] w := by
  cases p with
  | none => exact run_firstCells_none w i.size 0 0 c
  | some ad => exact run_firstCells_some w i.size 0 ad 0 c [] (by simp) (fun j v hj => by simp at hj)
 simp [Builtin.append_,run_underlying ht,sizeOf,typeInfo,hi,Builtin.lenOf,hf]
theorem step_append_nil0 {P : Program} {w : World} {ops : Array Oper} {o : Oper} {a : Act} {K : Act → World → Prop} {Q : Exit → Act → World → Prop} {E : Prop} (hgd : o.guard = none) (s x : Operand) (t : TypeId)
  (ho : o.op = .call { callee := .builtin .append,args := #[s,x],argTypes := #[t,t] }) (e : TypeId) (i : TypeInfo) (ht : P.underlying t = some (.slice e)) (hi : P.info? e = some i)
  (p : Option Addr) (c : Nat) (hs : a.eval s = .slice none 0 0) (hx : a.eval x = .slice p 0 c)
  (h : K (a.put o.dst (.slice none 0 0)) w) : if Region.wanted o (yielded ops a.tmps) = true then Oper.wp P o a w K Q else E := by
 have hw : Region.wanted o (yielded ops a.tmps) = true := by simp [Region.wanted,hgd]
 rw [if_pos hw]
 have hrun := run_append_nil0 (P := P) (w := w) t o.type e i ht hi p c
 unfold Oper.wp
 simp [execOp,ho,resolve,invoke,builtin,hs,hx,hrun,Result.andThen]
 exact h
theorem FS.snoc {w w1 : World} {B : Nat} {v v1 : Value} {x : List Tv} (h : FS B w v x) (n : ByteArray) (u : Value) (l : List Rw) (hu : OR B w u l)
  (hap : ∀ t ∈ x,t.2.1.ownBlock = none ∨ t.2.1.ownBlock ≠ u.ownBlock) (hg : w.grownBy w1 v.ownBlock)
  (ho : w1.ownsRow B 37 2 v1 (x.length + 1) (tcs x ++ [.string n,u])) : FS B w1 v1 (x ++ [(n,u,l)]) := by
 have keep : ∀ (u : Value) (l : List Rw),OR B w u l → OR B w1 u l := fun u l hu => own_keep hu fun k hk => hg.block k (hu.lt k hk).2 (fun e => own_ne h.own hu (g := k) (g' := k) e.symm hk ty_ne rfl)
 refine ⟨?_,fun t ht => ?_,fun i j a b hij ha hb => ?_⟩
 ·rw [List.length_append,tcs_append]; exact ho
 ·rcases List.mem_append.1 ht with ht | ht
  ·exact keep _ _ (h.rows t ht)
  ·rw [List.mem_singleton] at ht; subst ht; exact keep _ _ hu
 ·rw [List.getElem?_append] at ha hb
  have one : ∀ (k : Nat) (p q : Tv),[q][k]? = some p → k = 0 ∧ p = q := fun k p q hk => by
   cases k with
   | zero => simp at hk; exact ⟨rfl,hk.symm⟩
   | succ k => simp at hk
  split at ha
  ·split at hb
   ·exact h.apart i j a b hij ha hb
   ·obtain ⟨_,rfl⟩ := one _ _ _ hb
    exact hap a (List.mem_of_getElem? ha)
  ·obtain ⟨e1,rfl⟩ := one _ _ _ ha
   split at hb
   ·have := hap b (List.mem_of_getElem? hb)
    show u.ownBlock = none ∨ u.ownBlock ≠ b.2.1.ownBlock
    rcases this with h1 | h1
    ·cases hu2 : u.ownBlock with
     | none => exact .inl rfl
     | some k => exact .inr (by rw [h1]; exact fun e => by cases e)
    ·exact .inr (fun e => h1 e.symm)
   ·obtain ⟨e2,rfl⟩ := one _ _ _ hb
    omega
theorem light_few {s : List Tb} (h : lightS s = true) : FewS s := by
 unfold lightS at h
 rw [Bool.and_eq_true] at h
 have h1 := of_decide_eq_true h.1
 refine ⟨by omega,fun t ht => ?_⟩
 have h2 := List.all_eq_true.1 h.2 t ht
 unfold lightT at h2
 rw [Bool.and_eq_true] at h2
 have h3 := of_decide_eq_true h2.1
 have h4 := of_decide_eq_true h2.2
 exact ⟨by omega,by omega⟩

theorem find1_any (n name : ByteArray) (u : Value) (x : Nat) (w : World) (h : w.cell? ⟨x,0,none⟩ = some (.string name)) :
  Calls Tryz.prog 46 #[.agg #[.string n,u],.pointer (some ⟨x,0,none⟩)] w fun e w' => e = .returned (.bool (n.toList == name.toList)) ∧ Below w.heap.size w w' := by
 have hl : x < w.heap.size := World.block_lt_of_cell? w _ h
 have c1 : ∀ o,(w.alloc o).cell? ⟨x,0,none⟩ = some (.string name) := fun o => (World.cell?_of_block (a := ⟨x,0,none⟩) (Below.heap_alloc w o x hl)).trans h
 have HB := Lib.hid (fun o => (Below.refl w.heap.size w).alloc (Nat.le_refl _) o)
 go_enter Tryz.func46,Tryz.ntmps46
 go_wp2
 go_ret
 exact ⟨rfl,HB.out _⟩
set_option maxHeartbeats 2000000 in
theorem idxf_any (v : Value) (s : List Tb) (name : ByteArray) (x : Nat) (w : World) (h : SR w v s) (hc : w.cell? ⟨x,0,none⟩ = some (.string name)) (hs : s.length ≤ 1000000) :
  Calls Tryz.prog 45 #[v,.func (.func 46) #[] #[.pointer (some ⟨x,0,none⟩)]] w fun e w' => e = .returned (.int .i64 (findN s name 0)) ∧ Below w.heap.size w w' := by
 obtain ⟨R,hR⟩ : ∃ R,findN s name 0 = R := ⟨_,rfl⟩
 rw [hR]
 obtain ⟨a,cap,rfl⟩ := h.form
 have HH := Lib.hid h
 have HR := Lib.hid hR
 have HC := Lib.hid hc
 have HS := Lib.hid hs
 have hxl : x < w.heap.size := World.block_lt_of_cell? w _ hc
 have henter : ∀ args w,(callFunc 46 args).run Tryz.prog w = .ok (.enter 46 args) w := fun args w => by show Sem.run Tryz.prog (callFunc 46 args) w = _; go_simp
 clear h hR hc hs
 go_enter Tryz.func45,Tryz.ntmps45
 go_wp2
 go_loopg [8] s.length (fun gk u8 wx => ∃ i : Nat,u8 = .int .i64 (i : Int) ∧ i + gk = s.length ∧ Below w.heap.size w wx ∧ findN (s.drop i) name i = R)
 case atStart => exact ⟨0,rfl,by omega,Below.refl _ _,HR.out⟩
 case round =>
  obtain ⟨i,rfl,hi,hB,hr⟩ := hrel
  have HB := Lib.hid hB
  have HI := Lib.hid hi
  cases gk with
  | zero =>
   have l1 : ¬ ((i : Int) < (s.length : Int)) := by omega
   have hR : R = -1 := by rw [← hr,List.drop_of_length_le (by omega)]; rfl
   subst hR
   clear hB hi hr
   go_wp2
   go_ret
   exact ⟨rfl,HB.out⟩
  | succ gk =>
   have hlt : i < s.length := by omega
   have hRR := HH.out.below hB
   obtain ⟨b,o,cp,he,hcp,hx⟩ := hRR.inv (by omega)
   injection he with ea _ ec
   subst ea ec
   obtain ⟨t,ht0⟩ : ∃ t,s[i] = t := ⟨_,rfl⟩
   obtain ⟨x0,u,x1,hu⟩ := hx i t (by rw [List.getElem?_eq_getElem hlt,ht0])
   have l0 : (0 : Int) ≤ (i : Int) := by omega
   have l1 : (i : Int) < (s.length : Int) := by omega
   obtain ⟨i1,hi1⟩ : ∃ i1,i + 1 = i1 := ⟨_,rfl⟩
   have wk : IntKind.i64.wrap ((i : Int) + 1) = (i1 : Int) := by rw [show (i : Int) + 1 = (i1 : Int) by omega]; exact IntWalk.i64_in _ (by have := HS.out; omega)
   have HI1 := Lib.hid hi1
   rw [List.drop_eq_getElem_cons hlt,ht0,findN,hi1] at hr
   obtain ⟨n,rs⟩ := t
   have HF := Lib.hid (find1_any n name u x wr ((hB.cell (p := ⟨x,0,none⟩) hxl).trans HC.out))
   obtain ⟨Q,hQ⟩ : ∃ Q,(n.toList == name.toList) = Q := ⟨_,rfl⟩
   rw [hQ] at HF
   simp only [hQ] at hr
   have HR2 := Lib.hid hr
   clear hB hi hr hRR hx ht0 hi1 hQ hlt hu
   cases Q with
   | true =>
    have hR : R = (i : Int) := by have := HR2.out; simpa using this.symm
    subst hR
    go_wp2_with (go_at_call 46; (refine HF.out.mono ?_); rintro e w2 ⟨rfl,hb2⟩; have HB2 := Lib.hid hb2; clear hb2)
    go_ret
    exact ⟨rfl,HB.out.trans (HB2.out.mono HB.out.size)⟩
   | false =>
    go_wp2_with (go_at_call 46; (refine HF.out.mono ?_); rintro e w2 ⟨rfl,hb2⟩; have HB2 := Lib.hid hb2; clear hb2)
    go_roundg gk
    case measure => exact Nat.lt_succ_self _
    case rel => exact ⟨i1,rfl,by have := HI1.out; have := HI.out; omega,HB.out.trans (HB2.out.mono HB.out.size),by have := HR2.out; simpa using this⟩
theorem find_any (v : Value) (s : List Tb) (name : ByteArray) (w : World) (h : SR w v s) (hs : s.length ≤ 1000000) :
  Calls Tryz.prog 13 #[v,.string name] w fun e w' => e = .returned (.int .i64 (findN s name 0)) ∧ Below w.heap.size w w' := by
 have hb := (Below.refl w.heap.size w).alloc (Nat.le_refl _) (.cells #[.string name] 9)
 have HB := Lib.hid hb
 have HI := Lib.hid (idxf_any v s name w.heap.size _ (h.below hb) (by rw [World.cell?_alloc_new]; rfl) hs)
 clear h hs hb
 go_enter Tryz.func13,Tryz.ntmps13
 go_wp2_with (go_at_call 45; (refine HI.out.mono ?_); rintro e w2 ⟨rfl,hb2⟩; have HB2 := Lib.hid (HB.out.trans (hb2.mono HB.out.size)); clear hb2)
 go_ret
 exact ⟨rfl,HB2.out⟩
set_option maxHeartbeats 2000000 in
theorem rfind_any (v : Value) (s : List Tb) (name : ByteArray) (w : World) (h : SR w v s) (hs : s.length ≤ 1000000) :
  Calls Tryz.prog 14 #[v,.string name] w fun e w' => e = .returned (.int .i64 (findN s name 0)) ∧ Below w.heap.size w w' := by
 obtain ⟨R,hR⟩ : ∃ R,findN s name 0 = R := ⟨_,rfl⟩
 rw [hR]
 obtain ⟨a,cap,rfl⟩ := h.form
 have HH := Lib.hid h
 have HR := Lib.hid hR
 have HS := Lib.hid hs
 clear h hR hs
 go_enter Tryz.func14,Tryz.ntmps14
 go_wp2
 go_loopg [5] s.length (fun gk u5 wx => ∃ i : Nat,u5 = .int .i64 (i : Int) ∧ i + gk = s.length ∧ wx = w ∧ findN (s.drop i) name i = R)
 case atStart => exact ⟨0,rfl,by omega,rfl,HR.out⟩
 case round =>
  obtain ⟨i,rfl,hi,rfl,hr⟩ := hrel
  have HI := Lib.hid hi
  cases gk with
  | zero =>
   have l1 : ¬ ((i : Int) < (s.length : Int)) := by omega
   have hR : R = -1 := by rw [← hr,List.drop_of_length_le (by omega)]; rfl
   subst hR
   clear hi hr
   go_wp2
   go_ret
   exact ⟨rfl,Below.refl _ _⟩
  | succ gk =>
   have hlt : i < s.length := by omega
   obtain ⟨b,o,cp,he,hcp,hx⟩ := HH.out.inv (by omega)
   injection he with ea _ ec
   subst ea ec
   obtain ⟨t,ht0⟩ : ∃ t,s[i] = t := ⟨_,rfl⟩
   obtain ⟨x0,u,x1,hu⟩ := hx i t (by rw [List.getElem?_eq_getElem hlt,ht0])
   have l0 : (0 : Int) ≤ (i : Int) := by omega
   have l1 : (i : Int) < (s.length : Int) := by omega
   obtain ⟨i1,hi1⟩ : ∃ i1,i + 1 = i1 := ⟨_,rfl⟩
   have wk : IntKind.i64.wrap ((i : Int) + 1) = (i1 : Int) := by rw [show (i : Int) + 1 = (i1 : Int) by omega]; exact IntWalk.i64_in _ (by have := HS.out; omega)
   have HI1 := Lib.hid hi1
   rw [List.drop_eq_getElem_cons hlt,ht0,findN,hi1] at hr
   obtain ⟨n,rs⟩ := t
   obtain ⟨Q,hQ⟩ : ∃ Q,(n.toList == name.toList) = Q := ⟨_,rfl⟩
   simp only [hQ] at hr
   have HR2 := Lib.hid hr
   clear hi hr hx ht0 hi1 hlt hu
   cases Q with
   | true =>
    have hR : R = (i : Int) := by have := HR2.out; simpa using this.symm
    subst hR
    go_wp2
    go_ret
    exact ⟨rfl,Below.refl _ _⟩
   | false =>
    go_wp2
    go_roundg gk
    case measure => exact Nat.lt_succ_self _
    case rel => exact ⟨i1,rfl,by have := HI1.out; have := HI.out; omega,rfl,by have := HR2.out; simpa using this⟩
end Go.Proofs.YtgdabkpahmlkpaaGreatDoor
