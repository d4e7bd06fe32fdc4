/- Di Dl Dm Dh Teo Dn -/
import Derived.Test.YtjmmninopagpjaaGreatDoorG4
import Derived.Deep.RegionLaw
import Derived.Test.YtjmmninopagpjaaGreatDoorG5
import Derived.Test.YtjmmninopagpjaaGreatDoorG1
import Derived.Test.YtjmmninopagpjaaGreatDoorG2
set_option linter.unusedSimpArgs false
set_option linter.unusedVariables false
namespace Go.Proofs.YtjmmninopagpjaaGreatDoor
open Go.ChangeShapes Go.WideShapes Go.ChangeAt Go.RowKit
set_option maxRecDepth 100000
set_option linter.unusedVariables false
set_option linter.unusedSimpArgs false

theorem splice_end {α : Type} (A Z X : List α) (k : Nat) (hk : A.length = k) (h : X.length ≤ Z.length) : splice (A ++ Z) k X = A ++ X ++ Z.drop X.length := by
 subst hk
 unfold splice
 rw [List.take_left,List.drop_append,List.drop_of_length_le (by omega : A.length ≤ A.length + X.length),List.nil_append,← List.append_assoc]
 congr 2
 omega
theorem splice_ins {α : Type} (A Z X Y : List α) (k m : Nat) (hk : A.length = k) (hm : k + X.length = m) (hz : Z.length = X.length + Y.length) : splice (splice (A ++ Z) k X) m Y = A ++ (X ++ Y) := by
 rw [splice_end A Z X k hk (by omega)]
 have h2 : (A ++ X).length = m := by rw [List.length_append]; omega
 have h3 : (Z.drop X.length).length = Y.length := by rw [List.length_drop]; omega
 rw [splice_end (A ++ X) (Z.drop X.length) Y m h2 (by omega),List.drop_of_length_le (by omega),List.append_nil,List.append_assoc]
def InsP (ty : TypeId) (B g : Nat) (l : List (Value × Value)) (w : World) (e : Ending) (w' : World) : Prop :=
 ∃ h c,e = .returned (.slice (some ⟨h,0,none⟩) l.length c) ∧ w'.ownsRow B ty 2 (.slice (some ⟨h,0,none⟩) l.length c) l.length (fl l) ∧ w.grownBy w' (some g) ∧ (h = g ∨ w.heap.size ≤ h)
theorem insLen {α : Type} (l : List α) (i : Nat) (x : α) (h : i ≤ l.length) : (l.take i ++ x :: l.drop i).length = l.length + 1 := by
 rw [List.length_append,List.length_cons,List.length_take,List.length_drop]; omega
set_option maxHeartbeats 4000000 in
theorem rinsert_any (B g : Nat) (l : List (Value × Value)) (i : Nat) (p0 p1 : Value) (vb : Nat) (w : World) (h : w.ownsRow B 65 2 (.slice (some ⟨g,0,none⟩) l.length l.length) l.length (fl l)) (hone : ∀ v ∈ fl l,v.oneCell' = true) (hp0 : p0.oneCell' = true) (hp1 : p1.oneCell' = true)
  (hv0 : w.cell? ⟨vb,0,none⟩ = some p0) (hv1 : w.cell? ⟨vb,1,none⟩ = some p1) (hi : i ≤ l.length) (hl : l.length ≤ 1000000) (hB : B ≤ w.heap.size) :
  Calls Tryz.prog 104 #[.slice (some ⟨g,0,none⟩) l.length l.length,.int .i64 (i : Int),.slice (some ⟨vb,0,none⟩) 1 1] w (InsP 65 B g (l.take i ++ (p0,p1) :: l.drop i) w) := by
 obtain ⟨i30,hi30,hz30,hs30,hb30⟩ := iRow
 have und30 := undRow
 have hnews : ∀ (W : World),W.cell? ⟨vb,0,none⟩ = some p0 → W.cell? ⟨vb,1,none⟩ = some p1 → ∀ j u,([p0,p1] : List Value)[j]? = some u → W.cell? ((⟨vb,0,none⟩ : Addr).add j) = some u := by
  intro W h0 h1 j u hu
  rw [Addr.add_lit]
  match j,hu with
  | 0,hu => simp at hu; subst hu; exact h0
  | 1,hu => simp at hu; subst hu; exact h1
 have hone2 : ∀ u ∈ ([p0,p1] : List Value),u.oneCell' = true := by
  intro u hu
  simp only [List.mem_cons,List.not_mem_nil,or_false] at hu
  rcases hu with rfl | rfl
  ·exact hp0
  ·exact hp1
 have HN := Lib.hid hnews
 have HO2 := Lib.hid hone2
 have HO := Lib.hid h
 have HONE := Lib.hid hone
 have HB := Lib.hid hB
 have HL := Lib.hid hl
 have HV0 := Lib.hid hv0
 have HV1 := Lib.hid hv1
 have hgl := (h.lt g rfl).2
 have hvl : vb < w.heap.size := World.block_lt_of_cell? w _ hv0
 have HGL := Lib.hid hgl
 have HVL := Lib.hid hvl
 have hll := insLen l i (p0,p1) hi
 obtain ⟨R,hR⟩ : ∃ R,l.take i ++ (p0,p1) :: l.drop i = R := ⟨_,rfl⟩
 rw [hR] at hll ⊢
 have HR := Lib.hid hR
 obtain ⟨n1,hn1⟩ : ∃ n1,l.length + 1 = n1 := ⟨_,rfl⟩
 rw [hn1] at hll
 have HRL := Lib.hid hll
 have HN1 := Lib.hid hn1
 have l0 : (0 : Int) ≤ (i : Int) := by omega
 have l1 : (i : Int) ≤ (l.length : Int) := by omega
 have wk : IntKind.i64.wrap ((l.length : Int) + 1) = (n1 : Int) := by rw [show (l.length : Int) + 1 = (n1 : Int) by omega]; exact IntWalk.i64_in _ (by omega)
 unfold InsP
 rw [hll]
 clear h hone hp0 hp1 hnews hone2 hl hgl hvl hR hll hB
 by_cases hin : i = l.length
 ·subst hin
  clear hv0 hv1
  go_enter Tryz.func104,Tryz.ntmps104
  go_wp2_with (at_builtin; refine wpList_append_lies _ rfl _ _ 39 rfl B 65 i30 (.agg #[.int .i64 0,.int .i64 0]) 2 16 und30 hi30 hz30 hs30 hb30 rfl (by decide) _ l.length (fl l) rfl HO.out ⟨vb,0,none⟩ 1 1 [p0,p1] rfl rfl ?c1 ?c2 (by decide) ?c3 ?c4 ?c5 _ rfl ?_)
  all_goals first
   | exact HN.out _ HV0.out HV1.out
   | exact HO2.out
   | (have := HL.out; unfold maxLen; omega)
   | (have := HL.out; omega)
   | exact HB.out
   | skip
  intro g9 cap9 w9 hown9 hgr9 hat9 hlt9
  have hR2 := HR.out
  rw [List.take_of_length_le (Nat.le_refl _),List.drop_of_length_le (Nat.le_refl _)] at hR2
  have hown8 : w9.ownsRow B 65 2 (.slice (some ⟨g9,0,none⟩) n1 cap9) n1 (fl R) := by
   rw [← hR2,fl_append]
   exact hown9
  have HO9 := Lib.hid hown8
  have HG9 := Lib.hid hgr9
  have hat8 : g9 = g ∨ w.heap.size ≤ g9 := by
   rcases hat9 with h | h
   ·left; injection h with h; exact h.symm
   ·right; omega
  have HA9 := Lib.hid hat8
  clear hown9 hown8 hgr9 hat9 hat8 hR2
  go_wp2
  go_ret
  exact ⟨g9,cap9,rfl,HO9.out,HG9.out,HA9.out⟩
 ·have hil : i < l.length := by omega
  have HIL := Lib.hid hil
  obtain ⟨k,hk⟩ : ∃ k,n1 - i = k := ⟨_,rfl⟩
  have HK := Lib.hid hk
  have wk2 : IntKind.i64.wrap ((n1 : Int) - (i : Int)) = (k : Int) := by rw [show (n1 : Int) - (i : Int) = (k : Int) by omega]; exact IntWalk.i64_in _ (by have := HL.out; have := HN1.out; omega)
  have l2 : ¬ ((i : Int) = (l.length : Int)) := by omega
  have l3 : (l.length : Int) < (n1 : Int) := by omega
  have l4 : ¬ (l.length = i) := by omega
  obtain ⟨i1,hi1⟩ : ∃ i1,i + 1 = i1 := ⟨_,rfl⟩
  have HI1 := Lib.hid hi1
  have wk3 : IntKind.i64.wrap ((i : Int) + 1) = (i1 : Int) := by rw [show (i : Int) + 1 = (i1 : Int) by omega]; exact IntWalk.i64_in _ (by have := HL.out; have := HIL.out; omega)
  obtain ⟨c,w1,hrun,hown,hgr⟩ := run_app_zeros (P := Tryz.prog) (w := w) (B := B) (e := 65) 39 3 39 i30 (.int .i64 0) (.int .i64 0) 16 .i64 .i64 und30 Tryz.underlying3 hi30 hz30 hs30 hb30
   (some ⟨g,0,none⟩) i l.length (fl (l.take i)) (by rw [fl_len,List.length_take]; omega) (fun _ => ⟨_,rfl,fun j v hj => by
    rw [fl_take,List.getElem?_take] at hj
    split at hj
    ·have := HO.out.cells rfl j v hj
     exact this
    ·cases hj⟩) k (by omega) (by omega) HB.out (by have := HL.out; omega) (by have := HL.out; unfold maxLen; omega)
  have hik : i + k = n1 := by omega
  rw [hik] at hrun hown
  have hcap : n1 ≤ c := by
   rcases hown.2 with ⟨h',_⟩ | ⟨g',cap',cur,h',_,_,hnc,_⟩
   ·cases h'
   ·injection h' with _ _ h'; omega
  have l5 : (n1 : Int) ≤ (c : Int) := by omega
  have l6 : ¬ (c = i) := by omega
  have l7 : ¬ (c = i1) := by omega
  have l8 : (i : Int) ≤ (n1 : Int) := by omega
  have l9 : (i1 : Int) ≤ (n1 : Int) := by omega
  have l10 : (0 : Int) ≤ (i1 : Int) := by omega
  have HIK := Lib.hid hik
  have HC := Lib.hid hcap
  have HOW := Lib.hid hown
  have HGR := Lib.hid hgr
  have x0 : w1.cell? ⟨vb,0,none⟩ = some p0 := hgr.cell (a := ⟨vb,0,none⟩) hv0 (by simp)
  have x1 : w1.cell? ⟨vb,1,none⟩ = some p1 := hgr.cell (a := ⟨vb,1,none⟩) hv1 (by simp)
  have HX0 := Lib.hid x0
  have HX1 := Lib.hid x1
  clear x0 x1 hv0 hv1 hin hil hk hi1 hown hgr hik hcap
  obtain ⟨H,hH⟩ : ∃ H,w.heap.size = H := ⟨_,rfl⟩
  have HH := Lib.hid hH
  rw [hH] at hrun HOW ⊢
  clear hH
  go_enter Tryz.func104,Tryz.ntmps104
  go_wp2_with (first
   | (at_builtin; refine Lib.wpList_append_run _ rfl _ _ _ _ rfl _ _ rfl rfl _ _ hrun ?_)
   | (refine wpList_copy2 rfl _ _ 39 39 rfl i30 und30 hi30 hs30 _ _ _ _ _ _ rfl rfl HOW.out [p0,p1] ?d1 ?d2 ?d3 HO2.out ?_))
  case d1 =>
   have := HIL.out; have := HN1.out
   rw [show Nat.min 1 (n1 - i) = 1 from Nat.min_eq_left (by omega)]; rfl
  case d2 => exact fun _ => ⟨_,rfl,HN.out w1 HX0.out HX1.out⟩
  case d3 =>
   have := HIL.out; have := HN1.out
   show i * 2 + 2 ≤ n1 * 2
   omega
  intro w3 ho3 hg3
  have hm1 : Nat.min 1 (n1 - i) = 1 := Nat.min_eq_left (by have := HIL.out; have := HN1.out; omega)
  have hm2 : Nat.min (l.length - i) (n1 - i1) = l.length - i := Nat.min_eq_left (by have := HIL.out; have := HN1.out; have := HI1.out; omega)
  have hdl : (fl (l.drop i)).length = (l.length - i) * 2 := by rw [fl_len,List.length_drop]
  have hsrc : ∀ j v,(fl (l.drop i))[j]? = some v → w3.cell? ((⟨g,i * 2,none⟩ : Addr).add j) = some v := by
   intro j v hj
   rw [fl_drop,List.getElem?_drop] at hj
   have h1 := HO.out.cells rfl (i * 2 + j) v hj
   rw [Addr.add_lit,Nat.zero_add] at h1
   rw [Addr.add_lit]
   have hne : g ≠ H := by have := HGL.out; have := HH.out; omega
   exact hg3.cell (a := ⟨g,i * 2 + j,none⟩) (HGR.out.cell (a := ⟨g,i * 2 + j,none⟩) h1 (by simp)) (fun e => hne (by injection e))
  have HSRC := Lib.hid hsrc
  have HO3 := Lib.hid ho3
  have HG3 := Lib.hid hg3
  have HM2 := Lib.hid hm2
  have HDL := Lib.hid hdl
  have HONED : Hid (∀ v ∈ fl (l.drop i),v.oneCell' = true) := Lib.hid (fun v hv => HONE.out v (by rw [fl_drop] at hv; exact List.mem_of_mem_drop hv))
  clear hsrc ho3 hg3 hm2 hdl
  rw [hm1]
  clear hm1
  go_wp2_with fail
  go_region_law (refine step_copy2 rfl _ _ 39 39 rfl i30 und30 hi30 hs30 (i1 * 2) (n1 - i1) (c - i1) (some ⟨g,i * 2,none⟩) (l.length - i) (l.length - i) (by simp [Act.eval,Act.put]) (by simp [Act.eval,Act.put]) HO3.out (fl (l.drop i)) (by rw [HM2.out]; exact HDL.out) (fun _ => ⟨_,rfl,HSRC.out⟩) (by rw [HDL.out]; have := HIL.out; have := HN1.out; have := HI1.out; omega) HONED.out ?_; intro w4 ho4 hg4)
  have HO4 := Lib.hid ho4
  have HG4 := Lib.hid hg4
  clear ho4 hg4
  go_wp2
  go_ret
  have hO := HO4.out
  rw [splice_ins _ _ _ _ _ _ (by rw [fl_len,List.length_take,Nat.min_eq_left (Nat.le_of_lt HIL.out)]) (by have := HI1.out; show i * 2 + 2 = i1 * 2; omega) (by rw [fl_len,List.length_replicate,HDL.out]; have := HIK.out; have := HN1.out; have := HIL.out; show k * 2 = 2 + _; omega)] at hO
  have hG : w.grownBy w4 (some g) := by
   have g1 := HGR.out
   have hsz := HH.out
   refine ⟨HG4.out.os.trans (HG3.out.os.trans g1.os),HG4.out.tape.trans (HG3.out.tape.trans g1.tape),HG4.out.output.trans (HG3.out.output.trans g1.output),Nat.le_trans g1.size (Nat.le_trans HG3.out.size HG4.out.size),fun q hq _ => ?_⟩
   have hqH : some q ≠ some H := fun e => by injection e with e; omega
   have h1 := g1.size
   exact (HG4.out.block q (Nat.lt_of_lt_of_le hq (Nat.le_trans h1 HG3.out.size)) hqH).trans ((HG3.out.block q (Nat.lt_of_lt_of_le hq h1) hqH).trans (g1.block q hq (by simp)))
  refine ⟨H,c,rfl,?_,hG,.inr (Nat.le_refl _)⟩
  rw [← HR.out,fl_append]
  exact hO
set_option maxHeartbeats 4000000 in
theorem tinsert_any (B g : Nat) (l : List (Value × Value)) (i : Nat) (p0 p1 : Value) (vb : Nat) (w : World) (h : w.ownsRow B 63 2 (.slice (some ⟨g,0,none⟩) l.length l.length) l.length (fl l)) (hone : ∀ v ∈ fl l,v.oneCell' = true) (hp0 : p0.oneCell' = true) (hp1 : p1.oneCell' = true)
  (hv0 : w.cell? ⟨vb,0,none⟩ = some p0) (hv1 : w.cell? ⟨vb,1,none⟩ = some p1) (hi : i ≤ l.length) (hl : l.length ≤ 1000000) (hB : B ≤ w.heap.size) :
  Calls Tryz.prog 72 #[.slice (some ⟨g,0,none⟩) l.length l.length,.int .i64 (i : Int),.slice (some ⟨vb,0,none⟩) 1 1] w (InsP 63 B g (l.take i ++ (p0,p1) :: l.drop i) w) := by
 obtain ⟨i30,hi30,hz30,hs30,hb30⟩ := iTab
 have und30 := undTab
 have hnews : ∀ (W : World),W.cell? ⟨vb,0,none⟩ = some p0 → W.cell? ⟨vb,1,none⟩ = some p1 → ∀ j u,([p0,p1] : List Value)[j]? = some u → W.cell? ((⟨vb,0,none⟩ : Addr).add j) = some u := by
  intro W h0 h1 j u hu
  rw [Addr.add_lit]
  match j,hu with
  | 0,hu => simp at hu; subst hu; exact h0
  | 1,hu => simp at hu; subst hu; exact h1
 have hone2 : ∀ u ∈ ([p0,p1] : List Value),u.oneCell' = true := by
  intro u hu
  simp only [List.mem_cons,List.not_mem_nil,or_false] at hu
  rcases hu with rfl | rfl
  ·exact hp0
  ·exact hp1
 have HN := Lib.hid hnews
 have HO2 := Lib.hid hone2
 have HO := Lib.hid h
 have HONE := Lib.hid hone
 have HB := Lib.hid hB
 have HL := Lib.hid hl
 have HV0 := Lib.hid hv0
 have HV1 := Lib.hid hv1
 have hgl := (h.lt g rfl).2
 have hvl : vb < w.heap.size := World.block_lt_of_cell? w _ hv0
 have HGL := Lib.hid hgl
 have HVL := Lib.hid hvl
 have hll := insLen l i (p0,p1) hi
 obtain ⟨R,hR⟩ : ∃ R,l.take i ++ (p0,p1) :: l.drop i = R := ⟨_,rfl⟩
 rw [hR] at hll ⊢
 have HR := Lib.hid hR
 obtain ⟨n1,hn1⟩ : ∃ n1,l.length + 1 = n1 := ⟨_,rfl⟩
 rw [hn1] at hll
 have HRL := Lib.hid hll
 have HN1 := Lib.hid hn1
 have l0 : (0 : Int) ≤ (i : Int) := by omega
 have l1 : (i : Int) ≤ (l.length : Int) := by omega
 have wk : IntKind.i64.wrap ((l.length : Int) + 1) = (n1 : Int) := by rw [show (l.length : Int) + 1 = (n1 : Int) by omega]; exact IntWalk.i64_in _ (by omega)
 unfold InsP
 rw [hll]
 clear h hone hp0 hp1 hnews hone2 hl hgl hvl hR hll hB
 by_cases hin : i = l.length
 ·subst hin
  clear hv0 hv1
  go_enter Tryz.func72,Tryz.ntmps72
  go_wp2_with (at_builtin; refine wpList_append_lies _ rfl _ _ 22 rfl B 63 i30 (.agg #[.string ByteArray.empty,.slice none 0 0]) 2 40 und30 hi30 hz30 hs30 hb30 rfl (by decide) _ l.length (fl l) rfl HO.out ⟨vb,0,none⟩ 1 1 [p0,p1] rfl rfl ?c1 ?c2 (by decide) ?c3 ?c4 ?c5 _ rfl ?_)
  all_goals first
   | exact HN.out _ HV0.out HV1.out
   | exact HO2.out
   | (have := HL.out; unfold maxLen; omega)
   | (have := HL.out; omega)
   | exact HB.out
   | skip
  intro g9 cap9 w9 hown9 hgr9 hat9 hlt9
  have hR2 := HR.out
  rw [List.take_of_length_le (Nat.le_refl _),List.drop_of_length_le (Nat.le_refl _)] at hR2
  have hown8 : w9.ownsRow B 63 2 (.slice (some ⟨g9,0,none⟩) n1 cap9) n1 (fl R) := by
   rw [← hR2,fl_append]
   exact hown9
  have HO9 := Lib.hid hown8
  have HG9 := Lib.hid hgr9
  have hat8 : g9 = g ∨ w.heap.size ≤ g9 := by
   rcases hat9 with h | h
   ·left; injection h with h; exact h.symm
   ·right; omega
  have HA9 := Lib.hid hat8
  clear hown9 hown8 hgr9 hat9 hat8 hR2
  go_wp2
  go_ret
  exact ⟨g9,cap9,rfl,HO9.out,HG9.out,HA9.out⟩
 ·have hil : i < l.length := by omega
  have HIL := Lib.hid hil
  obtain ⟨k,hk⟩ : ∃ k,n1 - i = k := ⟨_,rfl⟩
  have HK := Lib.hid hk
  have wk2 : IntKind.i64.wrap ((n1 : Int) - (i : Int)) = (k : Int) := by rw [show (n1 : Int) - (i : Int) = (k : Int) by omega]; exact IntWalk.i64_in _ (by have := HL.out; have := HN1.out; omega)
  have l2 : ¬ ((i : Int) = (l.length : Int)) := by omega
  have l3 : (l.length : Int) < (n1 : Int) := by omega
  have l4 : ¬ (l.length = i) := by omega
  obtain ⟨i1,hi1⟩ : ∃ i1,i + 1 = i1 := ⟨_,rfl⟩
  have HI1 := Lib.hid hi1
  have wk3 : IntKind.i64.wrap ((i : Int) + 1) = (i1 : Int) := by rw [show (i : Int) + 1 = (i1 : Int) by omega]; exact IntWalk.i64_in _ (by have := HL.out; have := HIL.out; omega)
  obtain ⟨c,w1,hrun,hown,hgr⟩ := run_app_zeros (P := Tryz.prog) (w := w) (B := B) (e := 63) 22 3 22 i30 (.string ByteArray.empty) (.slice none 0 0) 40 .i64 .i64 und30 Tryz.underlying3 hi30 hz30 hs30 hb30
   (some ⟨g,0,none⟩) i l.length (fl (l.take i)) (by rw [fl_len,List.length_take]; omega) (fun _ => ⟨_,rfl,fun j v hj => by
    rw [fl_take,List.getElem?_take] at hj
    split at hj
    ·have := HO.out.cells rfl j v hj
     exact this
    ·cases hj⟩) k (by omega) (by omega) HB.out (by have := HL.out; omega) (by have := HL.out; unfold maxLen; omega)
  have hik : i + k = n1 := by omega
  rw [hik] at hrun hown
  have hcap : n1 ≤ c := by
   rcases hown.2 with ⟨h',_⟩ | ⟨g',cap',cur,h',_,_,hnc,_⟩
   ·cases h'
   ·injection h' with _ _ h'; omega
  have l5 : (n1 : Int) ≤ (c : Int) := by omega
  have l6 : ¬ (c = i) := by omega
  have l7 : ¬ (c = i1) := by omega
  have l8 : (i : Int) ≤ (n1 : Int) := by omega
  have l9 : (i1 : Int) ≤ (n1 : Int) := by omega
  have l10 : (0 : Int) ≤ (i1 : Int) := by omega
  have HIK := Lib.hid hik
  have HC := Lib.hid hcap
  have HOW := Lib.hid hown
  have HGR := Lib.hid hgr
  have x0 : w1.cell? ⟨vb,0,none⟩ = some p0 := hgr.cell (a := ⟨vb,0,none⟩) hv0 (by simp)
  have x1 : w1.cell? ⟨vb,1,none⟩ = some p1 := hgr.cell (a := ⟨vb,1,none⟩) hv1 (by simp)
  have HX0 := Lib.hid x0
  have HX1 := Lib.hid x1
  clear x0 x1 hv0 hv1 hin hil hk hi1 hown hgr hik hcap
  obtain ⟨H,hH⟩ : ∃ H,w.heap.size = H := ⟨_,rfl⟩
  have HH := Lib.hid hH
  rw [hH] at hrun HOW ⊢
  clear hH
  go_enter Tryz.func72,Tryz.ntmps72
  go_wp2_with (first
   | (at_builtin; refine Lib.wpList_append_run _ rfl _ _ _ _ rfl _ _ rfl rfl _ _ hrun ?_)
   | (refine wpList_copy2 rfl _ _ 22 22 rfl i30 und30 hi30 hs30 _ _ _ _ _ _ rfl rfl HOW.out [p0,p1] ?d1 ?d2 ?d3 HO2.out ?_))
  case d1 =>
   have := HIL.out; have := HN1.out
   rw [show Nat.min 1 (n1 - i) = 1 from Nat.min_eq_left (by omega)]; rfl
  case d2 => exact fun _ => ⟨_,rfl,HN.out w1 HX0.out HX1.out⟩
  case d3 =>
   have := HIL.out; have := HN1.out
   show i * 2 + 2 ≤ n1 * 2
   omega
  intro w3 ho3 hg3
  have hm1 : Nat.min 1 (n1 - i) = 1 := Nat.min_eq_left (by have := HIL.out; have := HN1.out; omega)
  have hm2 : Nat.min (l.length - i) (n1 - i1) = l.length - i := Nat.min_eq_left (by have := HIL.out; have := HN1.out; have := HI1.out; omega)
  have hdl : (fl (l.drop i)).length = (l.length - i) * 2 := by rw [fl_len,List.length_drop]
  have hsrc : ∀ j v,(fl (l.drop i))[j]? = some v → w3.cell? ((⟨g,i * 2,none⟩ : Addr).add j) = some v := by
   intro j v hj
   rw [fl_drop,List.getElem?_drop] at hj
   have h1 := HO.out.cells rfl (i * 2 + j) v hj
   rw [Addr.add_lit,Nat.zero_add] at h1
   rw [Addr.add_lit]
   have hne : g ≠ H := by have := HGL.out; have := HH.out; omega
   exact hg3.cell (a := ⟨g,i * 2 + j,none⟩) (HGR.out.cell (a := ⟨g,i * 2 + j,none⟩) h1 (by simp)) (fun e => hne (by injection e))
  have HSRC := Lib.hid hsrc
  have HO3 := Lib.hid ho3
  have HG3 := Lib.hid hg3
  have HM2 := Lib.hid hm2
  have HDL := Lib.hid hdl
  have HONED : Hid (∀ v ∈ fl (l.drop i),v.oneCell' = true) := Lib.hid (fun v hv => HONE.out v (by rw [fl_drop] at hv; exact List.mem_of_mem_drop hv))
  clear hsrc ho3 hg3 hm2 hdl
  rw [hm1]
  clear hm1
  go_wp2_with fail
  go_region_law (refine step_copy2 rfl _ _ 22 22 rfl i30 und30 hi30 hs30 (i1 * 2) (n1 - i1) (c - i1) (some ⟨g,i * 2,none⟩) (l.length - i) (l.length - i) (by simp [Act.eval,Act.put]) (by simp [Act.eval,Act.put]) HO3.out (fl (l.drop i)) (by rw [HM2.out]; exact HDL.out) (fun _ => ⟨_,rfl,HSRC.out⟩) (by rw [HDL.out]; have := HIL.out; have := HN1.out; have := HI1.out; omega) HONED.out ?_; intro w4 ho4 hg4)
  have HO4 := Lib.hid ho4
  have HG4 := Lib.hid hg4
  clear ho4 hg4
  go_wp2
  go_ret
  have hO := HO4.out
  rw [splice_ins _ _ _ _ _ _ (by rw [fl_len,List.length_take,Nat.min_eq_left (Nat.le_of_lt HIL.out)]) (by have := HI1.out; show i * 2 + 2 = i1 * 2; omega) (by rw [fl_len,List.length_replicate,HDL.out]; have := HIK.out; have := HN1.out; have := HIL.out; show k * 2 = 2 + _; omega)] at hO
  have hG : w.grownBy w4 (some g) := by
   have g1 := HGR.out
   have hsz := HH.out
   refine ⟨HG4.out.os.trans (HG3.out.os.trans g1.os),HG4.out.tape.trans (HG3.out.tape.trans g1.tape),HG4.out.output.trans (HG3.out.output.trans g1.output),Nat.le_trans g1.size (Nat.le_trans HG3.out.size HG4.out.size),fun q hq _ => ?_⟩
   have hqH : some q ≠ some H := fun e => by injection e with e; omega
   have h1 := g1.size
   exact (HG4.out.block q (Nat.lt_of_lt_of_le hq (Nat.le_trans h1 HG3.out.size)) hqH).trans ((HG3.out.block q (Nat.lt_of_lt_of_le hq h1) hqH).trans (g1.block q hq (by simp)))
  refine ⟨H,c,rfl,?_,hG,.inr (Nat.le_refl _)⟩
  rw [← HR.out,fl_append]
  exact hO

theorem rowAt_any (v : Value) (l : List Rw) (k : Int) (w : World) (h : RR w v l) (hu : upR l) (hl : l.length ≤ 1000000) :
  Calls Tryz.prog 103 #[v,.int .i64 k] w fun e w' => e = .returned (.tuple #[.int .i64 (lowR l k : Nat),.bool (hasR l k)]) ∧ Below w.heap.size w w' := by
 obtain ⟨a,cap,rfl⟩ := h.form
 have HS := Lib.hid (rsearch_any _ l k w h (upR_mono hu k) hl)
 clear h hu hl
 go_enter Tryz.func103,Tryz.ntmps103
 go_wp2_with (go_at_call 141; (refine HS.out.mono ?_); rintro e w2 ⟨rfl,hb2⟩; have HB2 := Lib.hid hb2; clear hb2)
 go_ret2
 exact ⟨rfl,HB2.out⟩
theorem FS.modr {w w1 : World} {B : Nat} {v : Value} {x : List Tv} (h : FS B w v x) (i : Nat) (t : Tv) (hi : x[i]? = some t) (l : List Rw) (hu : OR B w1 t.2.1 l)
  (hk : ∀ k,k < w.heap.size → some k ≠ t.2.1.ownBlock → w1.heap[k]? = w.heap[k]?) : FS B w1 v (x.set i (t.1,t.2.1,l)) := by
 have hl : i < x.length := (List.getElem?_eq_some_iff.1 hi).1
 have hm : t ∈ x := List.mem_of_getElem? hi
 have e : tcs (x.set i (t.1,t.2.1,l)) = tcs x := by
  rw [← tcs_set x i t t.2.1 l hi]
  exact set_self _ _ _ (tcs_at x i t hi).2
 refine ⟨?_,?_,?_⟩
 ·rw [List.length_set,e]
  refine own_keep h.own fun k hk2 => hk k (h.own.lt k hk2).2 fun e => ?_
  exact own_ne h.own (h.rows t hm) hk2 e.symm ty_ne rfl
 ·intro b hb
  obtain ⟨j,hj,e⟩ := List.getElem_of_mem hb
  rw [List.getElem_set] at e
  rw [List.length_set] at hj
  split at e
  ·subst e; exact hu
  ·rename_i hij
   subst e
   refine own_keep (h.rows _ (List.getElem_mem hj)) fun k hk2 => hk k ((h.rows _ (List.getElem_mem hj)).lt k hk2).2 fun e => ?_
   rcases h.apart j i _ _ (fun e => hij e.symm) (List.getElem?_eq_getElem hj) hi with h1 | h1
   ·rw [hk2] at h1; cases h1
   ·exact h1 (hk2.trans e)
 ·intro a b p q hab ha hb2
  rw [List.getElem?_set] at ha hb2
  have e1 : ∃ p',x[a]? = some p' ∧ p'.2.1 = p.2.1 := by
   split at ha
   ·rename_i e; subst e
    try rw [if_pos hl] at ha
    injection ha with ha; subst ha; exact ⟨t,hi,rfl⟩
   ·exact ⟨p,ha,rfl⟩
  have e2 : ∃ q',x[b]? = some q' ∧ q'.2.1 = q.2.1 := by
   split at hb2
   ·rename_i e; subst e
    try rw [if_pos hl] at hb2
    injection hb2 with hb2; subst hb2; exact ⟨t,hi,rfl⟩
   ·exact ⟨q,hb2,rfl⟩
  obtain ⟨p',hp,ep⟩ := e1
  obtain ⟨q',hq,eq⟩ := e2
  have := h.apart a b p' q' hab hp hq
  unfold aprt at this ⊢
  rw [← ep,← eq]; exact this
theorem OR.setV {B g cap : Nat} {w : World} {l : List Rw} (h : OR B w (.slice (some ⟨g,0,none⟩) l.length cap) l) (i : Nat) (r : Rw) (v : Int) (hi : l[i]? = some r) :
  OR B (w.setCell ⟨g,i * 2 + 1,none⟩ (.int .i64 v)) (.slice (some ⟨g,0,none⟩) l.length cap) (l.set i (r.1,v)) ∧ w.grownBy (w.setCell ⟨g,i * 2 + 1,none⟩ (.int .i64 v)) (some g) := by
 obtain ⟨a1,a2⟩ := World.ownsRow.stored h (i * 2 + 1) (.int .i64 v)
 have e : (rcs l).set (i * 2 + 1) (.int .i64 v) = rcs (l.set i (r.1,v)) := by
  unfold rcs
  rw [fl_set2 _ i (rp r) _ (by rw [List.getElem?_map,hi]; rfl),List.map_set]
 rw [e] at a1
 exact ⟨by unfold OR; rw [List.length_set]; exact a1,a2⟩
theorem rowins_any (B h : Nat) (l : List Rw) (i : Nat) (k v : Int) (vb : Nat) (w : World) (ho : OR B w (.slice (some ⟨h,0,none⟩) l.length l.length) l) (hv0 : w.cell? ⟨vb,0,none⟩ = some (.int .i64 k)) (hv1 : w.cell? ⟨vb,1,none⟩ = some (.int .i64 v)) (hi : i ≤ l.length) (hl : l.length ≤ 1000000) (hB : B ≤ w.heap.size) :
  Calls Tryz.prog 104 #[.slice (some ⟨h,0,none⟩) l.length l.length,.int .i64 (i : Int),.slice (some ⟨vb,0,none⟩) 1 1] w fun e w' =>
   ∃ h' c,e = .returned (.slice (some ⟨h',0,none⟩) (l.take i ++ (k,v) :: l.drop i).length c) ∧ OR B w' (.slice (some ⟨h',0,none⟩) (l.take i ++ (k,v) :: l.drop i).length c) (l.take i ++ (k,v) :: l.drop i) ∧ w.grownBy w' (some h) ∧ (h' = h ∨ w.heap.size ≤ h') := by
 have e1 : (l.map rp).length = l.length := List.length_map ..
 have e2 : (l.map rp).take i ++ (.int .i64 k,.int .i64 v) :: (l.map rp).drop i = (l.take i ++ (k,v) :: l.drop i).map rp := by
  rw [List.map_append,List.map_cons,List.map_take,List.map_drop]
 have ho2 : w.ownsRow B 65 2 (.slice (some ⟨h,0,none⟩) (l.map rp).length (l.map rp).length) (l.map rp).length (fl (l.map rp)) := by rw [e1]; exact ho
 have := rinsert_any B h (l.map rp) i (.int .i64 k) (.int .i64 v) vb w ho2 (rcs_one l) rfl rfl hv0 hv1 (by rw [e1]; exact hi) (by rw [e1]; exact hl) hB
 rw [e1,e2] at this
 refine this.mono ?_
 rintro e w' ⟨h',c,h1,h2,h3,h4⟩
 rw [List.length_map] at h1 h2
 exact ⟨h',c,h1,h2,h3,h4⟩
def ChgP (B : Nat) (V : Value) (x : List Tv) (i : Nat) (n : ByteArray) (R : List Rw × Int) (w : World) (e : Ending) (w' : World) : Prop :=
 ∃ u,e = .returned (.int .i64 R.2) ∧ FS B w' V (x.set i (n,u,R.1)) ∧ Below B w w'
theorem grown_below {B : Nat} {a b : World} {row : Option Nat} (h : a.grownBy b row) (hB : B ≤ a.heap.size) (hr : ∀ k,row = some k → B ≤ k) : Below B a b := (Below.refl B a).grown h hB hr
set_option maxHeartbeats 4000000 in
theorem put_any (B g cap : Nat) (x : List Tv) (i : Nat) (t : Tv) (k v : Int) (w : World) (h : FS B w (.slice (some ⟨g,0,none⟩) x.length cap) x) (hi : x[i]? = some t) (ht : tight t) (hu : upR t.2.2) (hl : t.2.2.length ≤ 1000000) (hB : B ≤ w.heap.size) :
  Calls Tryz.prog 81 #[.pointer (some ⟨g,i * 2,none⟩),.int .i64 k,.int .i64 v] w (ChgP B (.slice (some ⟨g,0,none⟩) x.length cap) x i t.1 (putR t.2.2 k v) w) := by
 obtain ⟨c0,c1⟩ := FS.at_ h i t hi
 have hor := h.rows t (List.mem_of_getElem? hi)
 have HF := Lib.hid h
 have HI := Lib.hid hi
 have hgl := (h.own.lt g rfl).2
 have hBg := (h.own.lt g rfl).1
 have hap : ∀ (j : Nat) (p : Tv),j ≠ i → x[j]? = some p → (p.2.1.ownBlock = none ∨ p.2.1.ownBlock ≠ t.2.1.ownBlock) := fun j p hj hp => h.apart j i p t hj hp hi
 obtain ⟨hb,hue⟩ := ht
 obtain ⟨n,u,l⟩ := t
 simp only at hue hor hu hl c0 c1 hap ⊢
 subst hue
 have hbl := hor.lt hb rfl
 have hgh : g ≠ hb := own_ne h.own hor rfl rfl ty_ne
 have HAP := Lib.hid hap
 have HOR := Lib.hid hor
 have HRA := Lib.hid (rowAt_any _ l k w hor.rr hu hl)
 have hlow : lowR l k ≤ l.length := low_le (ltK k) l
 have HGL := Lib.hid hgl
 have HBG := Lib.hid hBg
 have HBL := Lib.hid hbl
 have HGH := Lib.hid hgh
 have HL := Lib.hid hl
 have HB := Lib.hid hB
 have hfr : ∀ W : World,Below w.heap.size w W → W.cell? ⟨g,i * 2 + 1,none⟩ = some (.slice (some ⟨hb,0,none⟩) l.length l.length) ∧ W.frozen? ⟨g,i * 2 + 1,none⟩ = false := fun W hW =>
  ⟨(hW.cell (p := ⟨g,i * 2 + 1,none⟩) hgl).trans c1,World.ownsRow.frozenAt (HF.out.below hW).own _⟩
 have HFR := Lib.hid hfr
 obtain ⟨R,hR⟩ : ∃ R,putR l k v = R := ⟨_,rfl⟩
 rw [hR]
 obtain ⟨F,hF⟩ : ∃ F,hasR l k = F := ⟨_,rfl⟩
 obtain ⟨L,hL⟩ : ∃ L,lowR l k = L := ⟨_,rfl⟩
 have hPR : putR l k v = if F = true then (l.set L (k,v),0) else if 64 ≤ l.length then (l,11) else (l.take L ++ (k,v) :: l.drop L,0) := by unfold putR insR; rw [hF,hL]
 rw [hF,hL] at HRA
 rw [hL] at hlow
 rw [hR] at hPR
 have hHA : F = true → ∃ r,l[L]? = some r ∧ r.1 = k := fun e => by rw [← hL]; exact has_at (hF.trans e)
 have HHA := Lib.hid hHA
 have HLOW := Lib.hid hlow
 clear h hi hgl hBg hap hor hu hl hbl hgh hlow hB hfr hR hF hL hHA c0
 cases F with
 | true =>
  obtain ⟨r,hr,hrk⟩ := HHA.out rfl
  have hlt : L < l.length := (List.getElem?_eq_some_iff.1 hr).1
  have hR2 : R = (l.set L (k,v),0) := by rw [hPR,if_pos rfl]
  subst hR2
  have HR := Lib.hid hr
  have HRK := Lib.hid hrk
  have l0 : (0 : Int) ≤ (L : Int) := by omega
  have l1 : (L : Int) < (l.length : Int) := by omega
  clear hr hrk hlt hPR
  go_enter Tryz.func81,Tryz.ntmps81
  go_wp2_with (go_at_call 103; (refine HRA.out.mono ?_); rintro e w2 ⟨rfl,hb2⟩; have HB2 := Lib.hid hb2; have HO2 : Hid (OR B w2 (.slice (some ⟨hb,0,none⟩) l.length l.length) l) := Lib.hid (own_below HOR.out hb2); obtain ⟨y0,y1,f0,f1⟩ := OR.cells HO2.out L _ HR.out; obtain ⟨c2,f2⟩ := HFR.out w2 hb2; clear hb2)
  go_ret
  obtain ⟨o1,o2⟩ := OR.setV HO2.out L _ v HR.out
  rw [HRK.out] at o1
  refine ⟨.slice (some ⟨hb,0,none⟩) l.length l.length,rfl,?_,(HB2.out.mono HB.out).setCell (p := ⟨hb,L * 2 + 1,none⟩) HBL.out.1 _⟩
  refine FS.modr HF.out i (n,.slice (some ⟨hb,0,none⟩) l.length l.length,l) HI.out (l.set L (k,v)) ?_ ?_
  ·have e : (l.set L (k,v)).length = l.length := List.length_set ..
   exact o1
  ·intro q hq hne
   exact (o2.block q (Nat.lt_of_lt_of_le hq HB2.out.size) hne).trans (HB2.out.block q hq)
 | false =>
  have hR1 : R = if 64 ≤ l.length then (l,11) else (l.take L ++ (k,v) :: l.drop L,0) := by rw [hPR,if_neg (by decide)]
  by_cases h64 : 64 ≤ l.length
  ·have hR2 : R = (l,11) := by rw [hR1,if_pos h64]
   subst hR2
   have l64 : (64 : Int) ≤ (l.length : Int) := by omega
   clear hPR hR1 h64
   go_enter Tryz.func81,Tryz.ntmps81
   go_wp2_with (go_at_call 103; (refine HRA.out.mono ?_); rintro e w2 ⟨rfl,hb2⟩; have HB2 := Lib.hid hb2; obtain ⟨c2,f2⟩ := HFR.out w2 hb2; clear hb2)
   go_ret
   refine ⟨.slice (some ⟨hb,0,none⟩) l.length l.length,rfl,?_,HB2.out.mono HB.out⟩
   rw [set_self x i _ HI.out]
   exact HF.out.below HB2.out
  ·have hR2 : R = (l.take L ++ (k,v) :: l.drop L,0) := by rw [hR1,if_neg h64]
   subst hR2
   have l64 : ¬ ((64 : Int) ≤ (l.length : Int)) := by omega
   clear hPR hR1 h64
   go_enter Tryz.func81,Tryz.ntmps81
   go_wp2_with (first
    | (go_at_call 103; (refine HRA.out.mono ?_); rintro e w2 ⟨rfl,hb2⟩; have HB2 := Lib.hid hb2; have hba := hb2.alloc hb2.size (.cells #[.int .i64 k,.int .i64 v] 65); have HBA := Lib.hid hba; obtain ⟨c2,f2⟩ := HFR.out w2 hb2; obtain ⟨c3,f3⟩ := HFR.out _ hba; have HIN := Lib.hid (rowins_any B hb l L k v w2.heap.size (w2.alloc (.cells #[.int .i64 k,.int .i64 v] 65)) (own_below HOR.out hba) ((Blk.new w2 _ _).cell 0) ((Blk.new w2 _ _).cell 1) HLOW.out HL.out (Nat.le_trans HB.out hba.size)); clear hb2 hba)
    | (go_at_call 104; (refine HIN.out.mono ?_); rintro e w3 ⟨h',c',rfl,ho3,hg3,hh3⟩; have HO3 := Lib.hid ho3; have HG3 := Lib.hid hg3; have HH3 := Lib.hid hh3; have hne3 : (some g : Option Nat) ≠ some hb := (fun e => HGH.out (by injection e)); have c4 := hg3.cell (a := ⟨g,i * 2 + 1,none⟩) c3 hne3; have f4 : w3.frozen? ⟨g,i * 2 + 1,none⟩ = false := (World.frozen?_of_block (hg3.block g (Nat.lt_of_lt_of_le HGL.out HBA.out.size) hne3)).trans f3; clear ho3 hg3 hh3 hne3))
   go_ret
   have hBA : Below w.heap.size w _ := HBA.out
   have hle : min L l.length + (l.length - L + 1) = (l.take L ++ (k,v) :: l.drop L).length := by simp
   rw [hle]
   refine ⟨.slice (some ⟨h',0,none⟩) (l.take L ++ (k,v) :: l.drop L).length c',rfl,?_,?_⟩
   ·refine FS.modk HF.out i _ HI.out _ _ HO3.out (fun q hq hne => (HG3.out.block q (Nat.lt_of_lt_of_le hq hBA.size) hne).trans (hBA.block q hq)) (fun j p hj hp => ?_)
    rcases HH3.out with rfl | hnew
    ·exact HAP.out j p hj hp
    ·cases hpb : p.2.1.ownBlock with
     | none => exact .inl rfl
     | some q =>
      right
      intro e
      have h1 := ((HF.out.rows p (List.mem_of_getElem? hp)).lt q hpb).2
      have h2 : q = h' := by simpa [Value.ownBlock] using e
      have h3 := hBA.size
      omega
   ·exact ((hBA.mono HB.out).grown HG3.out (Nat.le_trans HB.out hBA.size) (fun q hq => by injection hq with hq; rw [← hq]; exact HBL.out.1)).setCell (p := ⟨g,i * 2 + 1,none⟩) HBG.out _
set_option maxHeartbeats 4000000 in
theorem add_any (B g cap : Nat) (x : List Tv) (i : Nat) (t : Tv) (k : Int) (w : World) (h : FS B w (.slice (some ⟨g,0,none⟩) x.length cap) x) (hi : x[i]? = some t) (ht : tight t) (hu : upR t.2.2) (hl : t.2.2.length ≤ 1000000) (hB : B ≤ w.heap.size) (hv : ∀ r ∈ t.2.2,inI r.2) :
  Calls Tryz.prog 82 #[.pointer (some ⟨g,i * 2,none⟩),.int .i64 k] w (ChgP B (.slice (some ⟨g,0,none⟩) x.length cap) x i t.1 (addR t.2.2 k) w) := by
 obtain ⟨c0,c1⟩ := FS.at_ h i t hi
 have hor := h.rows t (List.mem_of_getElem? hi)
 have HF := Lib.hid h
 have HI := Lib.hid hi
 have hgl := (h.own.lt g rfl).2
 obtain ⟨hb,hue⟩ := ht
 obtain ⟨n,u,l⟩ := t
 simp only at hue hor hu hl c0 c1 hv ⊢
 subst hue
 have hbl := hor.lt hb rfl
 have HOR := Lib.hid hor
 have HRA := Lib.hid (rowAt_any _ l k w hor.rr hu hl)
 have HBL := Lib.hid hbl
 have HL := Lib.hid hl
 have HB := Lib.hid hB
 have HV := Lib.hid hv
 have hfr : ∀ W : World,Below w.heap.size w W → W.cell? ⟨g,i * 2 + 1,none⟩ = some (.slice (some ⟨hb,0,none⟩) l.length l.length) := fun W hW => (hW.cell (p := ⟨g,i * 2 + 1,none⟩) hgl).trans c1
 have HFR := Lib.hid hfr
 obtain ⟨R,hR⟩ : ∃ R,addR l k = R := ⟨_,rfl⟩
 rw [hR]
 obtain ⟨F,hF⟩ : ∃ F,hasR l k = F := ⟨_,rfl⟩
 obtain ⟨L,hL⟩ : ∃ L,lowR l k = L := ⟨_,rfl⟩
 have hAR : (F = false ∧ R = (l,0)) ∨ ∃ r,F = true ∧ l[L]? = some r ∧ r.1 = k ∧ R = if 999999 ≤ r.2 then (l,2) else (l.set L (k,r.2 + 1),0) := by
  rw [← hR,← hF,← hL]
  cases hh : hasR l k with
  | false =>
   refine .inl ⟨rfl,?_⟩
   unfold addR
   split
   ·rename_i r hr
    have : r.1 ≠ k := fun e => by
     unfold hasR at hh
     rw [hr] at hh
     simp [e] at hh
    rw [if_neg this]
   ·rfl
  | true =>
   obtain ⟨r,hr,hk⟩ := has_at hh
   refine .inr ⟨r,rfl,hr,hk,?_⟩
   unfold addR
   rw [hr]
   simp only
   rw [if_pos hk]
 rw [hF,hL] at HRA
 clear h hi hgl hor hu hl hbl hB hfr hR hF hL c0 hv
 rcases hAR with ⟨rfl,rfl⟩ | ⟨r,rfl,hr,hrk,hR⟩
 ·go_enter Tryz.func82,Tryz.ntmps82
  go_wp2_with (go_at_call 103; (refine HRA.out.mono ?_); rintro e w2 ⟨rfl,hb2⟩; have HB2 := Lib.hid hb2; clear hb2)
  go_ret
  refine ⟨.slice (some ⟨hb,0,none⟩) l.length l.length,rfl,?_,HB2.out.mono HB.out⟩
  rw [set_self x i _ HI.out]
  exact HF.out.below HB2.out
 ·have hlt : L < l.length := (List.getElem?_eq_some_iff.1 hr).1
  have HR := Lib.hid hr
  have HRK := Lib.hid hrk
  have hrv := HV.out r (List.mem_of_getElem? hr)
  obtain ⟨r0,r1⟩ := r
  simp only at hR hrv
  have l0 : (0 : Int) ≤ (L : Int) := by omega
  have l1 : (L : Int) < (l.length : Int) := by omega
  clear hr hrk hlt
  by_cases h9 : 999999 ≤ r1
  ·rw [if_pos h9] at hR
   subst hR
   clear hrv
   go_enter Tryz.func82,Tryz.ntmps82
   go_wp2_with (go_at_call 103; (refine HRA.out.mono ?_); rintro e w2 ⟨rfl,hb2⟩; have HB2 := Lib.hid hb2; have HO2 : Hid (OR B w2 (.slice (some ⟨hb,0,none⟩) l.length l.length) l) := Lib.hid (own_below HOR.out hb2); obtain ⟨y0,y1,f0,f1⟩ := OR.cells HO2.out L _ HR.out; have c2 := HFR.out w2 hb2; clear hb2)
   go_ret
   refine ⟨.slice (some ⟨hb,0,none⟩) l.length l.length,rfl,?_,HB2.out.mono HB.out⟩
   rw [set_self x i _ HI.out]
   exact HF.out.below HB2.out
  ·rw [if_neg h9] at hR
   subst hR
   have wk : IntKind.i64.wrap (r1 + 1) = r1 + 1 := IntWalk.i64_in _ (by unfold inI at hrv; omega)
   clear hrv
   go_enter Tryz.func82,Tryz.ntmps82
   go_wp2_with (go_at_call 103; (refine HRA.out.mono ?_); rintro e w2 ⟨rfl,hb2⟩; have HB2 := Lib.hid hb2; have HO2 : Hid (OR B w2 (.slice (some ⟨hb,0,none⟩) l.length l.length) l) := Lib.hid (own_below HOR.out hb2); obtain ⟨y0,y1,f0,f1⟩ := OR.cells HO2.out L _ HR.out; have c2 := HFR.out w2 hb2; clear hb2)
   go_ret
   obtain ⟨o1,o2⟩ := OR.setV HO2.out L _ (r1 + 1) HR.out
   rw [HRK.out] at o1
   refine ⟨.slice (some ⟨hb,0,none⟩) l.length l.length,rfl,?_,(HB2.out.mono HB.out).setCell (p := ⟨hb,L * 2 + 1,none⟩) HBL.out.1 _⟩
   refine FS.modr HF.out i (n,.slice (some ⟨hb,0,none⟩) l.length l.length,l) HI.out (l.set L (k,r1 + 1)) o1 ?_
   intro q hq hne
   exact (o2.block q (Nat.lt_of_lt_of_le hq HB2.out.size) hne).trans (HB2.out.block q hq)

def insT (x : List Tv) (i : Nat) (n : ByteArray) : List Tv := x.take i ++ (n,.slice none 0 0,[]) :: x.drop i
theorem tbs_ins (x : List Tv) (i : Nat) (n : ByteArray) : tbs (insT x i n) = (tbs x).take i ++ (n,[]) :: (tbs x).drop i := by
 unfold tbs insT
 rw [List.map_append,List.map_cons,List.map_take,List.map_drop]
theorem FS.ins {w w1 : World} {B g : Nat} {V V' : Value} {x : List Tv} (h : FS B w V x) (hV : V.ownBlock = some g) (i : Nat) (hi : i ≤ x.length) (n : ByteArray) (hg : w.grownBy w1 (some g))
  (ho : w1.ownsRow B 63 2 V' (insT x i n).length (tcs (insT x i n))) : FS B w1 V' (insT x i n) := by
 have old : ∀ b ∈ x,OR B w1 b.2.1 b.2.2 := fun b hb => own_keep (h.rows b hb) fun k hk => hg.block k ((h.rows b hb).lt k hk).2 (fun e => own_ne h.own (h.rows b hb) hV hk ty_ne (by injection e with e; exact e.symm))
 refine ⟨ho,fun b hb => ?_,fun a b p q hab ha hb => ?_⟩
 ·unfold insT at hb
  rcases List.mem_append.1 hb with hb | hb
  ·exact old b (List.mem_of_mem_take hb)
  ·rcases List.mem_cons.1 hb with rfl | hb
   ·exact World.ownsRow_nil _ _ _ _
   ·exact old b (List.mem_of_mem_drop hb)
 ·unfold insT at ha hb
  rw [ins_at x i _ hi] at ha hb
  have hnew : ∀ p : Tv,aprt p (n,.slice none 0 0,[]) := fun p => by
   unfold aprt
   cases hp : p.2.1.ownBlock with
   | none => exact .inl rfl
   | some k => exact .inr (fun e => by cases e)
  have hnew2 : ∀ p : Tv,aprt (n,.slice none 0 0,[]) p := fun p => .inl rfl
  split at ha
  ·split at hb
   ·exact h.apart a b p q hab ha hb
   ·split at hb
    ·injection hb with hb; subst hb; exact hnew p
    ·exact h.apart a (b - 1) p q (by omega) ha hb
  ·split at ha
   ·injection ha with ha; subst ha; exact hnew2 q
   ·split at hb
    ·exact h.apart (a - 1) b p q (by omega) ha hb
    ·split at hb
     ·injection hb with hb; subst hb; exact hnew p
     ·exact h.apart (a - 1) (b - 1) p q (by omega) ha hb
theorem tcs_one {B : Nat} {w : World} {V : Value} {x : List Tv} (h : FS B w V x) : ∀ v ∈ tcs x,v.oneCell' = true := fl_all _ _ fun p hp => by
 obtain ⟨t,ht,rfl⟩ := List.mem_map.1 hp
 obtain ⟨a,c,e⟩ := own_sh2 (h.rows t ht)
 exact ⟨rfl,by show t.2.1.oneCell' = true; rw [e]; rfl⟩
theorem tabins_any (B g : Nat) (x : List Tv) (i : Nat) (n : ByteArray) (vb : Nat) (w : World) (h : FS B w (.slice (some ⟨g,0,none⟩) x.length x.length) x) (hv0 : w.cell? ⟨vb,0,none⟩ = some (.string n)) (hv1 : w.cell? ⟨vb,1,none⟩ = some (.slice none 0 0)) (hi : i ≤ x.length) (hl : x.length ≤ 1000000) (hB : B ≤ w.heap.size) :
  Calls Tryz.prog 72 #[.slice (some ⟨g,0,none⟩) x.length x.length,.int .i64 (i : Int),.slice (some ⟨vb,0,none⟩) 1 1] w fun e w' =>
   ∃ h' c,e = .returned (.slice (some ⟨h',0,none⟩) (insT x i n).length c) ∧ FS B w' (.slice (some ⟨h',0,none⟩) (insT x i n).length c) (insT x i n) ∧ Below B w w' := by
 obtain ⟨tp,htp⟩ : ∃ tp : Tv → Value × Value,tp = fun t => (.string t.1,t.2.1) := ⟨_,rfl⟩
 have e0 : tcs x = fl (x.map tp) := by unfold tcs; rw [htp]
 have e1 : (x.map tp).length = x.length := List.length_map ..
 have e2 : (x.map tp).take i ++ (.string n,.slice none 0 0) :: (x.map tp).drop i = (insT x i n).map tp := by
  unfold insT
  rw [List.map_append,List.map_cons,List.map_take,List.map_drop,htp]
 have ho2 : w.ownsRow B 63 2 (.slice (some ⟨g,0,none⟩) (x.map tp).length (x.map tp).length) (x.map tp).length (fl (x.map tp)) := by rw [e1,← e0]; exact h.own
 have := tinsert_any B g (x.map tp) i (.string n) (.slice none 0 0) vb w ho2 (by rw [← e0]; exact tcs_one h) rfl rfl hv0 hv1 (by rw [e1]; exact hi) (by rw [e1]; exact hl) hB
 rw [e1,e2] at this
 refine this.mono ?_
 rintro e w' ⟨h',c,h1,h2,h3,h4⟩
 rw [List.length_map] at h1 h2
 have e3 : fl ((insT x i n).map tp) = tcs (insT x i n) := by unfold tcs; rw [htp]
 rw [e3] at h2
 exact ⟨h',c,h1,FS.ins h rfl i hi n h3 h2,grown_below h3 hB (fun k hk => by injection hk with hk; rw [← hk]; exact (h.own.lt g rfl).1)⟩
def WithP (B g : Nat) (x : List Tv) (n : ByteArray) (w : World) (e : Ending) (w' : World) : Prop :=
 ∃ V y k,e = .returned (.tuple #[V,.int .i64 k]) ∧ FS B w' V y ∧ Below B w w' ∧ (tbs y,k) = (if 16 ≤ x.length then (tbs x,(11 : Int)) else (madeS (tbs x) n,0))
set_option maxHeartbeats 4000000 in
theorem stWith_any (B g : Nat) (x : List Tv) (n : ByteArray) (w : World) (h : FS B w (.slice (some ⟨g,0,none⟩) x.length x.length) x) (hu : upN (tbs x)) (hl : x.length ≤ 1000000) (hn : n.size ≤ 1000000) (hB : B ≤ w.heap.size) :
  Calls Tryz.prog 78 #[.slice (some ⟨g,0,none⟩) x.length x.length,.string n] w (WithP B g x n w) := by
 have HF := Lib.hid h
 have HB := Lib.hid hB
 have HL := Lib.hid hl
 by_cases h16 : 16 ≤ x.length
 ·have l16 : (16 : Int) ≤ (x.length : Int) := by omega
  have hP : ∀ w',w' = w → WithP B g x n w (.returned (.tuple #[.slice (some ⟨g,0,none⟩) x.length x.length,.int .i64 11])) w' := by
   rintro w' rfl
   exact ⟨_,x,11,rfl,h,Below.refl _ _,by rw [if_pos h16]⟩
  have HP := Lib.hid hP
  clear h hu hl hn hB h16 hP
  go_enter Tryz.func78,Tryz.ntmps78
  go_wp2
  go_ret2
  exact HP.out _ rfl
 ·have l16 : ¬ ((16 : Int) ≤ (x.length : Int)) := by omega
  obtain ⟨L,hL⟩ : ∃ L,lowT (tbs x) n = L := ⟨_,rfl⟩
  have hlow : L ≤ x.length := by rw [← hL,← tbs_len]; exact low_le (ltN n) _
  have hsr := h.sr
  have HS := tsearch_any _ (tbs x) n w hsr (upN_mono hu n) (by rw [tbs_len]; exact hl)
  rw [hL] at HS
  have HSE := Lib.hid HS
  have HCL := Lib.hid (fun W => clone_any n W (Nat.le_trans hn (by decide)))
  have HLOW := Lib.hid hlow
  have hfin : ∀ V y (w' : World),FS B w' V y → y = insT x L n → Below B w w' → WithP B g x n w (.returned (.tuple #[V,.int .i64 0])) w' := by
   rintro V y w' h1 rfl h2
   refine ⟨V,_,0,rfl,h1,h2,?_⟩
   rw [if_neg h16,tbs_ins]
   unfold madeS
   rw [hL]
  have HFIN := Lib.hid hfin
  clear h hu hl hn hB h16 hL hlow hsr HS hfin
  go_enter Tryz.func78,Tryz.ntmps78
  go_wp2_with (first
   | (go_at_call 69; (refine HSE.out.mono ?_); rintro e w2 ⟨rfl,hb2⟩; have HB2 := Lib.hid hb2; clear hb2)
   | (go_at_call 54; (refine (HCL.out _).mono ?_); rintro e w3 ⟨rfl,hb3⟩; have hb4 := HB2.out.trans (hb3.mono HB2.out.size); have hba := hb4.alloc hb4.size (.cells #[.string n,.slice none 0 0] 63); have HBA := Lib.hid hba; have HIN := Lib.hid (tabins_any B g x L n w3.heap.size (w3.alloc (.cells #[.string n,.slice none 0 0] 63)) (HF.out.below hba) ((Blk.new w3 _ _).cell 0) ((Blk.new w3 _ _).cell 1) HLOW.out HL.out (Nat.le_trans HB.out hba.size)); clear hb3 hb4 hba)
   | (go_at_call 72; (refine HIN.out.mono ?_); rintro e w4 ⟨h',c',rfl,ho4,hb4⟩; have HO4 := Lib.hid ho4; have HB4 := Lib.hid hb4; clear ho4 hb4))
  go_ret2
  exact HFIN.out _ _ _ HO4.out rfl ((HBA.out.mono HB.out).trans HB4.out)

theorem CK.grown {w w' : World} {x : Nat} {kb : Bool} {K : Int} {row : Option Nat} (h : CK w x kb K) (hg : w.grownBy w' row) (hx : some x ≠ row) : CK w' x kb K :=
 ⟨hg.cell (a := ⟨x,4,none⟩) h.1 hx,hg.cell (a := ⟨x,2,none⟩) h.2 hx⟩
set_option maxHeartbeats 4000000 in
theorem delete_any (B g cap : Nat) (l : List Rw) (x : Nat) (kb : Bool) (K : Int) (w : World) (h : OR B w (.slice (some ⟨g,0,none⟩) l.length cap) l) (hc : CK w x kb K) (hxg : x ≠ g) (hcap : l.length ≤ cap) (hs : l.length ≤ 1000000) :
  Calls Tryz.prog 83 #[.slice (some ⟨g,0,none⟩) l.length cap,.func (.func 79) #[] #[.pointer (some ⟨x,0,none⟩)]] w (DelP B g cap kb K l w) := by
 obtain ⟨i30,hi30,hz30,hs30,hb30⟩ := iRow
 have und30 := undRow
 have HH := Lib.hid h
 have HC := Lib.hid hc
 have HS := Lib.hid hs
 have HXG := Lib.hid hxg
 have HI := Lib.hid (ridx_any _ l x kb K w h.rr hc hs)
 have hgl := (h.lt g rfl).2
 have HGL := Lib.hid hgl
 have henter : ∀ args w,(callFunc 79 args).run Tryz.prog w = .ok (.enter 79 args) w := fun args w => by show Sem.run Tryz.prog (callFunc 79 args) w = _; go_simp
 rcases idx_some kb K l 0 with ⟨h1,h2⟩ | ⟨i0,r,h1,h2,h3,h4⟩
 ·rw [h1] at HI
  unfold DelP
  rw [del_none h2]
  clear h hc hs hxg h1 h2 hgl
  go_enter Tryz.func83,Tryz.ntmps83
  go_wp2_with (go_at_call 105; (refine HI.out.mono ?_); rintro e w2 ⟨rfl,hb2⟩; have HB2 := Lib.hid hb2; clear hb2)
  go_ret
  exact ⟨rfl,own_below HH.out HB2.out,grown_bel HB2.out⟩
 ·rw [h1,Nat.zero_add] at HI
  have hil := (List.getElem?_eq_some_iff.1 h2).1
  have HD := Lib.hid (DelI.start h2 h3 h4)
  have l0 : ¬ ((i0 : Int) = -1) := by omega
  obtain ⟨j0,hj0⟩ : ∃ j0,i0 + 1 = j0 := ⟨_,rfl⟩
  have wk0 : IntKind.i64.wrap ((i0 : Int) + 1) = (j0 : Int) := by rw [show (i0 : Int) + 1 = (j0 : Int) by omega]; exact IntWalk.i64_in _ (by omega)
  rw [hj0] at HD
  have HJ0 := Lib.hid hj0
  have hjl : j0 ≤ l.length := by omega
  have HJL := Lib.hid hjl
  unfold DelP
  obtain ⟨D,hD⟩ : ∃ D,delR kb K l = D := ⟨_,rfl⟩
  have HDD := Lib.hid hD
  rw [hD]
  clear hD h hc hs hxg h1 h2 h3 h4 hgl hj0 hil hjl
  go_enter Tryz.func83,Tryz.ntmps83
  go_wp2_with (go_at_call 105; (refine HI.out.mono ?_); rintro e w2 ⟨rfl,hb2⟩; have HB2 := Lib.hid hb2; clear hb2)
  go_loopg [5,6] (l.length - j0) (fun gk u5 u6 wx => ∃ (i j : Nat) (m : List Rw),u5 = .int .i64 (i : Int) ∧ u6 = .int .i64 (j : Int) ∧ j + gk = l.length ∧ Hid (DelI kb K l m i j) ∧ Hid (OR B wx (.slice (some ⟨g,0,none⟩) m.length cap) m) ∧ Hid (w.grownBy wx (some g)))
  case atStart => exact ⟨i0,j0,l,rfl,rfl,by have := HJL.out; omega,HD.out,own_below HH.out HB2.out,grown_bel HB2.out⟩
  case round =>
   obtain ⟨i,j,m,rfl,rfl,hj,HD,HO,HG⟩ := hrel
   have HJ := Lib.hid hj
   have hij := HD.out.lt
   cases gk with
   | zero =>
    have l1 : ¬ ((j : Int) < (l.length : Int)) := by omega
    have hml : m.length = l.length := HD.out.len
    have hi2 : i < l.length := by have := HD.out.lt; omega
    have hjj : j = l.length := by omega
    have hdn := HD.out.done
    rw [hjj,List.take_of_length_le (Nat.le_refl _),HDD.out] at hdn
    have hlen : D.length = i := by rw [← hdn,List.length_take,hml]; omega
    have HDN := Lib.hid hdn
    have HLEN := Lib.hid hlen
    have hO := HO.out
    rw [hml] at hO
    have HO2 : Hid (wr.ownsRow B 65 2 (.slice (some ⟨g,0,none⟩) l.length cap) l.length (rcs m)) := by
     have h5 := HO.out
     unfold OR at h5
     rw [hml] at h5
     exact h5
    have HML := Lib.hid hml
    have l2 : (i : Int) ≤ (l.length : Int) := by omega
    have l3 : (0 : Int) ≤ (i : Int) := by omega
    have l4 : (i : Int) ≤ (cap : Int) := by omega
    have l5 : ¬ (cap = i) := by omega
    have l6 : ¬ (i = cap) := by omega
    have l7 : i ≤ cap := by omega
    have l8 : i ≤ l.length := by omega
    have HI2 := Lib.hid hi2
    clear hj hij hml hjj hdn hlen hO hi2
    go_wp2_with (refine wpList_clear2 rfl (.tmp 38) 39 rfl i30 (.int .i64 0) (.int .i64 0) und30 hi30 hz30 rfl rfl i _ rfl HO2.out HI2.out ?_; intro w3 ho3 hg3)
    go_ret
    have hcut := own_cut ho3 i l8
    rw [splice_take _ _ _ _ (Nat.le_refl _) (by rw [rcs_len,HML.out]; omega),← rcs_take,HDN.out] at hcut
    refine ⟨by rw [HLEN.out]; rfl,?_,grown_trans HG.out hg3⟩
    unfold OR
    rw [HLEN.out]
    exact hcut
   | succ gk =>
    have hjl : j < l.length := by omega
    have hmj := HD.out.at_ hjl
    obtain ⟨x0,x1,_,_⟩ := HO.out.cells j _ hmj
    have him : i < m.length := by rw [HD.out.len]; omega
    obtain ⟨y,hy⟩ : ∃ y,m[i]? = some y := ⟨_,List.getElem?_eq_getElem him⟩
    obtain ⟨y0,y1,f0,f1⟩ := HO.out.cells i _ hy
    have HY := Lib.hid hy
    obtain ⟨r,hr⟩ : ∃ r,l[j] = r := ⟨_,rfl⟩
    have hskip := HD.out.skip hjl
    have hkeep := HD.out.keep hjl
    rw [hr] at x0 x1 hskip hkeep
    obtain ⟨r0,r1⟩ := r
    have l1 : (j : Int) < (l.length : Int) := by omega
    have l2 : (0 : Int) ≤ (j : Int) := by omega
    have l3 : (0 : Int) ≤ (i : Int) := by omega
    have l4 : (i : Int) < (l.length : Int) := by omega
    obtain ⟨j1,hj1⟩ : ∃ j1,j + 1 = j1 := ⟨_,rfl⟩
    obtain ⟨i1,hi1⟩ : ∃ i1,i + 1 = i1 := ⟨_,rfl⟩
    have wk : IntKind.i64.wrap ((j : Int) + 1) = (j1 : Int) := by rw [show (j : Int) + 1 = (j1 : Int) by omega]; exact IntWalk.i64_in _ (by have := HS.out; omega)
    have wk2 : IntKind.i64.wrap ((i : Int) + 1) = (i1 : Int) := by rw [show (i : Int) + 1 = (i1 : Int) by omega]; exact IntWalk.i64_in _ (by have := HS.out; omega)
    rw [hj1] at hskip hkeep
    rw [hi1] at hkeep
    have HJ1 := Lib.hid hj1
    have HSK := Lib.hid hskip
    have HKP := Lib.hid hkeep
    have hba := (Below.refl wr.heap.size wr).alloc (Nat.le_refl _) (.cells #[.int .i64 r0,.int .i64 r1] 65)
    have HBA := Lib.hid hba
    have HM := Lib.hid (meant_any r0 r1 x kb K _ ((HC.out.grown HG.out (fun e => HXG.out (by injection e))).below hba (Nat.lt_of_lt_of_le HC.out.lt HG.out.size)))
    obtain ⟨Q,hQ⟩ : ∃ Q,meantB kb K (r0,r1) = Q := ⟨_,rfl⟩
    rw [hQ] at HM HSK HKP
    have hblk : Blk (wr.alloc (.cells #[.int .i64 r0,.int .i64 r1] 65)) wr.heap.size 65 #[.int .i64 r0,.int .i64 r1] := Blk.new _ _ _
    have HK := Lib.hid hblk
    clear hy hj hij hjl hmj him hr hskip hkeep hj1 hi1 hba hQ hblk
    cases Q with
    | true =>
     go_wp2_with (go_at_call 79; (refine HM.out.mono ?_); rintro e w2 ⟨rfl,hb2⟩; have HB3 := Lib.hid (HBA.out.trans (hb2.mono HBA.out.size)); clear hb2)
     go_roundg gk
     case measure => exact Nat.lt_succ_self _
     case rel => exact ⟨i,j1,m,rfl,rfl,by have := HJ1.out; have := HJ.out; omega,HSK.out trivial,own_below HO.out HB3.out,grown_trans HG.out (grown_bel HB3.out)⟩
    | false =>
     go_wp2_with (go_at_call 79; (refine HM.out.mono ?_); rintro e w2 ⟨rfl,hb2⟩; have HB3 := Lib.hid (HBA.out.trans (hb2.mono HBA.out.size)); have hk2 := HK.out.below hb2 HK.out.lt; have z0 : w2.cell? ⟨wr.heap.size,0,none⟩ = some (.int .i64 r0) := hk2.cell 0; have z1 : w2.cell? ⟨wr.heap.size,1,none⟩ = some (.int .i64 r1) := hk2.cell 1; have ho2 := own_below HO.out HB3.out; have HO2 := Lib.hid ho2; obtain ⟨v0,v1,f2,f3⟩ := OR.cells ho2 i _ HY.out; clear hb2 hk2 ho2)
     go_roundg gk
     case measure => exact Nat.lt_succ_self _
     case rel =>
      have hset := OR.set HO2.out i _ (r0,r1) HY.out
      have hms : (m.set i (r0,r1)).length = m.length := List.length_set ..
      exact ⟨i1,j1,m.set i (r0,r1),rfl,rfl,by have := HJ1.out; have := HJ.out; omega,HKP.out trivial,by rw [hms]; exact hset.1,grown_trans (grown_trans HG.out (grown_bel HB3.out)) hset.2⟩

theorem find1_any (n name : ByteArray) (u : Value) (x : Nat) (w : World) (h : w.cell? ⟨x,0,none⟩ = some (.string name)) :
  Calls Tryz.prog 85 #[.agg #[.string n,u],.pointer (some ⟨x,0,none⟩)] w fun e w' => e = .returned (.bool (n.toList == name.toList)) ∧ Below w.heap.size w w' := by
 have hl : x < w.heap.size := World.block_lt_of_cell? w _ h
 have c1 : ∀ o,(w.alloc o).cell? ⟨x,0,none⟩ = some (.string name) := fun o => (World.cell?_of_block (a := ⟨x,0,none⟩) (Below.heap_alloc w o x hl)).trans h
 have HB := Lib.hid (fun o => (Below.refl w.heap.size w).alloc (Nat.le_refl _) o)
 go_enter Tryz.func85,Tryz.ntmps85
 go_wp2
 go_ret
 exact ⟨rfl,HB.out _⟩
set_option maxHeartbeats 2000000 in
theorem idxf_any (v : Value) (s : List Tb) (name : ByteArray) (x : Nat) (w : World) (h : SR w v s) (hc : w.cell? ⟨x,0,none⟩ = some (.string name)) (hs : s.length ≤ 1000000) :
  Calls Tryz.prog 84 #[v,.func (.func 85) #[] #[.pointer (some ⟨x,0,none⟩)]] w fun e w' => e = .returned (.int .i64 (findN s name 0)) ∧ Below w.heap.size w w' := by
 obtain ⟨R,hR⟩ : ∃ R,findN s name 0 = R := ⟨_,rfl⟩
 rw [hR]
 obtain ⟨a,cap,rfl⟩ := h.form
 have HH := Lib.hid h
 have HR := Lib.hid hR
 have HC := Lib.hid hc
 have HS := Lib.hid hs
 have hxl : x < w.heap.size := World.block_lt_of_cell? w _ hc
 have henter : ∀ args w,(callFunc 85 args).run Tryz.prog w = .ok (.enter 85 args) w := fun args w => by show Sem.run Tryz.prog (callFunc 85 args) w = _; go_simp
 clear h hR hc hs
 go_enter Tryz.func84,Tryz.ntmps84
 go_wp2
 go_loopg [8] s.length (fun gk u8 wx => ∃ i : Nat,u8 = .int .i64 (i : Int) ∧ i + gk = s.length ∧ Below w.heap.size w wx ∧ findN (s.drop i) name i = R)
 case atStart => exact ⟨0,rfl,by omega,Below.refl _ _,HR.out⟩
 case round =>
  obtain ⟨i,rfl,hi,hB,hr⟩ := hrel
  have HB := Lib.hid hB
  have HI := Lib.hid hi
  cases gk with
  | zero =>
   have l1 : ¬ ((i : Int) < (s.length : Int)) := by omega
   have hR : R = -1 := by rw [← hr,List.drop_of_length_le (by omega)]; rfl
   subst hR
   clear hB hi hr
   go_wp2
   go_ret
   exact ⟨rfl,HB.out⟩
  | succ gk =>
   have hlt : i < s.length := by omega
   have hRR := HH.out.below hB
   obtain ⟨b,o,cp,he,hcp,hx⟩ := hRR.inv (by omega)
   injection he with ea _ ec
   subst ea ec
   obtain ⟨t,ht0⟩ : ∃ t,s[i] = t := ⟨_,rfl⟩
   obtain ⟨x0,u,x1,hu⟩ := hx i t (by rw [List.getElem?_eq_getElem hlt,ht0])
   have l0 : (0 : Int) ≤ (i : Int) := by omega
   have l1 : (i : Int) < (s.length : Int) := by omega
   obtain ⟨i1,hi1⟩ : ∃ i1,i + 1 = i1 := ⟨_,rfl⟩
   have wk : IntKind.i64.wrap ((i : Int) + 1) = (i1 : Int) := by rw [show (i : Int) + 1 = (i1 : Int) by omega]; exact IntWalk.i64_in _ (by have := HS.out; omega)
   have HI1 := Lib.hid hi1
   rw [List.drop_eq_getElem_cons hlt,ht0,findN,hi1] at hr
   obtain ⟨n,rs⟩ := t
   have HF := Lib.hid (find1_any n name u x wr ((hB.cell (p := ⟨x,0,none⟩) hxl).trans HC.out))
   obtain ⟨Q,hQ⟩ : ∃ Q,(n.toList == name.toList) = Q := ⟨_,rfl⟩
   rw [hQ] at HF
   simp only [hQ] at hr
   have HR2 := Lib.hid hr
   clear hB hi hr hRR hx ht0 hi1 hQ hlt hu
   cases Q with
   | true =>
    have hR : R = (i : Int) := by have := HR2.out; simpa using this.symm
    subst hR
    go_wp2_with (go_at_call 85; (refine HF.out.mono ?_); rintro e w2 ⟨rfl,hb2⟩; have HB2 := Lib.hid hb2; clear hb2)
    go_ret
    exact ⟨rfl,HB.out.trans (HB2.out.mono HB.out.size)⟩
   | false =>
    go_wp2_with (go_at_call 85; (refine HF.out.mono ?_); rintro e w2 ⟨rfl,hb2⟩; have HB2 := Lib.hid hb2; clear hb2)
    go_roundg gk
    case measure => exact Nat.lt_succ_self _
    case rel => exact ⟨i1,rfl,by have := HI1.out; have := HI.out; omega,HB.out.trans (HB2.out.mono HB.out.size),by have := HR2.out; simpa using this⟩
theorem find_any (v : Value) (s : List Tb) (name : ByteArray) (w : World) (h : SR w v s) (hs : s.length ≤ 1000000) :
  Calls Tryz.prog 59 #[v,.string name] w fun e w' => e = .returned (.int .i64 (findN s name 0)) ∧ Below w.heap.size w w' := by
 have hb := (Below.refl w.heap.size w).alloc (Nat.le_refl _) (.cells #[.string name] 9)
 have HB := Lib.hid hb
 have HI := Lib.hid (idxf_any v s name w.heap.size _ (h.below hb) (by rw [World.cell?_alloc_new]; rfl) hs)
 clear h hs hb
 go_enter Tryz.func59,Tryz.ntmps59
 go_wp2_with (go_at_call 84; (refine HI.out.mono ?_); rintro e w2 ⟨rfl,hb2⟩; have HB2 := Lib.hid (HB.out.trans (hb2.mono HB.out.size)); clear hb2)
 go_ret
 exact ⟨rfl,HB2.out⟩

structure DoOk (s : List Tb) : Prop where
 few : FewS s
 up : upN s
 each : ∀ t ∈ s,upR t.2 ∧ ∀ r ∈ t.2,inI r.2
def DoP (s : List Tb) (kd : Int) (n : ByteArray) (K V : Int) (kb : Bool) (w : World) (e : Ending) (w' : World) : Prop :=
 ∃ vs x vr k,e = .returned (.tuple #[vs,vr,.int .i64 k]) ∧ FS w.heap.size w' vs x ∧ OR w.heap.size w' vr (doS s kd n K V kb).2.1 ∧ Below w.heap.size w w' ∧ tbs x = (doS s kd n K V kb).1 ∧ k = (doS s kd n K V kb).2.2
abbrev cmC (kd : Int) (n : ByteArray) (K V : Int) (kb : Bool) : Array Value := #[.int .i64 kd,.string n,.int .i64 K,.int .i64 V,.bool kb]
structure DoI (s : List Tb) (kd : Int) (n : ByteArray) (K V : Int) (kb : Bool) (w w2 : World) (g : Nat) (x : List Tv) : Prop where
 fs : FS w.heap.size w2 (.slice (some ⟨g,0,none⟩) x.length x.length) x
 tb : tbs x = s
 tg : ∀ t ∈ x,tight t
 cmd : Blk w2 w.heap.size 34 (cmC kd n K V kb)
 bel : Below w.heap.size w w2
 lt : w.heap.size < g
theorem DoI.step {s : List Tb} {kd : Int} {n : ByteArray} {K V : Int} {kb : Bool} {w w2 w3 : World} {g : Nat} {x : List Tv} (h : DoI s kd n K V kb w w2 g x) (hb : Below w2.heap.size w2 w3) : DoI s kd n K V kb w w3 g x :=
 ⟨h.fs.below hb,h.tb,h.tg,h.cmd.below hb h.cmd.lt,h.bel.trans (hb.mono h.bel.size),h.lt⟩
theorem DoI.len {s : List Tb} {kd : Int} {n : ByteArray} {K V : Int} {kb : Bool} {w w2 : World} {g : Nat} {x : List Tv} (h : DoI s kd n K V kb w w2 g x) : x.length = s.length := by rw [← h.tb,tbs_len]
theorem DoI.cells {s : List Tb} {kd : Int} {n : ByteArray} {K V : Int} {kb : Bool} {w w2 : World} {g : Nat} {x : List Tv} (h : DoI s kd n K V kb w w2 g x) :
  w2.cell? ⟨w.heap.size,0,none⟩ = some (.int .i64 kd) ∧ w2.cell? ⟨w.heap.size,1,none⟩ = some (.string n) ∧ w2.cell? ⟨w.heap.size,2,none⟩ = some (.int .i64 K) ∧ w2.cell? ⟨w.heap.size,3,none⟩ = some (.int .i64 V) ∧ w2.cell? ⟨w.heap.size,4,none⟩ = some (.bool kb) :=
 ⟨h.cmd.cell 0,h.cmd.cell 1,h.cmd.cell 2,h.cmd.cell 3,h.cmd.cell 4⟩
theorem DoI.at_ {s : List Tb} {kd : Int} {n : ByteArray} {K V : Int} {kb : Bool} {w w2 : World} {g : Nat} {x : List Tv} (h : DoI s kd n K V kb w w2 g x) {i : Nat} {t : Tb} (hi : s[i]? = some t) : ∃ hb,x[i]? = some (t.1,.slice (some ⟨hb,0,none⟩) t.2.length t.2.length,t.2) := by
 rw [← h.tb] at hi
 obtain ⟨u,hu⟩ := tbs_inv x i t hi
 obtain ⟨hb,e⟩ := h.tg _ (List.mem_of_getElem? hu)
 exact ⟨hb,by rw [hu]; simp only at e; rw [e]⟩
theorem do_copy {s : List Tb} {v : Value} {kd : Int} {n : ByteArray} {K V : Int} {kb : Bool} {w : World} (h : SR w v s) (hf : FewS s) :
  Calls Tryz.prog 31 #[v] (w.alloc (.cells (cmC kd n K V kb) 34)) fun e w2 => ∃ g x,e = .returned (.slice (some ⟨g,0,none⟩) s.length s.length) ∧ DoI s kd n K V kb w w2 g x := by
 have hb := (Below.refl w.heap.size w).alloc (Nat.le_refl _) (.cells (cmC kd n K V kb) 34)
 refine (copy_any v s _ (h.below hb) hf).mono ?_
 rintro e w2 ⟨g,x,h1,h2,h3,h4,h5,h6⟩
 have hsz : (w.alloc (.cells (cmC kd n K V kb) 34)).heap.size = w.heap.size + 1 := by simp
 have hlen : x.length = s.length := by rw [← h4,tbs_len]
 refine ⟨g,x,h1,⟨?_,h4,h5,(Blk.new w _ _).below h6 (by rw [hsz]; omega),hb.trans (h6.mono hb.size),by rw [hsz] at h2; omega⟩⟩
 rw [hlen]
 exact h3.mono (by rw [hsz]; omega)
theorem cmd_ne {w : World} {x B hb cap : Nat} {cs : Array Value} {l : List Rw} (h : Blk w x 34 cs) (ho : OR B w (.slice (some ⟨hb,0,none⟩) l.length cap) l) : x ≠ hb := by
 obtain ⟨c,hc⟩ := own_type ho (g := hb) rfl
 exact h.ne_ hc (by decide)
set_option maxHeartbeats 4000000 in
theorem do_none (v : Value) (s : List Tb) (kd : Int) (n : ByteArray) (K V : Int) (kb : Bool) (w : World) (h : SR w v s) (hd : DoOk s) (hk : kd ≠ 5) (hf : findN s n 0 < 0) :
  Calls Tryz.prog 57 #[v,.agg (cmC kd n K V kb)] w (DoP s kd n K V kb w) := by
 have HCP := Lib.hid (do_copy (kd := kd) (n := n) (K := K) (V := V) (kb := kb) h hd.few)
 have HFD := Lib.hid (fun (v' : Value) (W : World) (hS : SR W v' s) => find_any v' s n W hS hd.few.1)
 obtain ⟨a,cap,rfl⟩ := h.form
 have HR : Hid (doS s kd n K V kb = (s,[],8)) := Lib.hid (by unfold doS; rw [if_neg hk,if_pos hf])
 have n5 : (kd == 5) = false := by rw [beq_eq_false_iff_ne]; exact hk
 have m5 : ¬ (kd = 5) := hk
 obtain ⟨F,hF⟩ : ∃ F,findN s n 0 = F := ⟨_,rfl⟩
 rw [hF] at HFD hf
 clear hF
 clear h hd
 go_enter Tryz.func57,Tryz.ntmps57
 go_wp2_with (first
  | (go_at_call 31; (refine HCP.out.mono ?_); rintro e w2 ⟨g,x,rfl,hI⟩; have HI := Lib.hid hI; obtain ⟨c0,c1,c2,c3,c4⟩ := hI.cells; have HS2 : Hid (SR w2 (.slice (some ⟨g,0,none⟩) s.length s.length) s) := Lib.hid (by have := hI.fs.sr; rw [hI.tb,hI.len] at this; exact this); clear hI)
  | (go_at_call 59; (refine (HFD.out _ _ HS2.out).mono ?_); rintro e w3 ⟨rfl,hb3⟩; have hJ := HI.out.step hb3; have HJ := Lib.hid hJ; obtain ⟨d0,d1,d2,d3,d4⟩ := hJ.cells; clear hb3 hJ))
 go_ret3
 refine ⟨.slice (some ⟨g,0,none⟩) s.length s.length,x,.slice none 0 0,8,rfl,?_,?_,HJ.out.bel,?_,?_⟩
 ·have := HJ.out.fs; rw [HJ.out.len] at this; exact this
 ·rw [HR.out]; exact World.ownsRow_nil _ _ _ _
 ·rw [HR.out]; exact HJ.out.tb
 ·rw [HR.out]
set_option maxHeartbeats 4000000 in
theorem do_twice (v : Value) (s : List Tb) (n : ByteArray) (K V : Int) (kb : Bool) (w : World) (h : SR w v s) (hd : DoOk s) (hf : 0 ≤ findN s n 0) :
  Calls Tryz.prog 57 #[v,.agg (cmC 5 n K V kb)] w (DoP s 5 n K V kb w) := by
 have HCP := Lib.hid (do_copy (kd := 5) (n := n) (K := K) (V := V) (kb := kb) h hd.few)
 have HFD := Lib.hid (fun (v' : Value) (W : World) (hS : SR W v' s) => find_any v' s n W hS hd.few.1)
 obtain ⟨a,cap,rfl⟩ := h.form
 have HR : Hid (doS s 5 n K V kb = (s,[],9)) := Lib.hid (by unfold doS; rw [if_pos rfl,if_pos hf])
 obtain ⟨F,hF⟩ : ∃ F,findN s n 0 = F := ⟨_,rfl⟩
 rw [hF] at HFD hf
 have lf : ¬ (F < 0) := by omega
 clear hF
 clear h hd
 go_enter Tryz.func57,Tryz.ntmps57
 go_wp2_with (first
  | (go_at_call 31; (refine HCP.out.mono ?_); rintro e w2 ⟨g,x,rfl,hI⟩; have HI := Lib.hid hI; obtain ⟨c0,c1,c2,c3,c4⟩ := hI.cells; have HS2 : Hid (SR w2 (.slice (some ⟨g,0,none⟩) s.length s.length) s) := Lib.hid (by have := hI.fs.sr; rw [hI.tb,hI.len] at this; exact this); clear hI)
  | (go_at_call 59; (refine (HFD.out _ _ HS2.out).mono ?_); rintro e w3 ⟨rfl,hb3⟩; have hJ := HI.out.step hb3; have HJ := Lib.hid hJ; obtain ⟨d0,d1,d2,d3,d4⟩ := hJ.cells; clear hb3 hJ))
 go_ret3
 refine ⟨.slice (some ⟨g,0,none⟩) s.length s.length,x,.slice none 0 0,9,rfl,?_,?_,HJ.out.bel,?_,?_⟩
 ·have := HJ.out.fs; rw [HJ.out.len] at this; exact this
 ·rw [HR.out]; exact World.ownsRow_nil _ _ _ _
 ·rw [HR.out]; exact HJ.out.tb
 ·rw [HR.out]
set_option maxHeartbeats 4000000 in
theorem do_new (v : Value) (s : List Tb) (n : ByteArray) (K V : Int) (kb : Bool) (w : World) (h : SR w v s) (hd : DoOk s) (hf : findN s n 0 < 0) (hn : n.size ≤ 1000000) :
  Calls Tryz.prog 57 #[v,.agg (cmC 5 n K V kb)] w (DoP s 5 n K V kb w) := by
 have HCP := Lib.hid (do_copy (kd := 5) (n := n) (K := K) (V := V) (kb := kb) h hd.few)
 have HFD := Lib.hid (fun (v' : Value) (W : World) (hS : SR W v' s) => find_any v' s n W hS hd.few.1)
 obtain ⟨a,cap,rfl⟩ := h.form
 have HR : Hid (doS s 5 n K V kb = if 16 ≤ s.length then (s,[],11) else (madeS s n,[],0)) := Lib.hid (by unfold doS; rw [if_pos rfl,if_neg (by omega)])
 have HUP := Lib.hid hd.up
 have HFW := Lib.hid hd.few.1
 have HN := Lib.hid hn
 obtain ⟨F,hF⟩ : ∃ F,findN s n 0 = F := ⟨_,rfl⟩
 rw [hF] at HFD hf
 clear hF hn
 clear h hd
 go_enter Tryz.func57,Tryz.ntmps57
 go_wp2_with (first
  | (go_at_call 31; (refine HCP.out.mono ?_); rintro e w2 ⟨g,x,rfl,hI⟩; have HI := Lib.hid hI; obtain ⟨c0,c1,c2,c3,c4⟩ := hI.cells; have HS2 : Hid (SR w2 (.slice (some ⟨g,0,none⟩) s.length s.length) s) := Lib.hid (by have := hI.fs.sr; rw [hI.tb,hI.len] at this; exact this); clear hI)
  | (go_at_call 59; (refine (HFD.out _ _ HS2.out).mono ?_); rintro e w3 ⟨rfl,hb3⟩; have hJ := HI.out.step hb3; have HJ := Lib.hid hJ; obtain ⟨d0,d1,d2,d3,d4⟩ := hJ.cells; have HW : Hid (Calls Tryz.prog 78 #[.slice (some ⟨g,0,none⟩) s.length s.length,.string n] w3 (WithP w.heap.size g x n w3)) := Lib.hid (by have := stWith_any w.heap.size g x n w3 hJ.fs (by rw [hJ.tb]; exact HUP.out) (by rw [hJ.len]; exact HFW.out) HN.out hJ.bel.size; rw [hJ.len] at this; exact this); clear hb3 hJ)
  | (go_at_call 78; (refine HW.out.mono ?_); rintro e w4 ⟨V4,y4,k4,rfl,ho4,hb4,he4⟩; have HO4 := Lib.hid ho4; have HB4 := Lib.hid hb4; have HE4 := Lib.hid he4; clear ho4 hb4 he4))
 go_ret3
 have he := HE4.out
 rw [HJ.out.tb,HJ.out.len] at he
 have hr := HR.out
 refine ⟨V4,y4,.slice none 0 0,k4,rfl,HO4.out,?_,HJ.out.bel.trans HB4.out,?_,?_⟩
 ·rw [hr]; split <;> exact World.ownsRow_nil _ _ _ _
 ·rw [hr]
  split
  ·rename_i h16; rw [if_pos h16] at he; injection he
  ·rename_i h16; rw [if_neg h16] at he; injection he
 ·rw [hr]
  split
  ·rename_i h16; rw [if_pos h16] at he; injection he
  ·rename_i h16; rw [if_neg h16] at he; injection he
set_option maxHeartbeats 4000000 in
theorem do_get (v : Value) (s : List Tb) (n : ByteArray) (K V : Int) (kb : Bool) (w : World) (h : SR w v s) (hd : DoOk s) (hf : 0 ≤ findN s n 0) :
  Calls Tryz.prog 57 #[v,.agg (cmC 1 n K V kb)] w (DoP s 1 n K V kb w) := by
 have HCP := Lib.hid (do_copy (kd := 1) (n := n) (K := K) (V := V) (kb := kb) h hd.few)
 have HFD := Lib.hid (fun (v' : Value) (W : World) (hS : SR W v' s) => find_any v' s n W hS hd.few.1)
 obtain ⟨a,cap,rfl⟩ := h.form
 obtain ⟨t,ht,htn,hlt⟩ := find_pos hf
 obtain ⟨i,hi⟩ : ∃ i : Nat,findN s n 0 = (i : Int) := ⟨_,(Int.toNat_of_nonneg hf).symm⟩
 rw [hi,Int.toNat_natCast] at ht hlt
 rw [hi] at HFD
 have hD : doS s 1 n K V kb = (s,getR kb K t.2,0) := by unfold doS; rw [if_neg (by decide),hi,if_neg (by omega),Int.toNat_natCast,ht]; simp only; rw [if_pos trivial]
 have HR := Lib.hid hD
 have HT := Lib.hid ht
 have hte := hd.each t (List.mem_of_getElem? ht)
 have htf := hd.few.2 t (List.mem_of_getElem? ht)
 have HTE := Lib.hid hte
 have HTF := Lib.hid htf
 have HTN := Lib.hid htn
 have l0 : ¬ ((i : Int) < 0) := by omega
 have l1 : (i : Int) < (s.length : Int) := by omega
 have l2 : (0 : Int) ≤ (i : Int) := by omega
 clear ht hD hte htf hi hf hlt htn
 clear h hd
 go_enter Tryz.func57,Tryz.ntmps57
 go_wp2_with (first
  | (go_at_call 31; (refine HCP.out.mono ?_); rintro e w2 ⟨g,x,rfl,hI⟩; have HI := Lib.hid hI; obtain ⟨c0,c1,c2,c3,c4⟩ := hI.cells; have HS2 : Hid (SR w2 (.slice (some ⟨g,0,none⟩) s.length s.length) s) := Lib.hid (by have := hI.fs.sr; rw [hI.tb,hI.len] at this; exact this); clear hI)
  | (go_at_call 59; (refine (HFD.out _ _ HS2.out).mono ?_); rintro e w3 ⟨rfl,hb3⟩; have hJ := HI.out.step hb3; have HJ := Lib.hid hJ; obtain ⟨d0,d1,d2,d3,d4⟩ := hJ.cells; obtain ⟨hb,hx⟩ := hJ.at_ HT.out; have HX := Lib.hid hx; have hfs := hJ.fs; obtain ⟨q0,q1⟩ := FS.at_ hfs i _ hx; have HOR := Lib.hid (hfs.rows _ (List.mem_of_getElem? hx)); have HTG := Lib.hid (hJ.tg _ (List.mem_of_getElem? hx)); have HM := Lib.hid (chosen_any _ t.2 w.heap.size kb K w3 (HOR.out.rr) ⟨d4,d2⟩ HTF.out.2); clear hx hfs; clear hb3 hJ)
  | (go_at_call 80; (refine HM.out.mono ?_); rintro e w4 ⟨v4,rfl,ho4,hb4⟩; have HO4 := Lib.hid ho4; have HK := Lib.hid (HJ.out.step hb4); clear ho4 hb4))
 go_ret3
 refine ⟨.slice (some ⟨g,0,none⟩) s.length s.length,x,v4,0,rfl,?_,?_,HK.out.bel,?_,?_⟩
 ·have := HK.out.fs; rw [HJ.out.len] at this; exact this
 ·rw [HR.out]; exact own_mono HO4.out HJ.out.bel.size
 ·rw [HR.out]; exact HJ.out.tb
 ·rw [HR.out]
set_option maxHeartbeats 4000000 in
theorem do_put (v : Value) (s : List Tb) (n : ByteArray) (K V : Int) (kb : Bool) (w : World) (h : SR w v s) (hd : DoOk s) (hf : 0 ≤ findN s n 0) :
  Calls Tryz.prog 57 #[v,.agg (cmC 2 n K V kb)] w (DoP s 2 n K V kb w) := by
 have HCP := Lib.hid (do_copy (kd := 2) (n := n) (K := K) (V := V) (kb := kb) h hd.few)
 have HFD := Lib.hid (fun (v' : Value) (W : World) (hS : SR W v' s) => find_any v' s n W hS hd.few.1)
 obtain ⟨a,cap,rfl⟩ := h.form
 obtain ⟨t,ht,htn,hlt⟩ := find_pos hf
 obtain ⟨i,hi⟩ : ∃ i : Nat,findN s n 0 = (i : Int) := ⟨_,(Int.toNat_of_nonneg hf).symm⟩
 rw [hi,Int.toNat_natCast] at ht hlt
 rw [hi] at HFD
 have hD : doS s 2 n K V kb = (s.set i (t.1,(chgR 2 K V kb t.2).1),[],(chgR 2 K V kb t.2).2) := by unfold doS; rw [if_neg (by decide),hi,if_neg (by omega),Int.toNat_natCast,ht]; simp only; rw [if_neg (by decide)]
 have HR := Lib.hid hD
 have HT := Lib.hid ht
 have hte := hd.each t (List.mem_of_getElem? ht)
 have htf := hd.few.2 t (List.mem_of_getElem? ht)
 have HTE := Lib.hid hte
 have HTF := Lib.hid htf
 have HTN := Lib.hid htn
 have l0 : ¬ ((i : Int) < 0) := by omega
 have l1 : (i : Int) < (s.length : Int) := by omega
 have l2 : (0 : Int) ≤ (i : Int) := by omega
 clear ht hD hte htf hi hf hlt htn
 clear h hd
 go_enter Tryz.func57,Tryz.ntmps57
 go_wp2_with (first
  | (go_at_call 31; (refine HCP.out.mono ?_); rintro e w2 ⟨g,x,rfl,hI⟩; have HI := Lib.hid hI; obtain ⟨c0,c1,c2,c3,c4⟩ := hI.cells; have HS2 : Hid (SR w2 (.slice (some ⟨g,0,none⟩) s.length s.length) s) := Lib.hid (by have := hI.fs.sr; rw [hI.tb,hI.len] at this; exact this); clear hI)
  | (go_at_call 59; (refine (HFD.out _ _ HS2.out).mono ?_); rintro e w3 ⟨rfl,hb3⟩; have hJ := HI.out.step hb3; have HJ := Lib.hid hJ; obtain ⟨d0,d1,d2,d3,d4⟩ := hJ.cells; obtain ⟨hb,hx⟩ := hJ.at_ HT.out; have HX := Lib.hid hx; have hfs := hJ.fs; obtain ⟨q0,q1⟩ := FS.at_ hfs i _ hx; have HOR := Lib.hid (hfs.rows _ (List.mem_of_getElem? hx)); have HTG := Lib.hid (hJ.tg _ (List.mem_of_getElem? hx)); have HM : Hid (Calls Tryz.prog 81 #[.pointer (some ⟨g,i * 2,none⟩),.int .i64 K,.int .i64 V] w3 (ChgP w.heap.size (.slice (some ⟨g,0,none⟩) s.length s.length) x i t.1 (putR t.2 K V) w3)) := Lib.hid (by have := put_any w.heap.size g x.length x i _ K V w3 hfs hx HTG.out HTE.out.1 HTF.out.2 hJ.bel.size; rw [hJ.len] at this; exact this); clear hx hfs; clear hb3 hJ)
  | (go_at_call 81; (refine HM.out.mono ?_); rintro e w4 ⟨u4,rfl,ho4,hb4⟩; have HO4 := Lib.hid ho4; have HB4 := Lib.hid hb4; clear ho4 hb4))
 go_ret3
 have hl : (x.set i (t.1,u4,(putR t.2 K V).1)).length = s.length := by rw [List.length_set]; exact HJ.out.len
 refine ⟨.slice (some ⟨g,0,none⟩) s.length s.length,_,.slice none 0 0,(putR t.2 K V).2,rfl,HO4.out,?_,HJ.out.bel.trans HB4.out,?_,?_⟩
 ·rw [HR.out]; exact World.ownsRow_nil _ _ _ _
 ·rw [HR.out,tbs_set,HJ.out.tb]; rfl
 ·rw [HR.out]; rfl
set_option maxHeartbeats 4000000 in
theorem do_add (v : Value) (s : List Tb) (n : ByteArray) (K V : Int) (kb : Bool) (w : World) (h : SR w v s) (hd : DoOk s) (hf : 0 ≤ findN s n 0) :
  Calls Tryz.prog 57 #[v,.agg (cmC 3 n K V kb)] w (DoP s 3 n K V kb w) := by
 have HCP := Lib.hid (do_copy (kd := 3) (n := n) (K := K) (V := V) (kb := kb) h hd.few)
 have HFD := Lib.hid (fun (v' : Value) (W : World) (hS : SR W v' s) => find_any v' s n W hS hd.few.1)
 obtain ⟨a,cap,rfl⟩ := h.form
 obtain ⟨t,ht,htn,hlt⟩ := find_pos hf
 obtain ⟨i,hi⟩ : ∃ i : Nat,findN s n 0 = (i : Int) := ⟨_,(Int.toNat_of_nonneg hf).symm⟩
 rw [hi,Int.toNat_natCast] at ht hlt
 rw [hi] at HFD
 have hD : doS s 3 n K V kb = (s.set i (t.1,(chgR 3 K V kb t.2).1),[],(chgR 3 K V kb t.2).2) := by unfold doS; rw [if_neg (by decide),hi,if_neg (by omega),Int.toNat_natCast,ht]; simp only; rw [if_neg (by decide)]
 have HR := Lib.hid hD
 have HT := Lib.hid ht
 have hte := hd.each t (List.mem_of_getElem? ht)
 have htf := hd.few.2 t (List.mem_of_getElem? ht)
 have HTE := Lib.hid hte
 have HTF := Lib.hid htf
 have HTN := Lib.hid htn
 have l0 : ¬ ((i : Int) < 0) := by omega
 have l1 : (i : Int) < (s.length : Int) := by omega
 have l2 : (0 : Int) ≤ (i : Int) := by omega
 clear ht hD hte htf hi hf hlt htn
 clear h hd
 go_enter Tryz.func57,Tryz.ntmps57
 go_wp2_with (first
  | (go_at_call 31; (refine HCP.out.mono ?_); rintro e w2 ⟨g,x,rfl,hI⟩; have HI := Lib.hid hI; obtain ⟨c0,c1,c2,c3,c4⟩ := hI.cells; have HS2 : Hid (SR w2 (.slice (some ⟨g,0,none⟩) s.length s.length) s) := Lib.hid (by have := hI.fs.sr; rw [hI.tb,hI.len] at this; exact this); clear hI)
  | (go_at_call 59; (refine (HFD.out _ _ HS2.out).mono ?_); rintro e w3 ⟨rfl,hb3⟩; have hJ := HI.out.step hb3; have HJ := Lib.hid hJ; obtain ⟨d0,d1,d2,d3,d4⟩ := hJ.cells; obtain ⟨hb,hx⟩ := hJ.at_ HT.out; have HX := Lib.hid hx; have hfs := hJ.fs; obtain ⟨q0,q1⟩ := FS.at_ hfs i _ hx; have HOR := Lib.hid (hfs.rows _ (List.mem_of_getElem? hx)); have HTG := Lib.hid (hJ.tg _ (List.mem_of_getElem? hx)); have HM : Hid (Calls Tryz.prog 82 #[.pointer (some ⟨g,i * 2,none⟩),.int .i64 K] w3 (ChgP w.heap.size (.slice (some ⟨g,0,none⟩) s.length s.length) x i t.1 (addR t.2 K) w3)) := Lib.hid (by have := add_any w.heap.size g x.length x i _ K w3 hfs hx HTG.out HTE.out.1 HTF.out.2 hJ.bel.size HTE.out.2; rw [hJ.len] at this; exact this); clear hx hfs; clear hb3 hJ)
  | (go_at_call 82; (refine HM.out.mono ?_); rintro e w4 ⟨u4,rfl,ho4,hb4⟩; have HO4 := Lib.hid ho4; have HB4 := Lib.hid hb4; clear ho4 hb4))
 go_ret3
 have hl : (x.set i (t.1,u4,(addR t.2 K).1)).length = s.length := by rw [List.length_set]; exact HJ.out.len
 refine ⟨.slice (some ⟨g,0,none⟩) s.length s.length,_,.slice none 0 0,(addR t.2 K).2,rfl,HO4.out,?_,HJ.out.bel.trans HB4.out,?_,?_⟩
 ·rw [HR.out]; exact World.ownsRow_nil _ _ _ _
 ·rw [HR.out,tbs_set,HJ.out.tb]; rfl
 ·rw [HR.out]; rfl
set_option maxHeartbeats 4000000 in
theorem do_del (v : Value) (s : List Tb) (n : ByteArray) (K V : Int) (kb : Bool) (w : World) (h : SR w v s) (hd : DoOk s) (hf : 0 ≤ findN s n 0) :
  Calls Tryz.prog 57 #[v,.agg (cmC 4 n K V kb)] w (DoP s 4 n K V kb w) := by
 have HCP := Lib.hid (do_copy (kd := 4) (n := n) (K := K) (V := V) (kb := kb) h hd.few)
 have HFD := Lib.hid (fun (v' : Value) (W : World) (hS : SR W v' s) => find_any v' s n W hS hd.few.1)
 obtain ⟨a,cap,rfl⟩ := h.form
 obtain ⟨t,ht,htn,hlt⟩ := find_pos hf
 obtain ⟨i,hi⟩ : ∃ i : Nat,findN s n 0 = (i : Int) := ⟨_,(Int.toNat_of_nonneg hf).symm⟩
 rw [hi,Int.toNat_natCast] at ht hlt
 rw [hi] at HFD
 have hD : doS s 4 n K V kb = (s.set i (t.1,(chgR 4 K V kb t.2).1),[],(chgR 4 K V kb t.2).2) := by unfold doS; rw [if_neg (by decide),hi,if_neg (by omega),Int.toNat_natCast,ht]; simp only; rw [if_neg (by decide)]
 have HR := Lib.hid hD
 have HT := Lib.hid ht
 have hte := hd.each t (List.mem_of_getElem? ht)
 have htf := hd.few.2 t (List.mem_of_getElem? ht)
 have HTE := Lib.hid hte
 have HTF := Lib.hid htf
 have HTN := Lib.hid htn
 have l0 : ¬ ((i : Int) < 0) := by omega
 have l1 : (i : Int) < (s.length : Int) := by omega
 have l2 : (0 : Int) ≤ (i : Int) := by omega
 clear ht hD hte htf hi hf hlt htn
 clear h hd
 go_enter Tryz.func57,Tryz.ntmps57
 go_wp2_with (first
  | (go_at_call 31; (refine HCP.out.mono ?_); rintro e w2 ⟨g,x,rfl,hI⟩; have HI := Lib.hid hI; obtain ⟨c0,c1,c2,c3,c4⟩ := hI.cells; have HS2 : Hid (SR w2 (.slice (some ⟨g,0,none⟩) s.length s.length) s) := Lib.hid (by have := hI.fs.sr; rw [hI.tb,hI.len] at this; exact this); clear hI)
  | (go_at_call 59; (refine (HFD.out _ _ HS2.out).mono ?_); rintro e w3 ⟨rfl,hb3⟩; have hJ := HI.out.step hb3; have HJ := Lib.hid hJ; obtain ⟨d0,d1,d2,d3,d4⟩ := hJ.cells; obtain ⟨hb,hx⟩ := hJ.at_ HT.out; have HX := Lib.hid hx; have hfs := hJ.fs; obtain ⟨q0,q1⟩ := FS.at_ hfs i _ hx; have HOR := Lib.hid (hfs.rows _ (List.mem_of_getElem? hx)); have HTG := Lib.hid (hJ.tg _ (List.mem_of_getElem? hx)); have HM := Lib.hid (delete_any w.heap.size hb t.2.length t.2 w.heap.size kb K w3 HOR.out ⟨d4,d2⟩ (fun e => cmd_ne hJ.cmd HOR.out e) (Nat.le_refl _) HTF.out.2); clear hx hfs; clear hb3 hJ)
  | (go_at_call 83; (refine HM.out.mono ?_); rintro e w4 ⟨rfl,ho4,hg4⟩; have HO4 := Lib.hid ho4; have HG4 := Lib.hid hg4; have hne4 : (some g : Option Nat) ≠ some hb := (fun e => own_ne HJ.out.fs.own HOR.out rfl rfl ty_ne (by injection e)); have q2 := hg4.cell (a := ⟨g,i * 2 + 1,none⟩) q1 hne4; have f2 : w4.frozen? ⟨g,i * 2 + 1,none⟩ = false := (World.frozen?_of_block (hg4.block g (HJ.out.fs.own.lt g rfl).2 hne4)).trans (World.ownsRow.frozenAt HJ.out.fs.own _); clear ho4 hg4 hne4))
 go_ret3
 have hch : chgR 4 K V kb t.2 = (delR kb K t.2,0) := rfl
 have hfs := FS.modk HJ.out.fs i _ HX.out _ _ HO4.out (fun q hq hne => HG4.out.block q hq hne) (fun j p hj hp => HJ.out.fs.apart j i p _ hj hp HX.out)
 refine ⟨.slice (some ⟨g,0,none⟩) s.length s.length,_,.slice none 0 0,0,rfl,by rw [HJ.out.len] at hfs; exact hfs,?_,?_,?_,?_⟩
 ·rw [HR.out]; exact World.ownsRow_nil _ _ _ _
 ·exact (HJ.out.bel.grown HG4.out HJ.out.bel.size (fun q hq => by injection hq with hq; rw [← hq]; exact (HOR.out.lt hb rfl).1)).setCell (p := ⟨g,i * 2 + 1,none⟩) (Nat.le_of_lt HJ.out.lt) _
 ·rw [HR.out,tbs_set,HJ.out.tb,hch]
 ·rw [HR.out,hch]
theorem stDo_any (v : Value) (s : List Tb) (kd : Int) (n : ByteArray) (K V : Int) (kb : Bool) (w : World) (h : SR w v s) (hd : DoOk s) (hk : 1 ≤ kd ∧ kd ≤ 5) (hn : n.size ≤ 1000000) :
  Calls Tryz.prog 57 #[v,.agg (cmC kd n K V kb)] w (DoP s kd n K V kb w) := by
 by_cases hf : findN s n 0 < 0
 ·by_cases h5 : kd = 5
  ·subst h5; exact do_new v s n K V kb w h hd hf hn
  ·exact do_none v s kd n K V kb w h hd h5 hf
 ·have hf' : 0 ≤ findN s n 0 := by omega
  rcases (show kd = 1 ∨ kd = 2 ∨ kd = 3 ∨ kd = 4 ∨ kd = 5 by omega) with rfl | rfl | rfl | rfl | rfl
  ·exact do_get v s n K V kb w h hd hf'
  ·exact do_put v s n K V kb w h hd hf'
  ·exact do_add v s n K V kb w h hd hf'
  ·exact do_del v s n K V kb w h hd hf'
  ·exact do_twice v s n K V kb w h hd hf'
end Go.Proofs.YtjmmninopagpjaaGreatDoor
