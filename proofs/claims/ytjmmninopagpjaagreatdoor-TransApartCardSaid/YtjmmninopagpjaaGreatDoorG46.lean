/- Drt -/
import Derived.Test.YtjmmninopagpjaaGreatDoorG35
import Derived.Test.YtjmmninopagpjaaGreatDoorG38
import Derived.Test.YtjmmninopagpjaaGreatDoorG40
import Derived.Test.YtjmmninopagpjaaGreatDoorG5
import Derived.Test.YtjmmninopagpjaaGreatDoorG45
import Derived.Deep.RegionHeld3
import Derived.Test.YtjmmninopagpjaaGreatDoorG1
set_option linter.unusedSimpArgs false
set_option linter.unusedVariables false
namespace Go.Proofs.YtjmmninopagpjaaGreatDoor
open Go.ChangeShapes Go.WideShapes Go.ChangeAt Go.RowKit
set_option maxRecDepth 100000
set_option linter.unusedVariables false
set_option linter.unusedSimpArgs false

theorem rlessT (a b : ByteArray) (R : Bool) (hR : decide (a.toList < b.toList) = R) (ha : a.size ≤ 1000000) (hb : b.size ≤ 1000000) (w : World) :
  Calls Tryz.prog 51 #[.string a,.string b] w fun e w' => e = .returned (.bool R) ∧ Below w.heap.size w w' := by
 subst hR
 refine (rless_any a b w (by omega) (by omega)).mono ?_
 rintro e w' ⟨he,n,rfl⟩
 exact ⟨he,belN _ _ _⟩
set_option maxHeartbeats 8000000 in
theorem rright_any (v : Value) (s : List Tb) (w : World) (h : SR w v s) (hf : FewS s) :
  Calls Tryz.prog 27 #[v] w fun e w' => e = .returned (.bool (rightL s)) ∧ Below w.heap.size w w' := by
 obtain ⟨R,hR⟩ : ∃ R,rightL s = R := ⟨_,rfl⟩
 rw [hR]
 obtain ⟨a,cap,rfl⟩ := h.form
 have HH := Lib.hid h
 have HFW := Lib.hid hf
 by_cases h16 : s.length ≤ 16
 ·have hg : tabsGo s s.length 0 = R := by rw [← hR]; unfold rightL; rw [decide_eq_true h16,Bool.true_and]
  have l16 : ¬ ((16 : Int) < (s.length : Int)) := by omega
  have HG := Lib.hid hg
  have H16 := Lib.hid h16
  clear h hR hg hf h16
  go_enter Tryz.func27,Tryz.ntmps27
  go_wp2_with fail
  go_loopg [3] s.length (fun gk u3 wx => ∃ i : Nat,u3 = .int .i64 (i : Int) ∧ i + gk = s.length ∧ Below w.heap.size w wx ∧ tabsGo s gk i = R)
  case atStart => exact ⟨0,rfl,by omega,Below.refl _ _,HG.out⟩
  case round =>
   obtain ⟨i,rfl,hi,hB,hr⟩ := hrel
   have HB := Lib.hid hB
   have HI := Lib.hid hi
   cases gk with
   | zero =>
    have l1 : ¬ ((i : Int) < (s.length : Int)) := by omega
    have hR : R = true := hr.symm
    subst hR
    clear hB hi hr
    go_wp2
    go_ret
    exact ⟨rfl,HB.out⟩
   | succ gko =>
    have hlt : i < s.length := by omega
    obtain ⟨b,o,cp,he,hcp,hx⟩ := (HH.out.below hB).inv (by omega)
    injection he with ea _ ec
    subst ea ec
    obtain ⟨t,ht0⟩ : ∃ t,s[i] = t := ⟨_,rfl⟩
    have hsi : s[i]? = some t := by rw [List.getElem?_eq_getElem hlt,ht0]
    obtain ⟨x0,u,x1,hu⟩ := hx i t hsi
    have hfs := HFW.out.2 t (List.mem_of_getElem? hsi)
    have l0 : (0 : Int) ≤ (i : Int) := by omega
    have l1 : (i : Int) < (s.length : Int) := by omega
    obtain ⟨i1,hi1⟩ : ∃ i1,i + 1 = i1 := ⟨_,rfl⟩
    have wk : IntKind.i64.wrap ((i : Int) + 1) = (i1 : Int) := by rw [show (i : Int) + 1 = (i1 : Int) by omega]; exact IntWalk.i64_in _ (by have := H16.out; omega)
    have HI1 := Lib.hid hi1
    rw [tabsGo,hi1] at hr
    have hra : tabAt s i = ((i == 0 || (match s[i - 1]? with | some q => decide (q.1.toList < t.1.toList) | none => true)) && (decide (t.1.size ≠ 0) && (decide (t.1.size ≤ 30) && rowsOk t.2))) := by
     unfold tabAt; rw [hsi]; all_goals rfl
    rw [hra] at hr
    obtain ⟨n,rs⟩ := t
    obtain ⟨ua,ucap,rfl⟩ := hu.form
    simp only at x0 x1 hu hr hfs
    have HSI := Lib.hid hsi
    have HX0 := Lib.hid x0
    have HX1 := Lib.hid x1
    have HXB0 := Lib.hid (World.block_lt_of_cell? _ _ x0)
    have HU := Lib.hid hu
    have HFS := Lib.hid hfs
    have hpre : i ≠ 0 → ∃ (j : Nat) (pn : ByteArray) (pr : List Rw),j + 1 = i ∧ s[i - 1]? = some (pn,pr) ∧ wr.cell? ⟨b,o + j * 2,none⟩ = some (.string pn) ∧ pn.size ≤ 1000000 := fun hi0 => by
     have hj : s[i - 1]? = some s[i - 1] := List.getElem?_eq_getElem (by omega)
     obtain ⟨c0,_⟩ := hx (i - 1) _ hj
     exact ⟨i - 1,s[i - 1].1,s[i - 1].2,by omega,hj,c0,(HFW.out.2 _ (List.mem_of_getElem? hj)).1⟩
    have HR1 := Lib.hid hr
    have HPR := Lib.hid hpre
    clear hB hi hx ht0 hsi hu hfs hi1 hra hr hpre hlt hcp x0 x1
    by_cases hz : n.size = 0
    ·have ln1 : (n.size : Int) < 1 := by omega
     have HRF : Hid (R = false) := Lib.hid (by have := HR1.out; simpa [hz] using this.symm)
     clear hz
     go_wp2_with fail
     refine wp_region_held_drew (S := (fun w' => Below wr.heap.size wr w')) (by kernel_rfl) ?_ (fun hS => ?_)
     ·exact (Below.refl _ _).drew
     try dsimp only at hS
     refine tkY 0 ?_ rfl hS ?_ ?_;rotate_left
     ·intro wz hSz;have x0z := bcl hSz HXB0.out HX0.out;have x1z := bcl hSz HXB0.out HX1.out;go_simp;(try simp only [HDa.out,HDb.out,HDc.out,HDc2.out,HDd.out]);all_goals with_reducible rfl
     (try simp only [Act.put,pu]);refine tkY 1 ?_ rfl hS ?_ ?_;rotate_left
     ·intro wz hSz;have x0z := bcl hSz HXB0.out HX0.out;have x1z := bcl hSz HXB0.out HX1.out;go_simp;(try simp only [HDa.out,HDb.out,HDc.out,HDc2.out,HDd.out]);all_goals with_reducible rfl
     (try simp only [Act.put,pu]);refine tkY 2 ?_ rfl hS ?_ ?_;rotate_left
     ·intro wz hSz;have x0z := bcl hSz HXB0.out HX0.out;have x1z := bcl hSz HXB0.out HX1.out;go_simp;(try simp only [HDa.out,HDb.out,HDc.out,HDc2.out,HDd.out]);all_goals with_reducible rfl
     (try simp only [Act.put,pu]);refine tkY 3 ?_ rfl hS ?_ ?_;rotate_left
     ·intro wz hSz;have x0z := bcl hSz HXB0.out HX0.out;have x1z := bcl hSz HXB0.out HX1.out;go_simp;(try simp only [HDa.out,HDb.out,HDc.out,HDc2.out,HDd.out]);all_goals with_reducible rfl
     (try simp only [Act.put,pu]);refine tkY 4 ?_ rfl hS ?_ ?_;rotate_left
     ·intro wz hSz;have x0z := bcl hSz HXB0.out HX0.out;have x1z := bcl hSz HXB0.out HX1.out;go_simp;(try simp only [HDa.out,HDb.out,HDc.out,HDc2.out,HDd.out]);all_goals with_reducible rfl
     (try simp only [Act.put,pu]);refine tkY 5 ?_ rfl hS ?_ ?_;rotate_left
     ·intro wz hSz;have x0z := bcl hSz HXB0.out HX0.out;have x1z := bcl hSz HXB0.out HX1.out;go_simp;(try simp only [HDa.out,HDb.out,HDc.out,HDc2.out,HDd.out]);all_goals with_reducible rfl
     (try simp only [Act.put,pu]);refine tkY 6 ?_ rfl hS ?_ ?_;rotate_left
     ·intro wz hSz;have x0z := bcl hSz HXB0.out HX0.out;have x1z := bcl hSz HXB0.out HX1.out;go_simp;(try simp only [HDa.out,HDb.out,HDc.out,HDc2.out,HDd.out]);all_goals with_reducible rfl
     (try simp only [Act.put,pu]);refine tkY 7 ?_ rfl hS ?_ ?_;rotate_left
     ·intro wz hSz;have x0z := bcl hSz HXB0.out HX0.out;have x1z := bcl hSz HXB0.out HX1.out;go_simp;(try simp only [HDa.out,HDb.out,HDc.out,HDc2.out,HDd.out]);all_goals with_reducible rfl
     (try simp only [Act.put,pu]);refine tkN 8 rfl hS ?_
     (try simp only [Act.put,pu]);refine tkN 9 rfl hS ?_
     (try simp only [Act.put,pu]);refine tkN 10 rfl hS ?_
     (try simp only [Act.put,pu]);refine tkN 11 rfl hS ?_
     (try simp only [Act.put,pu]);refine tkN 12 rfl hS ?_
     (try simp only [Act.put,pu]);refine tkN 13 rfl hS ?_
     (try simp only [Act.put,pu]);refine tkN 14 rfl hS ?_
     (try simp only [Act.put,pu]);refine tkY 15 ?_ rfl hS ?_ ?_;rotate_left
     ·intro wz hSz;have x0z := bcl hSz HXB0.out HX0.out;have x1z := bcl hSz HXB0.out HX1.out;go_simp;(try simp only [HDa.out,HDb.out,HDc.out,HDc2.out,HDd.out]);all_goals with_reducible rfl
     (try simp only [Act.put,pu]);refine tkY 16 ?_ rfl hS ?_ ?_;rotate_left
     ·intro wz hSz;have x0z := bcl hSz HXB0.out HX0.out;have x1z := bcl hSz HXB0.out HX1.out;go_simp;(try simp only [HDa.out,HDb.out,HDc.out,HDc2.out,HDd.out]);all_goals with_reducible rfl
     (try simp only [Act.put,pu]);refine tkN 17 rfl hS ?_
     (try simp only [Act.put,pu]);refine tkN 18 rfl hS ?_
     (try simp only [Act.put,pu]);refine tkN 19 rfl hS ?_
     (try simp only [Act.put,pu]);refine tkN 20 rfl hS ?_
     (try simp only [Act.put,pu]);refine tkN 21 rfl hS ?_
     (try simp only [Act.put,pu]);refine tkN 22 rfl hS ?_
     (try simp only [Act.put,pu]);refine tkN 23 rfl hS ?_
     (try simp only [Act.put,pu]);refine tkN 24 rfl hS ?_
     (try simp only [Act.put,pu]);refine tkN 25 rfl hS ?_
     (try simp only [Act.put,pu]);refine tkN 26 rfl hS ?_
     (try simp only [Act.put,pu]);refine tkN 27 rfl hS ?_
     (try simp only [Act.put,pu]);refine tkN 28 rfl hS ?_
     (try simp only [Act.put,pu]);refine tkN 29 rfl hS ?_
     (try simp only [Act.put,pu]);refine tkN 30 rfl hS ?_
     (try simp only [Act.put,pu]);refine tkN 31 rfl hS ?_
     (try simp only [Act.put,pu]);refine tkN 32 rfl hS ?_
     (try simp only [Act.put,pu]);refine tkN 33 rfl hS ?_
     (try simp only [Act.put,pu]);refine tkY 34 ?_ rfl hS ?_ ?_;rotate_left
     ·intro wz hSz;have x0z := bcl hSz HXB0.out HX0.out;have x1z := bcl hSz HXB0.out HX1.out;go_simp;(try simp only [HDa.out,HDb.out,HDc.out,HDc2.out,HDd.out]);all_goals with_reducible rfl
     (try simp only [Act.put,pu]);refine tkY 35 ?_ rfl hS ?_ ?_;rotate_left
     ·intro wz hSz;have x0z := bcl hSz HXB0.out HX0.out;have x1z := bcl hSz HXB0.out HX1.out;go_simp;(try simp only [HDa.out,HDb.out,HDc.out,HDc2.out,HDd.out]);all_goals with_reducible rfl
     (try simp only [Act.put,pu]);refine tkN 36 rfl hS ?_
     (try simp only [Act.put,pu]);refine tkN 37 rfl hS ?_
     (try simp only [Act.put,pu]);refine tkN 38 rfl hS ?_
     (try simp only [Act.put,pu]);refine tkN 39 rfl hS ?_
     (try simp only [Act.put,pu]);refine tkN 40 rfl hS ?_
     (try simp only [Act.put,pu]);refine tkN 41 rfl hS ?_
     (try simp only [Act.put,pu]);refine tkN 42 rfl hS ?_
     (try simp only [Act.put,pu]);refine tkY 43 ?_ rfl hS ?_ ?_;rotate_left
     ·intro wz hSz;have x0z := bcl hSz HXB0.out HX0.out;have x1z := bcl hSz HXB0.out HX1.out;go_simp;(try simp only [HDa.out,HDb.out,HDc.out,HDc2.out,HDd.out]);all_goals with_reducible rfl
     try simp only [Act.put,pu]
     refine wpAnyH_done (by kernel_rfl) ?_ _
     have HS := Lib.hid hS
     clear hS
     go_wp2
     go_ret
     exact ⟨by rw [HRF.out]; rfl,HB.out.trans (HS.out.mono HB.out.size)⟩
    ·have ln1 : ¬ ((n.size : Int) < 1) := by omega
     have HDa := Lib.hid (show decide ((n.size : Int) < 1) = false from decide_eq_false ln1)
     by_cases h30 : n.size ≤ 30
     ·have ln2 : ¬ ((30 : Int) < (n.size : Int)) := by omega
      have HDb := Lib.hid (show decide ((30 : Int) < (n.size : Int)) = false from decide_eq_false ln2)
      have hz2 : decide (n.size ≠ 0) = true := decide_eq_true hz
      have hz3 : decide (n.size ≤ 30) = true := decide_eq_true h30
      have HR3 := Lib.hid (show (((i == 0 || (match s[i - 1]? with | some q => decide (q.1.toList < n.toList) | none => true)) && rowsOk rs) && tabsGo s gko i1) = R by have := HR1.out; rw [hz2,hz3,Bool.true_and,Bool.true_and] at this; exact this)
      clear hz hz2 hz3 h30
      have HR64 : Hid (64 < rs.length → rowsOk rs = false) := Lib.hid (fun h => by unfold rowsOk; rw [decide_eq_false (by omega),Bool.false_and])
      have HR65 : Hid (rs.length ≤ 64 → rowsOk rs = rowsGo rs rs.length 0) := Lib.hid (fun h => by unfold rowsOk; rw [decide_eq_true h,Bool.true_and])
      by_cases hi0 : i = 0
      ·have lz : ¬ ((0 : Int) < (i : Int)) := by omega
       have HDc := Lib.hid (show decide ((0 : Int) < (i : Int)) = false from decide_eq_false lz)
       have HDc2 := Lib.hid (show decide (0 < i) = false from decide_eq_false (by omega))
       by_cases h64 : rs.length ≤ 64
       ·have l64 : ¬ ((64 : Int) < (rs.length : Int)) := by omega
        have HDd := Lib.hid (show decide ((64 : Int) < (rs.length : Int)) = false from decide_eq_false l64)
        have HRR := Lib.hid (show (rowsGo rs rs.length 0 && tabsGo s gko i1) = R by have := HR3.out; rw [hi0,HR65.out h64] at this; simpa using this)
        clear hi0 h64
        go_wp2_with fail
        refine wp_region_held_drew (S := (fun w' => Below wr.heap.size wr w')) (by kernel_rfl) ?_ (fun hS => ?_)
        ·exact (Below.refl _ _).drew
        try dsimp only at hS
        refine tkY 0 ?_ rfl hS ?_ ?_;rotate_left
        ·intro wz hSz;have x0z := bcl hSz HXB0.out HX0.out;have x1z := bcl hSz HXB0.out HX1.out;go_simp;(try simp only [HDa.out,HDb.out,HDc.out,HDc2.out,HDd.out]);all_goals with_reducible rfl
        (try simp only [Act.put,pu]);refine tkY 1 ?_ rfl hS ?_ ?_;rotate_left
        ·intro wz hSz;have x0z := bcl hSz HXB0.out HX0.out;have x1z := bcl hSz HXB0.out HX1.out;go_simp;(try simp only [HDa.out,HDb.out,HDc.out,HDc2.out,HDd.out]);all_goals with_reducible rfl
        (try simp only [Act.put,pu]);refine tkY 2 ?_ rfl hS ?_ ?_;rotate_left
        ·intro wz hSz;have x0z := bcl hSz HXB0.out HX0.out;have x1z := bcl hSz HXB0.out HX1.out;go_simp;(try simp only [HDa.out,HDb.out,HDc.out,HDc2.out,HDd.out]);all_goals with_reducible rfl
        (try simp only [Act.put,pu]);refine tkY 3 ?_ rfl hS ?_ ?_;rotate_left
        ·intro wz hSz;have x0z := bcl hSz HXB0.out HX0.out;have x1z := bcl hSz HXB0.out HX1.out;go_simp;(try simp only [HDa.out,HDb.out,HDc.out,HDc2.out,HDd.out]);all_goals with_reducible rfl
        (try simp only [Act.put,pu]);refine tkY 4 ?_ rfl hS ?_ ?_;rotate_left
        ·intro wz hSz;have x0z := bcl hSz HXB0.out HX0.out;have x1z := bcl hSz HXB0.out HX1.out;go_simp;(try simp only [HDa.out,HDb.out,HDc.out,HDc2.out,HDd.out]);all_goals with_reducible rfl
        (try simp only [Act.put,pu]);refine tkY 5 ?_ rfl hS ?_ ?_;rotate_left
        ·intro wz hSz;have x0z := bcl hSz HXB0.out HX0.out;have x1z := bcl hSz HXB0.out HX1.out;go_simp;(try simp only [HDa.out,HDb.out,HDc.out,HDc2.out,HDd.out]);all_goals with_reducible rfl
        (try simp only [Act.put,pu]);refine tkY 6 ?_ rfl hS ?_ ?_;rotate_left
        ·intro wz hSz;have x0z := bcl hSz HXB0.out HX0.out;have x1z := bcl hSz HXB0.out HX1.out;go_simp;(try simp only [HDa.out,HDb.out,HDc.out,HDc2.out,HDd.out]);all_goals with_reducible rfl
        (try simp only [Act.put,pu]);refine tkY 7 ?_ rfl hS ?_ ?_;rotate_left
        ·intro wz hSz;have x0z := bcl hSz HXB0.out HX0.out;have x1z := bcl hSz HXB0.out HX1.out;go_simp;(try simp only [HDa.out,HDb.out,HDc.out,HDc2.out,HDd.out]);all_goals with_reducible rfl
        (try simp only [Act.put,pu]);refine tkY 8 ?_ rfl hS ?_ ?_;rotate_left
        ·intro wz hSz;have x0z := bcl hSz HXB0.out HX0.out;have x1z := bcl hSz HXB0.out HX1.out;go_simp;(try simp only [HDa.out,HDb.out,HDc.out,HDc2.out,HDd.out]);all_goals with_reducible rfl
        (try simp only [Act.put,pu]);refine tkY 9 ?_ rfl hS ?_ ?_;rotate_left
        ·intro wz hSz;have x0z := bcl hSz HXB0.out HX0.out;have x1z := bcl hSz HXB0.out HX1.out;go_simp;(try simp only [HDa.out,HDb.out,HDc.out,HDc2.out,HDd.out]);all_goals with_reducible rfl
        (try simp only [Act.put,pu]);refine tkY 10 ?_ rfl hS ?_ ?_;rotate_left
        ·intro wz hSz;have x0z := bcl hSz HXB0.out HX0.out;have x1z := bcl hSz HXB0.out HX1.out;go_simp;(try simp only [HDa.out,HDb.out,HDc.out,HDc2.out,HDd.out]);all_goals with_reducible rfl
        (try simp only [Act.put,pu]);refine tkY 11 ?_ rfl hS ?_ ?_;rotate_left
        ·intro wz hSz;have x0z := bcl hSz HXB0.out HX0.out;have x1z := bcl hSz HXB0.out HX1.out;go_simp;(try simp only [HDa.out,HDb.out,HDc.out,HDc2.out,HDd.out]);all_goals with_reducible rfl
        (try simp only [Act.put,pu]);refine tkY 12 ?_ rfl hS ?_ ?_;rotate_left
        ·intro wz hSz;have x0z := bcl hSz HXB0.out HX0.out;have x1z := bcl hSz HXB0.out HX1.out;go_simp;(try simp only [HDa.out,HDb.out,HDc.out,HDc2.out,HDd.out]);all_goals with_reducible rfl
        (try simp only [Act.put,pu]);refine tkY 13 ?_ rfl hS ?_ ?_;rotate_left
        ·intro wz hSz;have x0z := bcl hSz HXB0.out HX0.out;have x1z := bcl hSz HXB0.out HX1.out;go_simp;(try simp only [HDa.out,HDb.out,HDc.out,HDc2.out,HDd.out]);all_goals with_reducible rfl
        (try simp only [Act.put,pu]);refine tkY 14 ?_ rfl hS ?_ ?_;rotate_left
        ·intro wz hSz;have x0z := bcl hSz HXB0.out HX0.out;have x1z := bcl hSz HXB0.out HX1.out;go_simp;(try simp only [HDa.out,HDb.out,HDc.out,HDc2.out,HDd.out]);all_goals with_reducible rfl
        (try simp only [Act.put,pu]);refine tkY 15 ?_ rfl hS ?_ ?_;rotate_left
        ·intro wz hSz;have x0z := bcl hSz HXB0.out HX0.out;have x1z := bcl hSz HXB0.out HX1.out;go_simp;(try simp only [HDa.out,HDb.out,HDc.out,HDc2.out,HDd.out]);all_goals with_reducible rfl
        (try simp only [Act.put,pu]);refine tkY 16 ?_ rfl hS ?_ ?_;rotate_left
        ·intro wz hSz;have x0z := bcl hSz HXB0.out HX0.out;have x1z := bcl hSz HXB0.out HX1.out;go_simp;(try simp only [HDa.out,HDb.out,HDc.out,HDc2.out,HDd.out]);all_goals with_reducible rfl
        (try simp only [Act.put,pu]);refine tkY 17 ?_ rfl hS ?_ ?_;rotate_left
        ·intro wz hSz;have x0z := bcl hSz HXB0.out HX0.out;have x1z := bcl hSz HXB0.out HX1.out;go_simp;(try simp only [HDa.out,HDb.out,HDc.out,HDc2.out,HDd.out]);all_goals with_reducible rfl
        (try simp only [Act.put,pu]);refine tkY 18 ?_ rfl hS ?_ ?_;rotate_left
        ·intro wz hSz;have x0z := bcl hSz HXB0.out HX0.out;have x1z := bcl hSz HXB0.out HX1.out;go_simp;(try simp only [HDa.out,HDb.out,HDc.out,HDc2.out,HDd.out]);all_goals with_reducible rfl
        (try simp only [Act.put,pu]);refine tkY 19 ?_ rfl hS ?_ ?_;rotate_left
        ·intro wz hSz;have x0z := bcl hSz HXB0.out HX0.out;have x1z := bcl hSz HXB0.out HX1.out;go_simp;(try simp only [HDa.out,HDb.out,HDc.out,HDc2.out,HDd.out]);all_goals with_reducible rfl
        (try simp only [Act.put,pu]);refine tkN 20 rfl hS ?_
        (try simp only [Act.put,pu]);refine tkN 21 rfl hS ?_
        (try simp only [Act.put,pu]);refine tkN 22 rfl hS ?_
        (try simp only [Act.put,pu]);refine tkN 23 rfl hS ?_
        (try simp only [Act.put,pu]);refine tkN 24 rfl hS ?_
        (try simp only [Act.put,pu]);refine tkN 25 rfl hS ?_
        (try simp only [Act.put,pu]);refine tkN 26 rfl hS ?_
        (try simp only [Act.put,pu]);refine tkN 27 rfl hS ?_
        (try simp only [Act.put,pu]);refine tkN 28 rfl hS ?_
        (try simp only [Act.put,pu]);refine tkN 29 rfl hS ?_
        (try simp only [Act.put,pu]);refine tkN 30 rfl hS ?_
        (try simp only [Act.put,pu]);refine tkN 31 rfl hS ?_
        (try simp only [Act.put,pu]);refine tkN 32 rfl hS ?_
        (try simp only [Act.put,pu]);refine tkY 33 ?_ rfl hS ?_ ?_;rotate_left
        ·intro wz hSz;have x0z := bcl hSz HXB0.out HX0.out;have x1z := bcl hSz HXB0.out HX1.out;go_simp;(try simp only [HDa.out,HDb.out,HDc.out,HDc2.out,HDd.out]);all_goals with_reducible rfl
        (try simp only [Act.put,pu]);refine tkY 34 ?_ rfl hS ?_ ?_;rotate_left
        ·intro wz hSz;have x0z := bcl hSz HXB0.out HX0.out;have x1z := bcl hSz HXB0.out HX1.out;go_simp;(try simp only [HDa.out,HDb.out,HDc.out,HDc2.out,HDd.out]);all_goals with_reducible rfl
        (try simp only [Act.put,pu]);refine tkY 35 ?_ rfl hS ?_ ?_;rotate_left
        ·intro wz hSz;have x0z := bcl hSz HXB0.out HX0.out;have x1z := bcl hSz HXB0.out HX1.out;go_simp;(try simp only [HDa.out,HDb.out,HDc.out,HDc2.out,HDd.out]);all_goals with_reducible rfl
        (try simp only [Act.put,pu]);refine tkY 36 ?_ rfl hS ?_ ?_;rotate_left
        ·intro wz hSz;have x0z := bcl hSz HXB0.out HX0.out;have x1z := bcl hSz HXB0.out HX1.out;go_simp;(try simp only [HDa.out,HDb.out,HDc.out,HDc2.out,HDd.out]);all_goals with_reducible rfl
        (try simp only [Act.put,pu]);refine tkY 37 ?_ rfl hS ?_ ?_;rotate_left
        ·intro wz hSz;have x0z := bcl hSz HXB0.out HX0.out;have x1z := bcl hSz HXB0.out HX1.out;go_simp;(try simp only [HDa.out,HDb.out,HDc.out,HDc2.out,HDd.out]);all_goals with_reducible rfl
        (try simp only [Act.put,pu]);refine tkY 38 ?_ rfl hS ?_ ?_;rotate_left
        ·intro wz hSz;have x0z := bcl hSz HXB0.out HX0.out;have x1z := bcl hSz HXB0.out HX1.out;go_simp;(try simp only [HDa.out,HDb.out,HDc.out,HDc2.out,HDd.out]);all_goals with_reducible rfl
        (try simp only [Act.put,pu]);refine tkY 39 ?_ rfl hS ?_ ?_;rotate_left
        ·intro wz hSz;have x0z := bcl hSz HXB0.out HX0.out;have x1z := bcl hSz HXB0.out HX1.out;go_simp;(try simp only [HDa.out,HDb.out,HDc.out,HDc2.out,HDd.out]);all_goals with_reducible rfl
        (try simp only [Act.put,pu]);refine tkY 40 ?_ rfl hS ?_ ?_;rotate_left
        ·intro wz hSz;have x0z := bcl hSz HXB0.out HX0.out;have x1z := bcl hSz HXB0.out HX1.out;go_simp;(try simp only [HDa.out,HDb.out,HDc.out,HDc2.out,HDd.out]);all_goals with_reducible rfl
        (try simp only [Act.put,pu]);refine tkY 41 ?_ rfl hS ?_ ?_;rotate_left
        ·intro wz hSz;have x0z := bcl hSz HXB0.out HX0.out;have x1z := bcl hSz HXB0.out HX1.out;go_simp;(try simp only [HDa.out,HDb.out,HDc.out,HDc2.out,HDd.out]);all_goals with_reducible rfl
        (try simp only [Act.put,pu]);refine tkY 42 ?_ rfl hS ?_ ?_;rotate_left
        ·intro wz hSz;have x0z := bcl hSz HXB0.out HX0.out;have x1z := bcl hSz HXB0.out HX1.out;go_simp;(try simp only [HDa.out,HDb.out,HDc.out,HDc2.out,HDd.out]);all_goals with_reducible rfl
        (try simp only [Act.put,pu]);refine tkY 43 ?_ rfl hS ?_ ?_;rotate_left
        ·intro wz hSz;have x0z := bcl hSz HXB0.out HX0.out;have x1z := bcl hSz HXB0.out HX1.out;go_simp;(try simp only [HDa.out,HDb.out,HDc.out,HDc2.out,HDd.out]);all_goals with_reducible rfl
        try simp only [Act.put,pu]
        refine wpAnyH_done (by kernel_rfl) ?_ _
        have HS6 := Lib.hid hS
        have HBX := Lib.hid (HB.out.trans (hS.mono HB.out.size))
        clear hS
        go_wp2_with fail
        go_loopg [4] rs.length (fun gk u4 wx => ∃ k : Nat,u4 = .int .i64 (k : Int) ∧ k + gk = rs.length ∧ Below w.heap.size w wx ∧ (rowsGo rs gk k && tabsGo s gko i1) = R)
        case atStart => exact ⟨0,rfl,by omega,HBX.out,HRR.out⟩
        case round =>
         obtain ⟨k,rfl,hk,hB2,hr2⟩ := hrel
         have HB2 := Lib.hid hB2
         have HKK := Lib.hid hk
         obtain ⟨b',o',cp',he',_,hx'⟩ := (HH.out.below hB2).inv (by have := HI.out; omega)
         injection he' with ea' _ ec'
         injection ea' with ea'
         injection ea' with eb eo _
         subst eb eo ec'
         obtain ⟨x0',u',x1',hu'⟩ := hx' i (n,rs) HSI.out
         obtain ⟨ua,ucap,rfl⟩ := hu'.form
         cases gk with
         | zero =>
          have l2 : ¬ ((k : Int) < (rs.length : Int)) := by omega
          have HRN := Lib.hid (show tabsGo s gko i1 = R by rw [← hr2]; rfl)
          clear hk hB2 hr2 hx' hu'
          go_wp2
          go_roundg gko
          case measure => exact Nat.lt_succ_self _
          case rel => exact ⟨i1,rfl,by have := HI1.out; have := HI.out; omega,HB2.out,HRN.out⟩
         | succ gk =>
          have hkl : k < rs.length := by omega
          obtain ⟨rb,ro,rcap,hre,_,hrx⟩ := hu'.inv (by show 0 < rs.length; omega)
          injection hre with e1 _ e3
          subst e1 e3
          obtain ⟨r,hr0⟩ : ∃ r,rs[k] = r := ⟨_,rfl⟩
          have hrk : rs[k]? = some r := by rw [List.getElem?_eq_getElem hkl,hr0]
          obtain ⟨q0,q1⟩ := hrx k r hrk
          have hra2 : rowAt rs k = ((k == 0 || (match rs[k - 1]? with | some q => decide (q.1 < r.1) | none => true)) && (inN r.1 && inN r.2)) := by
           unfold rowAt; rw [hrk]; all_goals rfl
          have hpre2 : k ≠ 0 → ∃ (j : Nat) (pk pv : Int),j + 1 = k ∧ rs[k - 1]? = some (pk,pv) ∧ wr.cell? ⟨rb,ro + j * 2,none⟩ = some (.int .i64 pk) := fun hk0 => by
           have hj : rs[k - 1]? = some rs[k - 1] := List.getElem?_eq_getElem (by omega)
           exact ⟨k - 1,_,_,by omega,hj,(hrx (k - 1) _ hj).1⟩
          rw [rowsGo,hra2] at hr2
          obtain ⟨r0,r1⟩ := r
          simp only at q0 q1 hr2 hpre2
          have lk0 : (0 : Int) ≤ (k : Int) := by omega
          have lk1 : (k : Int) < (rs.length : Int) := by omega
          obtain ⟨k1,hk1⟩ : ∃ k1,k + 1 = k1 := ⟨_,rfl⟩
          have wk2 : IntKind.i64.wrap ((k : Int) + 1) = (k1 : Int) := by rw [show (k : Int) + 1 = (k1 : Int) by omega]; exact IntWalk.i64_in _ (by have := HFS.out.2; omega)
          rw [hk1] at hr2
          have HK1 := Lib.hid hk1
          have HQB := Lib.hid (World.block_lt_of_cell? _ _ q0)
          have HXB' := Lib.hid (World.block_lt_of_cell? _ _ x1')
          have HX1' := Lib.hid x1'
          have HR2 := Lib.hid hr2
          have HPR2 := Lib.hid hpre2
          clear hk hB2 hx' hu' hkl hrx hr0 hrk hra2 hk1 hr2 hpre2 x0'
          go_wp2_with fail
          obtain ⟨g5,hg5⟩ : ∃ g5,wr.heap.size = g5 := ⟨_,rfl⟩
          obtain ⟨W5,hW5⟩ : ∃ W5,wr.alloc (.cells #[.int .i64 r0,.int .i64 r1] 65) = W5 := ⟨_,rfl⟩
          have b5 : Below wr.heap.size wr W5 := by rw [← hW5]; exact (Below.refl _ _).alloc (Nat.le_refl _) _
          have k5 : Blk W5 g5 65 #[.int .i64 r0,.int .i64 r1] := by rw [← hW5]; exact Blk.newAt _ _ _ _ hg5
          rw [hW5,hg5]
          have HB5 := Lib.hid (HB2.out.trans (b5.mono HB2.out.size))
          have HK5 := Lib.hid k5
          have HX15 := Lib.hid ((b5.cell (p := ⟨b,o + i * 2 + 1,none⟩) HXB'.out).trans HX1'.out)
          have HXB5 := Lib.hid (Nat.lt_of_lt_of_le HXB'.out b5.size)
          have HPB := Lib.hid (Nat.lt_of_lt_of_le HQB.out b5.size)
          have HP5 := Lib.hid (fun hk0 => by
           obtain ⟨j,pk,pv,h1,h2,h3⟩ := HPR2.out hk0
           exact (⟨j,pk,pv,h1,h2,(b5.cell (p := ⟨rb,ro + j * 2,none⟩) HQB.out).trans h3⟩ : ∃ (j : Nat) (pk pv : Int),j + 1 = k ∧ rs[k - 1]? = some (pk,pv) ∧ W5.cell? ⟨rb,ro + j * 2,none⟩ = some (.int .i64 pk)))
          clear hW5 hg5 b5 k5 x1' q0 q1
          cases hin0 : inN r0 with
          | false =>
           have HRF : Hid (R = false) := Lib.hid (by have := HR2.out; rw [hin0] at this; simpa using this.symm)
           refine wp_region_held_drew (S := (fun w' => Below W5.heap.size W5 w')) (by kernel_rfl) ?_ (fun hS => ?_)
           ·exact (Below.refl _ _).drew
           try dsimp only at hS
           refine tkY 0 ?_ rfl hS ?_ ?_;rotate_left
           ·intro wz hSz;obtain ⟨yk,yv⟩ := bk2 HK5.out hSz;have x1z := bcl hSz HXB5.out HX15.out;go_simp;(try simp only [HDa.out,HDb.out,HDc.out,HDc2.out,HDd.out]);all_goals with_reducible rfl
           (try simp only [Act.put,pu]);refine tkY 1 ?_ rfl hS ?_ ?_;rotate_left
           ·intro wz hSz;obtain ⟨yk,yv⟩ := bk2 HK5.out hSz;have x1z := bcl hSz HXB5.out HX15.out;go_simp;(try simp only [HDa.out,HDb.out,HDc.out,HDc2.out,HDd.out]);all_goals with_reducible rfl
           try simp only [Act.put,pu]
           refine wpAnyH_ready (rs := [2]) (by kernel_rfl) (by simp) (AllReadyH.cons rfl (fun K' hK => ?_) AllReadyH.nil)
           go_simp
           refine (rinnB r0 false hin0 _).mono ?_; rintro e w7 ⟨rfl,hbq⟩
           refine hK.out _ _ ?_ (fun hSn => ?_)
           ·exact hS.trans (hbq.mono hS.size)
           clear hK K' hS hbq
           have hS := hSn
           clear hSn
           try dsimp only at hS
           (try simp only [Act.put,pu]);refine tkY 3 ?_ rfl hS ?_ ?_;rotate_left
           ·intro wz hSz;obtain ⟨yk,yv⟩ := bk2 HK5.out hSz;have x1z := bcl hSz HXB5.out HX15.out;go_simp;(try simp only [HDa.out,HDb.out,HDc.out,HDc2.out,HDd.out]);all_goals with_reducible rfl
           (try simp only [Act.put,pu]);refine tkY 4 ?_ rfl hS ?_ ?_;rotate_left
           ·intro wz hSz;obtain ⟨yk,yv⟩ := bk2 HK5.out hSz;have x1z := bcl hSz HXB5.out HX15.out;go_simp;(try simp only [HDa.out,HDb.out,HDc.out,HDc2.out,HDd.out]);all_goals with_reducible rfl
           (try simp only [Act.put,pu]);refine tkN 5 rfl hS ?_
           (try simp only [Act.put,pu]);refine tkN 6 rfl hS ?_
           (try simp only [Act.put,pu]);refine tkN 7 rfl hS ?_
           (try simp only [Act.put,pu]);refine tkN 8 rfl hS ?_
           (try simp only [Act.put,pu]);refine tkY 9 ?_ rfl hS ?_ ?_;rotate_left
           ·intro wz hSz;obtain ⟨yk,yv⟩ := bk2 HK5.out hSz;have x1z := bcl hSz HXB5.out HX15.out;go_simp;(try simp only [HDa.out,HDb.out,HDc.out,HDc2.out,HDd.out]);all_goals with_reducible rfl
           (try simp only [Act.put,pu]);refine tkY 10 ?_ rfl hS ?_ ?_;rotate_left
           ·intro wz hSz;obtain ⟨yk,yv⟩ := bk2 HK5.out hSz;have x1z := bcl hSz HXB5.out HX15.out;go_simp;(try simp only [HDa.out,HDb.out,HDc.out,HDc2.out,HDd.out]);all_goals with_reducible rfl
           (try simp only [Act.put,pu]);refine tkN 11 rfl hS ?_
           (try simp only [Act.put,pu]);refine tkN 12 rfl hS ?_
           (try simp only [Act.put,pu]);refine tkN 13 rfl hS ?_
           (try simp only [Act.put,pu]);refine tkN 14 rfl hS ?_
           (try simp only [Act.put,pu]);refine tkN 15 rfl hS ?_
           (try simp only [Act.put,pu]);refine tkN 16 rfl hS ?_
           (try simp only [Act.put,pu]);refine tkN 17 rfl hS ?_
           (try simp only [Act.put,pu]);refine tkN 18 rfl hS ?_
           (try simp only [Act.put,pu]);refine tkN 19 rfl hS ?_
           (try simp only [Act.put,pu]);refine tkN 20 rfl hS ?_
           (try simp only [Act.put,pu]);refine tkN 21 rfl hS ?_
           (try simp only [Act.put,pu]);refine tkN 22 rfl hS ?_
           (try simp only [Act.put,pu]);refine tkN 23 rfl hS ?_
           (try simp only [Act.put,pu]);refine tkN 24 rfl hS ?_
           (try simp only [Act.put,pu]);refine tkN 25 rfl hS ?_
           (try simp only [Act.put,pu]);refine tkN 26 rfl hS ?_
           (try simp only [Act.put,pu]);refine tkN 27 rfl hS ?_
           (try simp only [Act.put,pu]);refine tkY 28 ?_ rfl hS ?_ ?_;rotate_left
           ·intro wz hSz;obtain ⟨yk,yv⟩ := bk2 HK5.out hSz;have x1z := bcl hSz HXB5.out HX15.out;go_simp;(try simp only [HDa.out,HDb.out,HDc.out,HDc2.out,HDd.out]);all_goals with_reducible rfl
           try simp only [Act.put,pu]
           refine wpAnyH_done (by kernel_rfl) ?_ _
           have HS := Lib.hid hS
           clear hS
           go_wp2
           go_ret
           exact ⟨by rw [HRF.out]; rfl,HB5.out.trans (HS.out.mono HB5.out.size)⟩
          | true =>
           cases hin1 : inN r1 with
           | false =>
            have HRF : Hid (R = false) := Lib.hid (by have := HR2.out; rw [hin0,hin1] at this; simpa using this.symm)
            refine wp_region_held_drew (S := (fun w' => Below W5.heap.size W5 w')) (by kernel_rfl) ?_ (fun hS => ?_)
            ·exact (Below.refl _ _).drew
            try dsimp only at hS
            refine tkY 0 ?_ rfl hS ?_ ?_;rotate_left
            ·intro wz hSz;obtain ⟨yk,yv⟩ := bk2 HK5.out hSz;have x1z := bcl hSz HXB5.out HX15.out;go_simp;(try simp only [HDa.out,HDb.out,HDc.out,HDc2.out,HDd.out]);all_goals with_reducible rfl
            (try simp only [Act.put,pu]);refine tkY 1 ?_ rfl hS ?_ ?_;rotate_left
            ·intro wz hSz;obtain ⟨yk,yv⟩ := bk2 HK5.out hSz;have x1z := bcl hSz HXB5.out HX15.out;go_simp;(try simp only [HDa.out,HDb.out,HDc.out,HDc2.out,HDd.out]);all_goals with_reducible rfl
            try simp only [Act.put,pu]
            refine wpAnyH_ready (rs := [2]) (by kernel_rfl) (by simp) (AllReadyH.cons rfl (fun K' hK => ?_) AllReadyH.nil)
            go_simp
            refine (rinnB r0 true hin0 _).mono ?_; rintro e w7 ⟨rfl,hbq⟩
            refine hK.out _ _ ?_ (fun hSn => ?_)
            ·exact hS.trans (hbq.mono hS.size)
            clear hK K' hS hbq
            have hS := hSn
            clear hSn
            try dsimp only at hS
            (try simp only [Act.put,pu]);refine tkY 3 ?_ rfl hS ?_ ?_;rotate_left
            ·intro wz hSz;obtain ⟨yk,yv⟩ := bk2 HK5.out hSz;have x1z := bcl hSz HXB5.out HX15.out;go_simp;(try simp only [HDa.out,HDb.out,HDc.out,HDc2.out,HDd.out]);all_goals with_reducible rfl
            (try simp only [Act.put,pu]);refine tkY 4 ?_ rfl hS ?_ ?_;rotate_left
            ·intro wz hSz;obtain ⟨yk,yv⟩ := bk2 HK5.out hSz;have x1z := bcl hSz HXB5.out HX15.out;go_simp;(try simp only [HDa.out,HDb.out,HDc.out,HDc2.out,HDd.out]);all_goals with_reducible rfl
            (try simp only [Act.put,pu]);refine tkY 5 ?_ rfl hS ?_ ?_;rotate_left
            ·intro wz hSz;obtain ⟨yk,yv⟩ := bk2 HK5.out hSz;have x1z := bcl hSz HXB5.out HX15.out;go_simp;(try simp only [HDa.out,HDb.out,HDc.out,HDc2.out,HDd.out]);all_goals with_reducible rfl
            (try simp only [Act.put,pu]);refine tkY 6 ?_ rfl hS ?_ ?_;rotate_left
            ·intro wz hSz;obtain ⟨yk,yv⟩ := bk2 HK5.out hSz;have x1z := bcl hSz HXB5.out HX15.out;go_simp;(try simp only [HDa.out,HDb.out,HDc.out,HDc2.out,HDd.out]);all_goals with_reducible rfl
            try simp only [Act.put,pu]
            refine wpAnyH_ready (rs := [7]) (by kernel_rfl) (by simp) (AllReadyH.cons rfl (fun K' hK => ?_) AllReadyH.nil)
            go_simp
            refine (rinnB r1 false hin1 _).mono ?_; rintro e w8 ⟨rfl,hbq⟩
            refine hK.out _ _ ?_ (fun hSn => ?_)
            ·exact hS.trans (hbq.mono hS.size)
            clear hK K' hS hbq
            have hS := hSn
            clear hSn
            try dsimp only at hS
            (try simp only [Act.put,pu]);refine tkY 8 ?_ rfl hS ?_ ?_;rotate_left
            ·intro wz hSz;obtain ⟨yk,yv⟩ := bk2 HK5.out hSz;have x1z := bcl hSz HXB5.out HX15.out;go_simp;(try simp only [HDa.out,HDb.out,HDc.out,HDc2.out,HDd.out]);all_goals with_reducible rfl
            (try simp only [Act.put,pu]);refine tkY 9 ?_ rfl hS ?_ ?_;rotate_left
            ·intro wz hSz;obtain ⟨yk,yv⟩ := bk2 HK5.out hSz;have x1z := bcl hSz HXB5.out HX15.out;go_simp;(try simp only [HDa.out,HDb.out,HDc.out,HDc2.out,HDd.out]);all_goals with_reducible rfl
            (try simp only [Act.put,pu]);refine tkY 10 ?_ rfl hS ?_ ?_;rotate_left
            ·intro wz hSz;obtain ⟨yk,yv⟩ := bk2 HK5.out hSz;have x1z := bcl hSz HXB5.out HX15.out;go_simp;(try simp only [HDa.out,HDb.out,HDc.out,HDc2.out,HDd.out]);all_goals with_reducible rfl
            (try simp only [Act.put,pu]);refine tkN 11 rfl hS ?_
            (try simp only [Act.put,pu]);refine tkN 12 rfl hS ?_
            (try simp only [Act.put,pu]);refine tkN 13 rfl hS ?_
            (try simp only [Act.put,pu]);refine tkN 14 rfl hS ?_
            (try simp only [Act.put,pu]);refine tkN 15 rfl hS ?_
            (try simp only [Act.put,pu]);refine tkN 16 rfl hS ?_
            (try simp only [Act.put,pu]);refine tkN 17 rfl hS ?_
            (try simp only [Act.put,pu]);refine tkN 18 rfl hS ?_
            (try simp only [Act.put,pu]);refine tkN 19 rfl hS ?_
            (try simp only [Act.put,pu]);refine tkN 20 rfl hS ?_
            (try simp only [Act.put,pu]);refine tkN 21 rfl hS ?_
            (try simp only [Act.put,pu]);refine tkN 22 rfl hS ?_
            (try simp only [Act.put,pu]);refine tkN 23 rfl hS ?_
            (try simp only [Act.put,pu]);refine tkN 24 rfl hS ?_
            (try simp only [Act.put,pu]);refine tkN 25 rfl hS ?_
            (try simp only [Act.put,pu]);refine tkN 26 rfl hS ?_
            (try simp only [Act.put,pu]);refine tkN 27 rfl hS ?_
            (try simp only [Act.put,pu]);refine tkY 28 ?_ rfl hS ?_ ?_;rotate_left
            ·intro wz hSz;obtain ⟨yk,yv⟩ := bk2 HK5.out hSz;have x1z := bcl hSz HXB5.out HX15.out;go_simp;(try simp only [HDa.out,HDb.out,HDc.out,HDc2.out,HDd.out]);all_goals with_reducible rfl
            try simp only [Act.put,pu]
            refine wpAnyH_done (by kernel_rfl) ?_ _
            have HS := Lib.hid hS
            clear hS
            go_wp2
            go_ret
            exact ⟨by rw [HRF.out]; rfl,HB5.out.trans (HS.out.mono HB5.out.size)⟩
           | true =>
            by_cases hk0 : k = 0
            ·have lkz : ¬ ((0 : Int) < (k : Int)) := by omega
             have HDb := Lib.hid (show decide ((0 : Int) < (k : Int)) = false from decide_eq_false lkz)
             have HDc := Lib.hid (show decide (0 < k) = false from decide_eq_false (by omega))
             have HRN := Lib.hid (show (rowsGo rs gk k1 && tabsGo s gko i1) = R by have := HR2.out; rw [hin0,hin1,hk0] at this; simpa using this)
             clear hk0
             refine wp_region_held_drew (S := (fun w' => Below W5.heap.size W5 w')) (by kernel_rfl) ?_ (fun hS => ?_)
             ·exact (Below.refl _ _).drew
             try dsimp only at hS
             refine tkY 0 ?_ rfl hS ?_ ?_;rotate_left
             ·intro wz hSz;obtain ⟨yk,yv⟩ := bk2 HK5.out hSz;have x1z := bcl hSz HXB5.out HX15.out;go_simp;(try simp only [HDa.out,HDb.out,HDc.out,HDc2.out,HDd.out]);all_goals with_reducible rfl
             (try simp only [Act.put,pu]);refine tkY 1 ?_ rfl hS ?_ ?_;rotate_left
             ·intro wz hSz;obtain ⟨yk,yv⟩ := bk2 HK5.out hSz;have x1z := bcl hSz HXB5.out HX15.out;go_simp;(try simp only [HDa.out,HDb.out,HDc.out,HDc2.out,HDd.out]);all_goals with_reducible rfl
             try simp only [Act.put,pu]
             refine wpAnyH_ready (rs := [2]) (by kernel_rfl) (by simp) (AllReadyH.cons rfl (fun K' hK => ?_) AllReadyH.nil)
             go_simp
             refine (rinnB r0 true hin0 _).mono ?_; rintro e w7 ⟨rfl,hbq⟩
             refine hK.out _ _ ?_ (fun hSn => ?_)
             ·exact hS.trans (hbq.mono hS.size)
             clear hK K' hS hbq
             have hS := hSn
             clear hSn
             try dsimp only at hS
             (try simp only [Act.put,pu]);refine tkY 3 ?_ rfl hS ?_ ?_;rotate_left
             ·intro wz hSz;obtain ⟨yk,yv⟩ := bk2 HK5.out hSz;have x1z := bcl hSz HXB5.out HX15.out;go_simp;(try simp only [HDa.out,HDb.out,HDc.out,HDc2.out,HDd.out]);all_goals with_reducible rfl
             (try simp only [Act.put,pu]);refine tkY 4 ?_ rfl hS ?_ ?_;rotate_left
             ·intro wz hSz;obtain ⟨yk,yv⟩ := bk2 HK5.out hSz;have x1z := bcl hSz HXB5.out HX15.out;go_simp;(try simp only [HDa.out,HDb.out,HDc.out,HDc2.out,HDd.out]);all_goals with_reducible rfl
             (try simp only [Act.put,pu]);refine tkY 5 ?_ rfl hS ?_ ?_;rotate_left
             ·intro wz hSz;obtain ⟨yk,yv⟩ := bk2 HK5.out hSz;have x1z := bcl hSz HXB5.out HX15.out;go_simp;(try simp only [HDa.out,HDb.out,HDc.out,HDc2.out,HDd.out]);all_goals with_reducible rfl
             (try simp only [Act.put,pu]);refine tkY 6 ?_ rfl hS ?_ ?_;rotate_left
             ·intro wz hSz;obtain ⟨yk,yv⟩ := bk2 HK5.out hSz;have x1z := bcl hSz HXB5.out HX15.out;go_simp;(try simp only [HDa.out,HDb.out,HDc.out,HDc2.out,HDd.out]);all_goals with_reducible rfl
             try simp only [Act.put,pu]
             refine wpAnyH_ready (rs := [7]) (by kernel_rfl) (by simp) (AllReadyH.cons rfl (fun K' hK => ?_) AllReadyH.nil)
             go_simp
             refine (rinnB r1 true hin1 _).mono ?_; rintro e w8 ⟨rfl,hbq⟩
             refine hK.out _ _ ?_ (fun hSn => ?_)
             ·exact hS.trans (hbq.mono hS.size)
             clear hK K' hS hbq
             have hS := hSn
             clear hSn
             try dsimp only at hS
             (try simp only [Act.put,pu]);refine tkY 8 ?_ rfl hS ?_ ?_;rotate_left
             ·intro wz hSz;obtain ⟨yk,yv⟩ := bk2 HK5.out hSz;have x1z := bcl hSz HXB5.out HX15.out;go_simp;(try simp only [HDa.out,HDb.out,HDc.out,HDc2.out,HDd.out]);all_goals with_reducible rfl
             (try simp only [Act.put,pu]);refine tkY 9 ?_ rfl hS ?_ ?_;rotate_left
             ·intro wz hSz;obtain ⟨yk,yv⟩ := bk2 HK5.out hSz;have x1z := bcl hSz HXB5.out HX15.out;go_simp;(try simp only [HDa.out,HDb.out,HDc.out,HDc2.out,HDd.out]);all_goals with_reducible rfl
             (try simp only [Act.put,pu]);refine tkY 10 ?_ rfl hS ?_ ?_;rotate_left
             ·intro wz hSz;obtain ⟨yk,yv⟩ := bk2 HK5.out hSz;have x1z := bcl hSz HXB5.out HX15.out;go_simp;(try simp only [HDa.out,HDb.out,HDc.out,HDc2.out,HDd.out]);all_goals with_reducible rfl
             (try simp only [Act.put,pu]);refine tkY 11 ?_ rfl hS ?_ ?_;rotate_left
             ·intro wz hSz;obtain ⟨yk,yv⟩ := bk2 HK5.out hSz;have x1z := bcl hSz HXB5.out HX15.out;go_simp;(try simp only [HDa.out,HDb.out,HDc.out,HDc2.out,HDd.out]);all_goals with_reducible rfl
             (try simp only [Act.put,pu]);refine tkY 12 ?_ rfl hS ?_ ?_;rotate_left
             ·intro wz hSz;obtain ⟨yk,yv⟩ := bk2 HK5.out hSz;have x1z := bcl hSz HXB5.out HX15.out;go_simp;(try simp only [HDa.out,HDb.out,HDc.out,HDc2.out,HDd.out]);all_goals with_reducible rfl
             (try simp only [Act.put,pu]);refine tkY 13 ?_ rfl hS ?_ ?_;rotate_left
             ·intro wz hSz;obtain ⟨yk,yv⟩ := bk2 HK5.out hSz;have x1z := bcl hSz HXB5.out HX15.out;go_simp;(try simp only [HDa.out,HDb.out,HDc.out,HDc2.out,HDd.out]);all_goals with_reducible rfl
             (try simp only [Act.put,pu]);refine tkN 14 rfl hS ?_
             (try simp only [Act.put,pu]);refine tkN 15 rfl hS ?_
             (try simp only [Act.put,pu]);refine tkN 16 rfl hS ?_
             (try simp only [Act.put,pu]);refine tkN 17 rfl hS ?_
             (try simp only [Act.put,pu]);refine tkN 18 rfl hS ?_
             (try simp only [Act.put,pu]);refine tkN 19 rfl hS ?_
             (try simp only [Act.put,pu]);refine tkN 20 rfl hS ?_
             (try simp only [Act.put,pu]);refine tkN 21 rfl hS ?_
             (try simp only [Act.put,pu]);refine tkN 22 rfl hS ?_
             (try simp only [Act.put,pu]);refine tkN 23 rfl hS ?_
             (try simp only [Act.put,pu]);refine tkN 24 rfl hS ?_
             (try simp only [Act.put,pu]);refine tkN 25 rfl hS ?_
             (try simp only [Act.put,pu]);refine tkN 26 rfl hS ?_
             (try simp only [Act.put,pu]);refine tkY 27 ?_ rfl hS ?_ ?_;rotate_left
             ·intro wz hSz;obtain ⟨yk,yv⟩ := bk2 HK5.out hSz;have x1z := bcl hSz HXB5.out HX15.out;go_simp;(try simp only [HDa.out,HDb.out,HDc.out,HDc2.out,HDd.out]);all_goals with_reducible rfl
             (try simp only [Act.put,pu]);refine tkY 28 ?_ rfl hS ?_ ?_;rotate_left
             ·intro wz hSz;obtain ⟨yk,yv⟩ := bk2 HK5.out hSz;have x1z := bcl hSz HXB5.out HX15.out;go_simp;(try simp only [HDa.out,HDb.out,HDc.out,HDc2.out,HDd.out]);all_goals with_reducible rfl
             try simp only [Act.put,pu]
             refine wpAnyH_done (by kernel_rfl) ?_ _
             have HS := Lib.hid hS
             clear hS
             go_wp2
             go_roundg gk
             case measure => exact Nat.lt_succ_self _
             case rel => exact ⟨k1,rfl,by have := HK1.out; have := HKK.out; omega,HB5.out.trans (HS.out.mono HB5.out.size),HRN.out⟩
            ·have lkz : (0 : Int) < (k : Int) := by omega
             have lkzn : 0 < k := by omega
             have HDb := Lib.hid (show decide ((0 : Int) < (k : Int)) = true from decide_eq_true lkz)
             have HDc := Lib.hid (show decide (0 < k) = true from decide_eq_true lkzn)
             obtain ⟨j,pk,pv,hj1,hj2,hj3⟩ := HP5.out hk0
             have HP0 := Lib.hid hj3
             have wm : IntKind.i64.wrap ((k : Int) - 1) = (j : Int) := by rw [show (k : Int) - 1 = (j : Int) by omega]; exact IntWalk.i64_in _ (by have := HFS.out.2; omega)
             have lj0 : (0 : Int) ≤ (j : Int) := by omega
             have lj1 : (j : Int) < (rs.length : Int) := by omega
             have hkb : (k == 0) = false := beq_eq_false_iff_ne.2 hk0
             by_cases hlt : pk < r0
             ·have lpk : ¬ (r0 ≤ pk) := by omega
              have HDd := Lib.hid (show decide (r0 ≤ pk) = false from decide_eq_false lpk)
              have HRN := Lib.hid (show (rowsGo rs gk k1 && tabsGo s gko i1) = R by have := HR2.out; rw [hin0,hin1,hj2,hkb] at this; simpa [hlt] using this)
              clear hk0 hj1 hj2 hj3 hkb hlt
              refine wp_region_held_drew (S := (fun w' => Below W5.heap.size W5 w')) (by kernel_rfl) ?_ (fun hS => ?_)
              ·exact (Below.refl _ _).drew
              try dsimp only at hS
              refine tkY 0 ?_ rfl hS ?_ ?_;rotate_left
              ·intro wz hSz;obtain ⟨yk,yv⟩ := bk2 HK5.out hSz;have x1z := bcl hSz HXB5.out HX15.out;have p0z := bcl hSz HPB.out HP0.out;go_simp;(try simp only [HDa.out,HDb.out,HDc.out,HDc2.out,HDd.out]);all_goals with_reducible rfl
              (try simp only [Act.put,pu]);refine tkY 1 ?_ rfl hS ?_ ?_;rotate_left
              ·intro wz hSz;obtain ⟨yk,yv⟩ := bk2 HK5.out hSz;have x1z := bcl hSz HXB5.out HX15.out;have p0z := bcl hSz HPB.out HP0.out;go_simp;(try simp only [HDa.out,HDb.out,HDc.out,HDc2.out,HDd.out]);all_goals with_reducible rfl
              try simp only [Act.put,pu]
              refine wpAnyH_ready (rs := [2]) (by kernel_rfl) (by simp) (AllReadyH.cons rfl (fun K' hK => ?_) AllReadyH.nil)
              go_simp
              refine (rinnB r0 true hin0 _).mono ?_; rintro e w7 ⟨rfl,hbq⟩
              refine hK.out _ _ ?_ (fun hSn => ?_)
              ·exact hS.trans (hbq.mono hS.size)
              clear hK K' hS hbq
              have hS := hSn
              clear hSn
              try dsimp only at hS
              (try simp only [Act.put,pu]);refine tkY 3 ?_ rfl hS ?_ ?_;rotate_left
              ·intro wz hSz;obtain ⟨yk,yv⟩ := bk2 HK5.out hSz;have x1z := bcl hSz HXB5.out HX15.out;have p0z := bcl hSz HPB.out HP0.out;go_simp;(try simp only [HDa.out,HDb.out,HDc.out,HDc2.out,HDd.out]);all_goals with_reducible rfl
              (try simp only [Act.put,pu]);refine tkY 4 ?_ rfl hS ?_ ?_;rotate_left
              ·intro wz hSz;obtain ⟨yk,yv⟩ := bk2 HK5.out hSz;have x1z := bcl hSz HXB5.out HX15.out;have p0z := bcl hSz HPB.out HP0.out;go_simp;(try simp only [HDa.out,HDb.out,HDc.out,HDc2.out,HDd.out]);all_goals with_reducible rfl
              (try simp only [Act.put,pu]);refine tkY 5 ?_ rfl hS ?_ ?_;rotate_left
              ·intro wz hSz;obtain ⟨yk,yv⟩ := bk2 HK5.out hSz;have x1z := bcl hSz HXB5.out HX15.out;have p0z := bcl hSz HPB.out HP0.out;go_simp;(try simp only [HDa.out,HDb.out,HDc.out,HDc2.out,HDd.out]);all_goals with_reducible rfl
              (try simp only [Act.put,pu]);refine tkY 6 ?_ rfl hS ?_ ?_;rotate_left
              ·intro wz hSz;obtain ⟨yk,yv⟩ := bk2 HK5.out hSz;have x1z := bcl hSz HXB5.out HX15.out;have p0z := bcl hSz HPB.out HP0.out;go_simp;(try simp only [HDa.out,HDb.out,HDc.out,HDc2.out,HDd.out]);all_goals with_reducible rfl
              try simp only [Act.put,pu]
              refine wpAnyH_ready (rs := [7]) (by kernel_rfl) (by simp) (AllReadyH.cons rfl (fun K' hK => ?_) AllReadyH.nil)
              go_simp
              refine (rinnB r1 true hin1 _).mono ?_; rintro e w8 ⟨rfl,hbq⟩
              refine hK.out _ _ ?_ (fun hSn => ?_)
              ·exact hS.trans (hbq.mono hS.size)
              clear hK K' hS hbq
              have hS := hSn
              clear hSn
              try dsimp only at hS
              (try simp only [Act.put,pu]);refine tkY 8 ?_ rfl hS ?_ ?_;rotate_left
              ·intro wz hSz;obtain ⟨yk,yv⟩ := bk2 HK5.out hSz;have x1z := bcl hSz HXB5.out HX15.out;have p0z := bcl hSz HPB.out HP0.out;go_simp;(try simp only [HDa.out,HDb.out,HDc.out,HDc2.out,HDd.out]);all_goals with_reducible rfl
              (try simp only [Act.put,pu]);refine tkY 9 ?_ rfl hS ?_ ?_;rotate_left
              ·intro wz hSz;obtain ⟨yk,yv⟩ := bk2 HK5.out hSz;have x1z := bcl hSz HXB5.out HX15.out;have p0z := bcl hSz HPB.out HP0.out;go_simp;(try simp only [HDa.out,HDb.out,HDc.out,HDc2.out,HDd.out]);all_goals with_reducible rfl
              (try simp only [Act.put,pu]);refine tkY 10 ?_ rfl hS ?_ ?_;rotate_left
              ·intro wz hSz;obtain ⟨yk,yv⟩ := bk2 HK5.out hSz;have x1z := bcl hSz HXB5.out HX15.out;have p0z := bcl hSz HPB.out HP0.out;go_simp;(try simp only [HDa.out,HDb.out,HDc.out,HDc2.out,HDd.out]);all_goals with_reducible rfl
              (try simp only [Act.put,pu]);refine tkY 11 ?_ rfl hS ?_ ?_;rotate_left
              ·intro wz hSz;obtain ⟨yk,yv⟩ := bk2 HK5.out hSz;have x1z := bcl hSz HXB5.out HX15.out;have p0z := bcl hSz HPB.out HP0.out;go_simp;(try simp only [HDa.out,HDb.out,HDc.out,HDc2.out,HDd.out]);all_goals with_reducible rfl
              (try simp only [Act.put,pu]);refine tkY 12 ?_ rfl hS ?_ ?_;rotate_left
              ·intro wz hSz;obtain ⟨yk,yv⟩ := bk2 HK5.out hSz;have x1z := bcl hSz HXB5.out HX15.out;have p0z := bcl hSz HPB.out HP0.out;go_simp;(try simp only [HDa.out,HDb.out,HDc.out,HDc2.out,HDd.out]);all_goals with_reducible rfl
              (try simp only [Act.put,pu]);refine tkY 13 ?_ rfl hS ?_ ?_;rotate_left
              ·intro wz hSz;obtain ⟨yk,yv⟩ := bk2 HK5.out hSz;have x1z := bcl hSz HXB5.out HX15.out;have p0z := bcl hSz HPB.out HP0.out;go_simp;(try simp only [HDa.out,HDb.out,HDc.out,HDc2.out,HDd.out]);all_goals with_reducible rfl
              (try simp only [Act.put,pu]);refine tkY 14 ?_ rfl hS ?_ ?_;rotate_left
              ·intro wz hSz;obtain ⟨yk,yv⟩ := bk2 HK5.out hSz;have x1z := bcl hSz HXB5.out HX15.out;have p0z := bcl hSz HPB.out HP0.out;go_simp;(try simp only [HDa.out,HDb.out,HDc.out,HDc2.out,HDd.out]);all_goals with_reducible rfl
              (try simp only [Act.put,pu]);refine tkY 15 ?_ rfl hS ?_ ?_;rotate_left
              ·intro wz hSz;obtain ⟨yk,yv⟩ := bk2 HK5.out hSz;have x1z := bcl hSz HXB5.out HX15.out;have p0z := bcl hSz HPB.out HP0.out;go_simp;(try simp only [HDa.out,HDb.out,HDc.out,HDc2.out,HDd.out]);all_goals with_reducible rfl
              (try simp only [Act.put,pu]);refine tkY 16 ?_ rfl hS ?_ ?_;rotate_left
              ·intro wz hSz;obtain ⟨yk,yv⟩ := bk2 HK5.out hSz;have x1z := bcl hSz HXB5.out HX15.out;have p0z := bcl hSz HPB.out HP0.out;go_simp;(try simp only [HDa.out,HDb.out,HDc.out,HDc2.out,HDd.out]);all_goals with_reducible rfl
              (try simp only [Act.put,pu]);refine tkY 17 ?_ rfl hS ?_ ?_;rotate_left
              ·intro wz hSz;obtain ⟨yk,yv⟩ := bk2 HK5.out hSz;have x1z := bcl hSz HXB5.out HX15.out;have p0z := bcl hSz HPB.out HP0.out;go_simp;(try simp only [HDa.out,HDb.out,HDc.out,HDc2.out,HDd.out]);all_goals with_reducible rfl
              (try simp only [Act.put,pu]);refine tkY 18 ?_ rfl hS ?_ ?_;rotate_left
              ·intro wz hSz;obtain ⟨yk,yv⟩ := bk2 HK5.out hSz;have x1z := bcl hSz HXB5.out HX15.out;have p0z := bcl hSz HPB.out HP0.out;go_simp;(try simp only [HDa.out,HDb.out,HDc.out,HDc2.out,HDd.out]);all_goals with_reducible rfl
              (try simp only [Act.put,pu]);refine tkY 19 ?_ rfl hS ?_ ?_;rotate_left
              ·intro wz hSz;obtain ⟨yk,yv⟩ := bk2 HK5.out hSz;have x1z := bcl hSz HXB5.out HX15.out;have p0z := bcl hSz HPB.out HP0.out;go_simp;(try simp only [HDa.out,HDb.out,HDc.out,HDc2.out,HDd.out]);all_goals with_reducible rfl
              (try simp only [Act.put,pu]);refine tkY 20 ?_ rfl hS ?_ ?_;rotate_left
              ·intro wz hSz;obtain ⟨yk,yv⟩ := bk2 HK5.out hSz;have x1z := bcl hSz HXB5.out HX15.out;have p0z := bcl hSz HPB.out HP0.out;go_simp;(try simp only [HDa.out,HDb.out,HDc.out,HDc2.out,HDd.out]);all_goals with_reducible rfl
              (try simp only [Act.put,pu]);refine tkY 21 ?_ rfl hS ?_ ?_;rotate_left
              ·intro wz hSz;obtain ⟨yk,yv⟩ := bk2 HK5.out hSz;have x1z := bcl hSz HXB5.out HX15.out;have p0z := bcl hSz HPB.out HP0.out;go_simp;(try simp only [HDa.out,HDb.out,HDc.out,HDc2.out,HDd.out]);all_goals with_reducible rfl
              (try simp only [Act.put,pu]);refine tkY 22 ?_ rfl hS ?_ ?_;rotate_left
              ·intro wz hSz;obtain ⟨yk,yv⟩ := bk2 HK5.out hSz;have x1z := bcl hSz HXB5.out HX15.out;have p0z := bcl hSz HPB.out HP0.out;go_simp;(try simp only [HDa.out,HDb.out,HDc.out,HDc2.out,HDd.out]);all_goals with_reducible rfl
              (try simp only [Act.put,pu]);refine tkY 23 ?_ rfl hS ?_ ?_;rotate_left
              ·intro wz hSz;obtain ⟨yk,yv⟩ := bk2 HK5.out hSz;have x1z := bcl hSz HXB5.out HX15.out;have p0z := bcl hSz HPB.out HP0.out;go_simp;(try simp only [HDa.out,HDb.out,HDc.out,HDc2.out,HDd.out]);all_goals with_reducible rfl
              (try simp only [Act.put,pu]);refine tkY 24 ?_ rfl hS ?_ ?_;rotate_left
              ·intro wz hSz;obtain ⟨yk,yv⟩ := bk2 HK5.out hSz;have x1z := bcl hSz HXB5.out HX15.out;have p0z := bcl hSz HPB.out HP0.out;go_simp;(try simp only [HDa.out,HDb.out,HDc.out,HDc2.out,HDd.out]);all_goals with_reducible rfl
              (try simp only [Act.put,pu]);refine tkY 25 ?_ rfl hS ?_ ?_;rotate_left
              ·intro wz hSz;obtain ⟨yk,yv⟩ := bk2 HK5.out hSz;have x1z := bcl hSz HXB5.out HX15.out;have p0z := bcl hSz HPB.out HP0.out;go_simp;(try simp only [HDa.out,HDb.out,HDc.out,HDc2.out,HDd.out]);all_goals with_reducible rfl
              (try simp only [Act.put,pu]);refine tkY 26 ?_ rfl hS ?_ ?_;rotate_left
              ·intro wz hSz;obtain ⟨yk,yv⟩ := bk2 HK5.out hSz;have x1z := bcl hSz HXB5.out HX15.out;have p0z := bcl hSz HPB.out HP0.out;go_simp;(try simp only [HDa.out,HDb.out,HDc.out,HDc2.out,HDd.out]);all_goals with_reducible rfl
              (try simp only [Act.put,pu]);refine tkY 27 ?_ rfl hS ?_ ?_;rotate_left
              ·intro wz hSz;obtain ⟨yk,yv⟩ := bk2 HK5.out hSz;have x1z := bcl hSz HXB5.out HX15.out;have p0z := bcl hSz HPB.out HP0.out;go_simp;(try simp only [HDa.out,HDb.out,HDc.out,HDc2.out,HDd.out]);all_goals with_reducible rfl
              (try simp only [Act.put,pu]);refine tkY 28 ?_ rfl hS ?_ ?_;rotate_left
              ·intro wz hSz;obtain ⟨yk,yv⟩ := bk2 HK5.out hSz;have x1z := bcl hSz HXB5.out HX15.out;have p0z := bcl hSz HPB.out HP0.out;go_simp;(try simp only [HDa.out,HDb.out,HDc.out,HDc2.out,HDd.out]);all_goals with_reducible rfl
              try simp only [Act.put,pu]
              refine wpAnyH_done (by kernel_rfl) ?_ _
              have HS := Lib.hid hS
              clear hS
              go_wp2
              go_roundg gk
              case measure => exact Nat.lt_succ_self _
              case rel => exact ⟨k1,rfl,by have := HK1.out; have := HKK.out; omega,HB5.out.trans (HS.out.mono HB5.out.size),HRN.out⟩
             ·have lpk : r0 ≤ pk := by omega
              have HDd := Lib.hid (show decide (r0 ≤ pk) = true from decide_eq_true lpk)
              have HRF : Hid (R = false) := Lib.hid (by have := HR2.out; rw [hin0,hin1,hj2,hkb] at this; simpa [hlt] using this.symm)
              clear hk0 hj1 hj2 hj3 hkb hlt
              refine wp_region_held_drew (S := (fun w' => Below W5.heap.size W5 w')) (by kernel_rfl) ?_ (fun hS => ?_)
              ·exact (Below.refl _ _).drew
              try dsimp only at hS
              refine tkY 0 ?_ rfl hS ?_ ?_;rotate_left
              ·intro wz hSz;obtain ⟨yk,yv⟩ := bk2 HK5.out hSz;have x1z := bcl hSz HXB5.out HX15.out;have p0z := bcl hSz HPB.out HP0.out;go_simp;(try simp only [HDa.out,HDb.out,HDc.out,HDc2.out,HDd.out]);all_goals with_reducible rfl
              (try simp only [Act.put,pu]);refine tkY 1 ?_ rfl hS ?_ ?_;rotate_left
              ·intro wz hSz;obtain ⟨yk,yv⟩ := bk2 HK5.out hSz;have x1z := bcl hSz HXB5.out HX15.out;have p0z := bcl hSz HPB.out HP0.out;go_simp;(try simp only [HDa.out,HDb.out,HDc.out,HDc2.out,HDd.out]);all_goals with_reducible rfl
              try simp only [Act.put,pu]
              refine wpAnyH_ready (rs := [2]) (by kernel_rfl) (by simp) (AllReadyH.cons rfl (fun K' hK => ?_) AllReadyH.nil)
              go_simp
              refine (rinnB r0 true hin0 _).mono ?_; rintro e w7 ⟨rfl,hbq⟩
              refine hK.out _ _ ?_ (fun hSn => ?_)
              ·exact hS.trans (hbq.mono hS.size)
              clear hK K' hS hbq
              have hS := hSn
              clear hSn
              try dsimp only at hS
              (try simp only [Act.put,pu]);refine tkY 3 ?_ rfl hS ?_ ?_;rotate_left
              ·intro wz hSz;obtain ⟨yk,yv⟩ := bk2 HK5.out hSz;have x1z := bcl hSz HXB5.out HX15.out;have p0z := bcl hSz HPB.out HP0.out;go_simp;(try simp only [HDa.out,HDb.out,HDc.out,HDc2.out,HDd.out]);all_goals with_reducible rfl
              (try simp only [Act.put,pu]);refine tkY 4 ?_ rfl hS ?_ ?_;rotate_left
              ·intro wz hSz;obtain ⟨yk,yv⟩ := bk2 HK5.out hSz;have x1z := bcl hSz HXB5.out HX15.out;have p0z := bcl hSz HPB.out HP0.out;go_simp;(try simp only [HDa.out,HDb.out,HDc.out,HDc2.out,HDd.out]);all_goals with_reducible rfl
              (try simp only [Act.put,pu]);refine tkY 5 ?_ rfl hS ?_ ?_;rotate_left
              ·intro wz hSz;obtain ⟨yk,yv⟩ := bk2 HK5.out hSz;have x1z := bcl hSz HXB5.out HX15.out;have p0z := bcl hSz HPB.out HP0.out;go_simp;(try simp only [HDa.out,HDb.out,HDc.out,HDc2.out,HDd.out]);all_goals with_reducible rfl
              (try simp only [Act.put,pu]);refine tkY 6 ?_ rfl hS ?_ ?_;rotate_left
              ·intro wz hSz;obtain ⟨yk,yv⟩ := bk2 HK5.out hSz;have x1z := bcl hSz HXB5.out HX15.out;have p0z := bcl hSz HPB.out HP0.out;go_simp;(try simp only [HDa.out,HDb.out,HDc.out,HDc2.out,HDd.out]);all_goals with_reducible rfl
              try simp only [Act.put,pu]
              refine wpAnyH_ready (rs := [7]) (by kernel_rfl) (by simp) (AllReadyH.cons rfl (fun K' hK => ?_) AllReadyH.nil)
              go_simp
              refine (rinnB r1 true hin1 _).mono ?_; rintro e w8 ⟨rfl,hbq⟩
              refine hK.out _ _ ?_ (fun hSn => ?_)
              ·exact hS.trans (hbq.mono hS.size)
              clear hK K' hS hbq
              have hS := hSn
              clear hSn
              try dsimp only at hS
              (try simp only [Act.put,pu]);refine tkY 8 ?_ rfl hS ?_ ?_;rotate_left
              ·intro wz hSz;obtain ⟨yk,yv⟩ := bk2 HK5.out hSz;have x1z := bcl hSz HXB5.out HX15.out;have p0z := bcl hSz HPB.out HP0.out;go_simp;(try simp only [HDa.out,HDb.out,HDc.out,HDc2.out,HDd.out]);all_goals with_reducible rfl
              (try simp only [Act.put,pu]);refine tkY 9 ?_ rfl hS ?_ ?_;rotate_left
              ·intro wz hSz;obtain ⟨yk,yv⟩ := bk2 HK5.out hSz;have x1z := bcl hSz HXB5.out HX15.out;have p0z := bcl hSz HPB.out HP0.out;go_simp;(try simp only [HDa.out,HDb.out,HDc.out,HDc2.out,HDd.out]);all_goals with_reducible rfl
              (try simp only [Act.put,pu]);refine tkY 10 ?_ rfl hS ?_ ?_;rotate_left
              ·intro wz hSz;obtain ⟨yk,yv⟩ := bk2 HK5.out hSz;have x1z := bcl hSz HXB5.out HX15.out;have p0z := bcl hSz HPB.out HP0.out;go_simp;(try simp only [HDa.out,HDb.out,HDc.out,HDc2.out,HDd.out]);all_goals with_reducible rfl
              (try simp only [Act.put,pu]);refine tkY 11 ?_ rfl hS ?_ ?_;rotate_left
              ·intro wz hSz;obtain ⟨yk,yv⟩ := bk2 HK5.out hSz;have x1z := bcl hSz HXB5.out HX15.out;have p0z := bcl hSz HPB.out HP0.out;go_simp;(try simp only [HDa.out,HDb.out,HDc.out,HDc2.out,HDd.out]);all_goals with_reducible rfl
              (try simp only [Act.put,pu]);refine tkY 12 ?_ rfl hS ?_ ?_;rotate_left
              ·intro wz hSz;obtain ⟨yk,yv⟩ := bk2 HK5.out hSz;have x1z := bcl hSz HXB5.out HX15.out;have p0z := bcl hSz HPB.out HP0.out;go_simp;(try simp only [HDa.out,HDb.out,HDc.out,HDc2.out,HDd.out]);all_goals with_reducible rfl
              (try simp only [Act.put,pu]);refine tkY 13 ?_ rfl hS ?_ ?_;rotate_left
              ·intro wz hSz;obtain ⟨yk,yv⟩ := bk2 HK5.out hSz;have x1z := bcl hSz HXB5.out HX15.out;have p0z := bcl hSz HPB.out HP0.out;go_simp;(try simp only [HDa.out,HDb.out,HDc.out,HDc2.out,HDd.out]);all_goals with_reducible rfl
              (try simp only [Act.put,pu]);refine tkY 14 ?_ rfl hS ?_ ?_;rotate_left
              ·intro wz hSz;obtain ⟨yk,yv⟩ := bk2 HK5.out hSz;have x1z := bcl hSz HXB5.out HX15.out;have p0z := bcl hSz HPB.out HP0.out;go_simp;(try simp only [HDa.out,HDb.out,HDc.out,HDc2.out,HDd.out]);all_goals with_reducible rfl
              (try simp only [Act.put,pu]);refine tkY 15 ?_ rfl hS ?_ ?_;rotate_left
              ·intro wz hSz;obtain ⟨yk,yv⟩ := bk2 HK5.out hSz;have x1z := bcl hSz HXB5.out HX15.out;have p0z := bcl hSz HPB.out HP0.out;go_simp;(try simp only [HDa.out,HDb.out,HDc.out,HDc2.out,HDd.out]);all_goals with_reducible rfl
              (try simp only [Act.put,pu]);refine tkY 16 ?_ rfl hS ?_ ?_;rotate_left
              ·intro wz hSz;obtain ⟨yk,yv⟩ := bk2 HK5.out hSz;have x1z := bcl hSz HXB5.out HX15.out;have p0z := bcl hSz HPB.out HP0.out;go_simp;(try simp only [HDa.out,HDb.out,HDc.out,HDc2.out,HDd.out]);all_goals with_reducible rfl
              (try simp only [Act.put,pu]);refine tkY 17 ?_ rfl hS ?_ ?_;rotate_left
              ·intro wz hSz;obtain ⟨yk,yv⟩ := bk2 HK5.out hSz;have x1z := bcl hSz HXB5.out HX15.out;have p0z := bcl hSz HPB.out HP0.out;go_simp;(try simp only [HDa.out,HDb.out,HDc.out,HDc2.out,HDd.out]);all_goals with_reducible rfl
              (try simp only [Act.put,pu]);refine tkY 18 ?_ rfl hS ?_ ?_;rotate_left
              ·intro wz hSz;obtain ⟨yk,yv⟩ := bk2 HK5.out hSz;have x1z := bcl hSz HXB5.out HX15.out;have p0z := bcl hSz HPB.out HP0.out;go_simp;(try simp only [HDa.out,HDb.out,HDc.out,HDc2.out,HDd.out]);all_goals with_reducible rfl
              (try simp only [Act.put,pu]);refine tkY 19 ?_ rfl hS ?_ ?_;rotate_left
              ·intro wz hSz;obtain ⟨yk,yv⟩ := bk2 HK5.out hSz;have x1z := bcl hSz HXB5.out HX15.out;have p0z := bcl hSz HPB.out HP0.out;go_simp;(try simp only [HDa.out,HDb.out,HDc.out,HDc2.out,HDd.out]);all_goals with_reducible rfl
              (try simp only [Act.put,pu]);refine tkY 20 ?_ rfl hS ?_ ?_;rotate_left
              ·intro wz hSz;obtain ⟨yk,yv⟩ := bk2 HK5.out hSz;have x1z := bcl hSz HXB5.out HX15.out;have p0z := bcl hSz HPB.out HP0.out;go_simp;(try simp only [HDa.out,HDb.out,HDc.out,HDc2.out,HDd.out]);all_goals with_reducible rfl
              (try simp only [Act.put,pu]);refine tkY 21 ?_ rfl hS ?_ ?_;rotate_left
              ·intro wz hSz;obtain ⟨yk,yv⟩ := bk2 HK5.out hSz;have x1z := bcl hSz HXB5.out HX15.out;have p0z := bcl hSz HPB.out HP0.out;go_simp;(try simp only [HDa.out,HDb.out,HDc.out,HDc2.out,HDd.out]);all_goals with_reducible rfl
              (try simp only [Act.put,pu]);refine tkY 22 ?_ rfl hS ?_ ?_;rotate_left
              ·intro wz hSz;obtain ⟨yk,yv⟩ := bk2 HK5.out hSz;have x1z := bcl hSz HXB5.out HX15.out;have p0z := bcl hSz HPB.out HP0.out;go_simp;(try simp only [HDa.out,HDb.out,HDc.out,HDc2.out,HDd.out]);all_goals with_reducible rfl
              (try simp only [Act.put,pu]);refine tkY 23 ?_ rfl hS ?_ ?_;rotate_left
              ·intro wz hSz;obtain ⟨yk,yv⟩ := bk2 HK5.out hSz;have x1z := bcl hSz HXB5.out HX15.out;have p0z := bcl hSz HPB.out HP0.out;go_simp;(try simp only [HDa.out,HDb.out,HDc.out,HDc2.out,HDd.out]);all_goals with_reducible rfl
              (try simp only [Act.put,pu]);refine tkY 24 ?_ rfl hS ?_ ?_;rotate_left
              ·intro wz hSz;obtain ⟨yk,yv⟩ := bk2 HK5.out hSz;have x1z := bcl hSz HXB5.out HX15.out;have p0z := bcl hSz HPB.out HP0.out;go_simp;(try simp only [HDa.out,HDb.out,HDc.out,HDc2.out,HDd.out]);all_goals with_reducible rfl
              (try simp only [Act.put,pu]);refine tkY 25 ?_ rfl hS ?_ ?_;rotate_left
              ·intro wz hSz;obtain ⟨yk,yv⟩ := bk2 HK5.out hSz;have x1z := bcl hSz HXB5.out HX15.out;have p0z := bcl hSz HPB.out HP0.out;go_simp;(try simp only [HDa.out,HDb.out,HDc.out,HDc2.out,HDd.out]);all_goals with_reducible rfl
              (try simp only [Act.put,pu]);refine tkY 26 ?_ rfl hS ?_ ?_;rotate_left
              ·intro wz hSz;obtain ⟨yk,yv⟩ := bk2 HK5.out hSz;have x1z := bcl hSz HXB5.out HX15.out;have p0z := bcl hSz HPB.out HP0.out;go_simp;(try simp only [HDa.out,HDb.out,HDc.out,HDc2.out,HDd.out]);all_goals with_reducible rfl
              (try simp only [Act.put,pu]);refine tkY 27 ?_ rfl hS ?_ ?_;rotate_left
              ·intro wz hSz;obtain ⟨yk,yv⟩ := bk2 HK5.out hSz;have x1z := bcl hSz HXB5.out HX15.out;have p0z := bcl hSz HPB.out HP0.out;go_simp;(try simp only [HDa.out,HDb.out,HDc.out,HDc2.out,HDd.out]);all_goals with_reducible rfl
              (try simp only [Act.put,pu]);refine tkY 28 ?_ rfl hS ?_ ?_;rotate_left
              ·intro wz hSz;obtain ⟨yk,yv⟩ := bk2 HK5.out hSz;have x1z := bcl hSz HXB5.out HX15.out;have p0z := bcl hSz HPB.out HP0.out;go_simp;(try simp only [HDa.out,HDb.out,HDc.out,HDc2.out,HDd.out]);all_goals with_reducible rfl
              try simp only [Act.put,pu]
              refine wpAnyH_done (by kernel_rfl) ?_ _
              have HS := Lib.hid hS
              clear hS
              go_wp2
              go_ret
              exact ⟨by rw [HRF.out]; rfl,HB5.out.trans (HS.out.mono HB5.out.size)⟩
       ·have l64 : (64 : Int) < (rs.length : Int) := by omega
        have HDd := Lib.hid (show decide ((64 : Int) < (rs.length : Int)) = true from decide_eq_true l64)
        have HRF : Hid (R = false) := Lib.hid (by have := HR3.out; rw [HR64.out (by omega)] at this; simpa using this.symm)
        clear hi0 h64
        go_wp2_with fail
        refine wp_region_held_drew (S := (fun w' => Below wr.heap.size wr w')) (by kernel_rfl) ?_ (fun hS => ?_)
        ·exact (Below.refl _ _).drew
        try dsimp only at hS
        refine tkY 0 ?_ rfl hS ?_ ?_;rotate_left
        ·intro wz hSz;have x0z := bcl hSz HXB0.out HX0.out;have x1z := bcl hSz HXB0.out HX1.out;go_simp;(try simp only [HDa.out,HDb.out,HDc.out,HDc2.out,HDd.out]);all_goals with_reducible rfl
        (try simp only [Act.put,pu]);refine tkY 1 ?_ rfl hS ?_ ?_;rotate_left
        ·intro wz hSz;have x0z := bcl hSz HXB0.out HX0.out;have x1z := bcl hSz HXB0.out HX1.out;go_simp;(try simp only [HDa.out,HDb.out,HDc.out,HDc2.out,HDd.out]);all_goals with_reducible rfl
        (try simp only [Act.put,pu]);refine tkY 2 ?_ rfl hS ?_ ?_;rotate_left
        ·intro wz hSz;have x0z := bcl hSz HXB0.out HX0.out;have x1z := bcl hSz HXB0.out HX1.out;go_simp;(try simp only [HDa.out,HDb.out,HDc.out,HDc2.out,HDd.out]);all_goals with_reducible rfl
        (try simp only [Act.put,pu]);refine tkY 3 ?_ rfl hS ?_ ?_;rotate_left
        ·intro wz hSz;have x0z := bcl hSz HXB0.out HX0.out;have x1z := bcl hSz HXB0.out HX1.out;go_simp;(try simp only [HDa.out,HDb.out,HDc.out,HDc2.out,HDd.out]);all_goals with_reducible rfl
        (try simp only [Act.put,pu]);refine tkY 4 ?_ rfl hS ?_ ?_;rotate_left
        ·intro wz hSz;have x0z := bcl hSz HXB0.out HX0.out;have x1z := bcl hSz HXB0.out HX1.out;go_simp;(try simp only [HDa.out,HDb.out,HDc.out,HDc2.out,HDd.out]);all_goals with_reducible rfl
        (try simp only [Act.put,pu]);refine tkY 5 ?_ rfl hS ?_ ?_;rotate_left
        ·intro wz hSz;have x0z := bcl hSz HXB0.out HX0.out;have x1z := bcl hSz HXB0.out HX1.out;go_simp;(try simp only [HDa.out,HDb.out,HDc.out,HDc2.out,HDd.out]);all_goals with_reducible rfl
        (try simp only [Act.put,pu]);refine tkY 6 ?_ rfl hS ?_ ?_;rotate_left
        ·intro wz hSz;have x0z := bcl hSz HXB0.out HX0.out;have x1z := bcl hSz HXB0.out HX1.out;go_simp;(try simp only [HDa.out,HDb.out,HDc.out,HDc2.out,HDd.out]);all_goals with_reducible rfl
        (try simp only [Act.put,pu]);refine tkY 7 ?_ rfl hS ?_ ?_;rotate_left
        ·intro wz hSz;have x0z := bcl hSz HXB0.out HX0.out;have x1z := bcl hSz HXB0.out HX1.out;go_simp;(try simp only [HDa.out,HDb.out,HDc.out,HDc2.out,HDd.out]);all_goals with_reducible rfl
        (try simp only [Act.put,pu]);refine tkY 8 ?_ rfl hS ?_ ?_;rotate_left
        ·intro wz hSz;have x0z := bcl hSz HXB0.out HX0.out;have x1z := bcl hSz HXB0.out HX1.out;go_simp;(try simp only [HDa.out,HDb.out,HDc.out,HDc2.out,HDd.out]);all_goals with_reducible rfl
        (try simp only [Act.put,pu]);refine tkY 9 ?_ rfl hS ?_ ?_;rotate_left
        ·intro wz hSz;have x0z := bcl hSz HXB0.out HX0.out;have x1z := bcl hSz HXB0.out HX1.out;go_simp;(try simp only [HDa.out,HDb.out,HDc.out,HDc2.out,HDd.out]);all_goals with_reducible rfl
        (try simp only [Act.put,pu]);refine tkY 10 ?_ rfl hS ?_ ?_;rotate_left
        ·intro wz hSz;have x0z := bcl hSz HXB0.out HX0.out;have x1z := bcl hSz HXB0.out HX1.out;go_simp;(try simp only [HDa.out,HDb.out,HDc.out,HDc2.out,HDd.out]);all_goals with_reducible rfl
        (try simp only [Act.put,pu]);refine tkY 11 ?_ rfl hS ?_ ?_;rotate_left
        ·intro wz hSz;have x0z := bcl hSz HXB0.out HX0.out;have x1z := bcl hSz HXB0.out HX1.out;go_simp;(try simp only [HDa.out,HDb.out,HDc.out,HDc2.out,HDd.out]);all_goals with_reducible rfl
        (try simp only [Act.put,pu]);refine tkY 12 ?_ rfl hS ?_ ?_;rotate_left
        ·intro wz hSz;have x0z := bcl hSz HXB0.out HX0.out;have x1z := bcl hSz HXB0.out HX1.out;go_simp;(try simp only [HDa.out,HDb.out,HDc.out,HDc2.out,HDd.out]);all_goals with_reducible rfl
        (try simp only [Act.put,pu]);refine tkY 13 ?_ rfl hS ?_ ?_;rotate_left
        ·intro wz hSz;have x0z := bcl hSz HXB0.out HX0.out;have x1z := bcl hSz HXB0.out HX1.out;go_simp;(try simp only [HDa.out,HDb.out,HDc.out,HDc2.out,HDd.out]);all_goals with_reducible rfl
        (try simp only [Act.put,pu]);refine tkY 14 ?_ rfl hS ?_ ?_;rotate_left
        ·intro wz hSz;have x0z := bcl hSz HXB0.out HX0.out;have x1z := bcl hSz HXB0.out HX1.out;go_simp;(try simp only [HDa.out,HDb.out,HDc.out,HDc2.out,HDd.out]);all_goals with_reducible rfl
        (try simp only [Act.put,pu]);refine tkY 15 ?_ rfl hS ?_ ?_;rotate_left
        ·intro wz hSz;have x0z := bcl hSz HXB0.out HX0.out;have x1z := bcl hSz HXB0.out HX1.out;go_simp;(try simp only [HDa.out,HDb.out,HDc.out,HDc2.out,HDd.out]);all_goals with_reducible rfl
        (try simp only [Act.put,pu]);refine tkY 16 ?_ rfl hS ?_ ?_;rotate_left
        ·intro wz hSz;have x0z := bcl hSz HXB0.out HX0.out;have x1z := bcl hSz HXB0.out HX1.out;go_simp;(try simp only [HDa.out,HDb.out,HDc.out,HDc2.out,HDd.out]);all_goals with_reducible rfl
        (try simp only [Act.put,pu]);refine tkY 17 ?_ rfl hS ?_ ?_;rotate_left
        ·intro wz hSz;have x0z := bcl hSz HXB0.out HX0.out;have x1z := bcl hSz HXB0.out HX1.out;go_simp;(try simp only [HDa.out,HDb.out,HDc.out,HDc2.out,HDd.out]);all_goals with_reducible rfl
        (try simp only [Act.put,pu]);refine tkY 18 ?_ rfl hS ?_ ?_;rotate_left
        ·intro wz hSz;have x0z := bcl hSz HXB0.out HX0.out;have x1z := bcl hSz HXB0.out HX1.out;go_simp;(try simp only [HDa.out,HDb.out,HDc.out,HDc2.out,HDd.out]);all_goals with_reducible rfl
        (try simp only [Act.put,pu]);refine tkY 19 ?_ rfl hS ?_ ?_;rotate_left
        ·intro wz hSz;have x0z := bcl hSz HXB0.out HX0.out;have x1z := bcl hSz HXB0.out HX1.out;go_simp;(try simp only [HDa.out,HDb.out,HDc.out,HDc2.out,HDd.out]);all_goals with_reducible rfl
        (try simp only [Act.put,pu]);refine tkN 20 rfl hS ?_
        (try simp only [Act.put,pu]);refine tkN 21 rfl hS ?_
        (try simp only [Act.put,pu]);refine tkN 22 rfl hS ?_
        (try simp only [Act.put,pu]);refine tkN 23 rfl hS ?_
        (try simp only [Act.put,pu]);refine tkN 24 rfl hS ?_
        (try simp only [Act.put,pu]);refine tkN 25 rfl hS ?_
        (try simp only [Act.put,pu]);refine tkN 26 rfl hS ?_
        (try simp only [Act.put,pu]);refine tkN 27 rfl hS ?_
        (try simp only [Act.put,pu]);refine tkN 28 rfl hS ?_
        (try simp only [Act.put,pu]);refine tkN 29 rfl hS ?_
        (try simp only [Act.put,pu]);refine tkN 30 rfl hS ?_
        (try simp only [Act.put,pu]);refine tkN 31 rfl hS ?_
        (try simp only [Act.put,pu]);refine tkN 32 rfl hS ?_
        (try simp only [Act.put,pu]);refine tkY 33 ?_ rfl hS ?_ ?_;rotate_left
        ·intro wz hSz;have x0z := bcl hSz HXB0.out HX0.out;have x1z := bcl hSz HXB0.out HX1.out;go_simp;(try simp only [HDa.out,HDb.out,HDc.out,HDc2.out,HDd.out]);all_goals with_reducible rfl
        (try simp only [Act.put,pu]);refine tkY 34 ?_ rfl hS ?_ ?_;rotate_left
        ·intro wz hSz;have x0z := bcl hSz HXB0.out HX0.out;have x1z := bcl hSz HXB0.out HX1.out;go_simp;(try simp only [HDa.out,HDb.out,HDc.out,HDc2.out,HDd.out]);all_goals with_reducible rfl
        (try simp only [Act.put,pu]);refine tkY 35 ?_ rfl hS ?_ ?_;rotate_left
        ·intro wz hSz;have x0z := bcl hSz HXB0.out HX0.out;have x1z := bcl hSz HXB0.out HX1.out;go_simp;(try simp only [HDa.out,HDb.out,HDc.out,HDc2.out,HDd.out]);all_goals with_reducible rfl
        (try simp only [Act.put,pu]);refine tkY 36 ?_ rfl hS ?_ ?_;rotate_left
        ·intro wz hSz;have x0z := bcl hSz HXB0.out HX0.out;have x1z := bcl hSz HXB0.out HX1.out;go_simp;(try simp only [HDa.out,HDb.out,HDc.out,HDc2.out,HDd.out]);all_goals with_reducible rfl
        (try simp only [Act.put,pu]);refine tkY 37 ?_ rfl hS ?_ ?_;rotate_left
        ·intro wz hSz;have x0z := bcl hSz HXB0.out HX0.out;have x1z := bcl hSz HXB0.out HX1.out;go_simp;(try simp only [HDa.out,HDb.out,HDc.out,HDc2.out,HDd.out]);all_goals with_reducible rfl
        (try simp only [Act.put,pu]);refine tkY 38 ?_ rfl hS ?_ ?_;rotate_left
        ·intro wz hSz;have x0z := bcl hSz HXB0.out HX0.out;have x1z := bcl hSz HXB0.out HX1.out;go_simp;(try simp only [HDa.out,HDb.out,HDc.out,HDc2.out,HDd.out]);all_goals with_reducible rfl
        (try simp only [Act.put,pu]);refine tkY 39 ?_ rfl hS ?_ ?_;rotate_left
        ·intro wz hSz;have x0z := bcl hSz HXB0.out HX0.out;have x1z := bcl hSz HXB0.out HX1.out;go_simp;(try simp only [HDa.out,HDb.out,HDc.out,HDc2.out,HDd.out]);all_goals with_reducible rfl
        (try simp only [Act.put,pu]);refine tkY 40 ?_ rfl hS ?_ ?_;rotate_left
        ·intro wz hSz;have x0z := bcl hSz HXB0.out HX0.out;have x1z := bcl hSz HXB0.out HX1.out;go_simp;(try simp only [HDa.out,HDb.out,HDc.out,HDc2.out,HDd.out]);all_goals with_reducible rfl
        (try simp only [Act.put,pu]);refine tkY 41 ?_ rfl hS ?_ ?_;rotate_left
        ·intro wz hSz;have x0z := bcl hSz HXB0.out HX0.out;have x1z := bcl hSz HXB0.out HX1.out;go_simp;(try simp only [HDa.out,HDb.out,HDc.out,HDc2.out,HDd.out]);all_goals with_reducible rfl
        (try simp only [Act.put,pu]);refine tkY 42 ?_ rfl hS ?_ ?_;rotate_left
        ·intro wz hSz;have x0z := bcl hSz HXB0.out HX0.out;have x1z := bcl hSz HXB0.out HX1.out;go_simp;(try simp only [HDa.out,HDb.out,HDc.out,HDc2.out,HDd.out]);all_goals with_reducible rfl
        (try simp only [Act.put,pu]);refine tkY 43 ?_ rfl hS ?_ ?_;rotate_left
        ·intro wz hSz;have x0z := bcl hSz HXB0.out HX0.out;have x1z := bcl hSz HXB0.out HX1.out;go_simp;(try simp only [HDa.out,HDb.out,HDc.out,HDc2.out,HDd.out]);all_goals with_reducible rfl
        try simp only [Act.put,pu]
        refine wpAnyH_done (by kernel_rfl) ?_ _
        have HS := Lib.hid hS
        clear hS
        go_wp2
        go_ret
        exact ⟨by rw [HRF.out]; rfl,HB.out.trans (HS.out.mono HB.out.size)⟩
      ·have lz : (0 : Int) < (i : Int) := by omega
       have lzn : 0 < i := by omega
       have HDc := Lib.hid (show decide ((0 : Int) < (i : Int)) = true from decide_eq_true lz)
       have HDc2 := Lib.hid (show decide (0 < i) = true from decide_eq_true lzn)
       have HDd := HDc
       obtain ⟨j,pn,pr,hj1,hj2,hj3,hj4⟩ := HPR.out hi0
       have HP0 := Lib.hid hj3
       have HPS := Lib.hid hj4
       have wm : IntKind.i64.wrap ((i : Int) - 1) = (j : Int) := by rw [show (i : Int) - 1 = (j : Int) by omega]; exact IntWalk.i64_in _ (by have := H16.out; omega)
       have lj0 : (0 : Int) ≤ (j : Int) := by omega
       have lj1 : (j : Int) < (s.length : Int) := by omega
       have hib : (i == 0) = false := beq_eq_false_iff_ne.2 hi0
       have HR4 := Lib.hid (show ((decide (pn.toList < n.toList) && rowsOk rs) && tabsGo s gko i1) = R by have := HR3.out; rw [hib,hj2] at this; simpa using this)
       clear hi0 hj1 hj2 hj3 hj4 hib
       cases hls : decide (pn.toList < n.toList) with
       | false =>
        have HLS := Lib.hid hls
        have HRF : Hid (R = false) := Lib.hid (by have := HR4.out; rw [hls] at this; simpa using this.symm)
        clear hls
        go_wp2_with fail
        refine wp_region_held_drew (S := (fun w' => Below wr.heap.size wr w')) (by kernel_rfl) ?_ (fun hS => ?_)
        ·exact (Below.refl _ _).drew
        try dsimp only at hS
        refine tkY 0 ?_ rfl hS ?_ ?_;rotate_left
        ·intro wz hSz;have x0z := bcl hSz HXB0.out HX0.out;have x1z := bcl hSz HXB0.out HX1.out;have p0z := bcl hSz HXB0.out HP0.out;go_simp;(try simp only [HDa.out,HDb.out,HDc.out,HDc2.out,HDd.out]);all_goals with_reducible rfl
        (try simp only [Act.put,pu]);refine tkY 1 ?_ rfl hS ?_ ?_;rotate_left
        ·intro wz hSz;have x0z := bcl hSz HXB0.out HX0.out;have x1z := bcl hSz HXB0.out HX1.out;have p0z := bcl hSz HXB0.out HP0.out;go_simp;(try simp only [HDa.out,HDb.out,HDc.out,HDc2.out,HDd.out]);all_goals with_reducible rfl
        (try simp only [Act.put,pu]);refine tkY 2 ?_ rfl hS ?_ ?_;rotate_left
        ·intro wz hSz;have x0z := bcl hSz HXB0.out HX0.out;have x1z := bcl hSz HXB0.out HX1.out;have p0z := bcl hSz HXB0.out HP0.out;go_simp;(try simp only [HDa.out,HDb.out,HDc.out,HDc2.out,HDd.out]);all_goals with_reducible rfl
        (try simp only [Act.put,pu]);refine tkY 3 ?_ rfl hS ?_ ?_;rotate_left
        ·intro wz hSz;have x0z := bcl hSz HXB0.out HX0.out;have x1z := bcl hSz HXB0.out HX1.out;have p0z := bcl hSz HXB0.out HP0.out;go_simp;(try simp only [HDa.out,HDb.out,HDc.out,HDc2.out,HDd.out]);all_goals with_reducible rfl
        (try simp only [Act.put,pu]);refine tkY 4 ?_ rfl hS ?_ ?_;rotate_left
        ·intro wz hSz;have x0z := bcl hSz HXB0.out HX0.out;have x1z := bcl hSz HXB0.out HX1.out;have p0z := bcl hSz HXB0.out HP0.out;go_simp;(try simp only [HDa.out,HDb.out,HDc.out,HDc2.out,HDd.out]);all_goals with_reducible rfl
        (try simp only [Act.put,pu]);refine tkY 5 ?_ rfl hS ?_ ?_;rotate_left
        ·intro wz hSz;have x0z := bcl hSz HXB0.out HX0.out;have x1z := bcl hSz HXB0.out HX1.out;have p0z := bcl hSz HXB0.out HP0.out;go_simp;(try simp only [HDa.out,HDb.out,HDc.out,HDc2.out,HDd.out]);all_goals with_reducible rfl
        (try simp only [Act.put,pu]);refine tkY 6 ?_ rfl hS ?_ ?_;rotate_left
        ·intro wz hSz;have x0z := bcl hSz HXB0.out HX0.out;have x1z := bcl hSz HXB0.out HX1.out;have p0z := bcl hSz HXB0.out HP0.out;go_simp;(try simp only [HDa.out,HDb.out,HDc.out,HDc2.out,HDd.out]);all_goals with_reducible rfl
        (try simp only [Act.put,pu]);refine tkY 7 ?_ rfl hS ?_ ?_;rotate_left
        ·intro wz hSz;have x0z := bcl hSz HXB0.out HX0.out;have x1z := bcl hSz HXB0.out HX1.out;have p0z := bcl hSz HXB0.out HP0.out;go_simp;(try simp only [HDa.out,HDb.out,HDc.out,HDc2.out,HDd.out]);all_goals with_reducible rfl
        (try simp only [Act.put,pu]);refine tkY 8 ?_ rfl hS ?_ ?_;rotate_left
        ·intro wz hSz;have x0z := bcl hSz HXB0.out HX0.out;have x1z := bcl hSz HXB0.out HX1.out;have p0z := bcl hSz HXB0.out HP0.out;go_simp;(try simp only [HDa.out,HDb.out,HDc.out,HDc2.out,HDd.out]);all_goals with_reducible rfl
        (try simp only [Act.put,pu]);refine tkY 9 ?_ rfl hS ?_ ?_;rotate_left
        ·intro wz hSz;have x0z := bcl hSz HXB0.out HX0.out;have x1z := bcl hSz HXB0.out HX1.out;have p0z := bcl hSz HXB0.out HP0.out;go_simp;(try simp only [HDa.out,HDb.out,HDc.out,HDc2.out,HDd.out]);all_goals with_reducible rfl
        (try simp only [Act.put,pu]);refine tkY 10 ?_ rfl hS ?_ ?_;rotate_left
        ·intro wz hSz;have x0z := bcl hSz HXB0.out HX0.out;have x1z := bcl hSz HXB0.out HX1.out;have p0z := bcl hSz HXB0.out HP0.out;go_simp;(try simp only [HDa.out,HDb.out,HDc.out,HDc2.out,HDd.out]);all_goals with_reducible rfl
        (try simp only [Act.put,pu]);refine tkY 11 ?_ rfl hS ?_ ?_;rotate_left
        ·intro wz hSz;have x0z := bcl hSz HXB0.out HX0.out;have x1z := bcl hSz HXB0.out HX1.out;have p0z := bcl hSz HXB0.out HP0.out;go_simp;(try simp only [HDa.out,HDb.out,HDc.out,HDc2.out,HDd.out]);all_goals with_reducible rfl
        (try simp only [Act.put,pu]);refine tkY 12 ?_ rfl hS ?_ ?_;rotate_left
        ·intro wz hSz;have x0z := bcl hSz HXB0.out HX0.out;have x1z := bcl hSz HXB0.out HX1.out;have p0z := bcl hSz HXB0.out HP0.out;go_simp;(try simp only [HDa.out,HDb.out,HDc.out,HDc2.out,HDd.out]);all_goals with_reducible rfl
        (try simp only [Act.put,pu]);refine tkY 13 ?_ rfl hS ?_ ?_;rotate_left
        ·intro wz hSz;have x0z := bcl hSz HXB0.out HX0.out;have x1z := bcl hSz HXB0.out HX1.out;have p0z := bcl hSz HXB0.out HP0.out;go_simp;(try simp only [HDa.out,HDb.out,HDc.out,HDc2.out,HDd.out]);all_goals with_reducible rfl
        (try simp only [Act.put,pu]);refine tkY 14 ?_ rfl hS ?_ ?_;rotate_left
        ·intro wz hSz;have x0z := bcl hSz HXB0.out HX0.out;have x1z := bcl hSz HXB0.out HX1.out;have p0z := bcl hSz HXB0.out HP0.out;go_simp;(try simp only [HDa.out,HDb.out,HDc.out,HDc2.out,HDd.out]);all_goals with_reducible rfl
        (try simp only [Act.put,pu]);refine tkY 15 ?_ rfl hS ?_ ?_;rotate_left
        ·intro wz hSz;have x0z := bcl hSz HXB0.out HX0.out;have x1z := bcl hSz HXB0.out HX1.out;have p0z := bcl hSz HXB0.out HP0.out;go_simp;(try simp only [HDa.out,HDb.out,HDc.out,HDc2.out,HDd.out]);all_goals with_reducible rfl
        (try simp only [Act.put,pu]);refine tkY 16 ?_ rfl hS ?_ ?_;rotate_left
        ·intro wz hSz;have x0z := bcl hSz HXB0.out HX0.out;have x1z := bcl hSz HXB0.out HX1.out;have p0z := bcl hSz HXB0.out HP0.out;go_simp;(try simp only [HDa.out,HDb.out,HDc.out,HDc2.out,HDd.out]);all_goals with_reducible rfl
        (try simp only [Act.put,pu]);refine tkY 17 ?_ rfl hS ?_ ?_;rotate_left
        ·intro wz hSz;have x0z := bcl hSz HXB0.out HX0.out;have x1z := bcl hSz HXB0.out HX1.out;have p0z := bcl hSz HXB0.out HP0.out;go_simp;(try simp only [HDa.out,HDb.out,HDc.out,HDc2.out,HDd.out]);all_goals with_reducible rfl
        (try simp only [Act.put,pu]);refine tkY 18 ?_ rfl hS ?_ ?_;rotate_left
        ·intro wz hSz;have x0z := bcl hSz HXB0.out HX0.out;have x1z := bcl hSz HXB0.out HX1.out;have p0z := bcl hSz HXB0.out HP0.out;go_simp;(try simp only [HDa.out,HDb.out,HDc.out,HDc2.out,HDd.out]);all_goals with_reducible rfl
        (try simp only [Act.put,pu]);refine tkY 19 ?_ rfl hS ?_ ?_;rotate_left
        ·intro wz hSz;have x0z := bcl hSz HXB0.out HX0.out;have x1z := bcl hSz HXB0.out HX1.out;have p0z := bcl hSz HXB0.out HP0.out;go_simp;(try simp only [HDa.out,HDb.out,HDc.out,HDc2.out,HDd.out]);all_goals with_reducible rfl
        (try simp only [Act.put,pu]);refine tkY 20 ?_ rfl hS ?_ ?_;rotate_left
        ·intro wz hSz;have x0z := bcl hSz HXB0.out HX0.out;have x1z := bcl hSz HXB0.out HX1.out;have p0z := bcl hSz HXB0.out HP0.out;go_simp;(try simp only [HDa.out,HDb.out,HDc.out,HDc2.out,HDd.out]);all_goals with_reducible rfl
        (try simp only [Act.put,pu]);refine tkY 21 ?_ rfl hS ?_ ?_;rotate_left
        ·intro wz hSz;have x0z := bcl hSz HXB0.out HX0.out;have x1z := bcl hSz HXB0.out HX1.out;have p0z := bcl hSz HXB0.out HP0.out;go_simp;(try simp only [HDa.out,HDb.out,HDc.out,HDc2.out,HDd.out]);all_goals with_reducible rfl
        (try simp only [Act.put,pu]);refine tkY 22 ?_ rfl hS ?_ ?_;rotate_left
        ·intro wz hSz;have x0z := bcl hSz HXB0.out HX0.out;have x1z := bcl hSz HXB0.out HX1.out;have p0z := bcl hSz HXB0.out HP0.out;go_simp;(try simp only [HDa.out,HDb.out,HDc.out,HDc2.out,HDd.out]);all_goals with_reducible rfl
        (try simp only [Act.put,pu]);refine tkY 23 ?_ rfl hS ?_ ?_;rotate_left
        ·intro wz hSz;have x0z := bcl hSz HXB0.out HX0.out;have x1z := bcl hSz HXB0.out HX1.out;have p0z := bcl hSz HXB0.out HP0.out;go_simp;(try simp only [HDa.out,HDb.out,HDc.out,HDc2.out,HDd.out]);all_goals with_reducible rfl
        (try simp only [Act.put,pu]);refine tkY 24 ?_ rfl hS ?_ ?_;rotate_left
        ·intro wz hSz;have x0z := bcl hSz HXB0.out HX0.out;have x1z := bcl hSz HXB0.out HX1.out;have p0z := bcl hSz HXB0.out HP0.out;go_simp;(try simp only [HDa.out,HDb.out,HDc.out,HDc2.out,HDd.out]);all_goals with_reducible rfl
        (try simp only [Act.put,pu]);refine tkY 25 ?_ rfl hS ?_ ?_;rotate_left
        ·intro wz hSz;have x0z := bcl hSz HXB0.out HX0.out;have x1z := bcl hSz HXB0.out HX1.out;have p0z := bcl hSz HXB0.out HP0.out;go_simp;(try simp only [HDa.out,HDb.out,HDc.out,HDc2.out,HDd.out]);all_goals with_reducible rfl
        (try simp only [Act.put,pu]);refine tkY 26 ?_ rfl hS ?_ ?_;rotate_left
        ·intro wz hSz;have x0z := bcl hSz HXB0.out HX0.out;have x1z := bcl hSz HXB0.out HX1.out;have p0z := bcl hSz HXB0.out HP0.out;go_simp;(try simp only [HDa.out,HDb.out,HDc.out,HDc2.out,HDd.out]);all_goals with_reducible rfl
        (try simp only [Act.put,pu]);refine tkY 27 ?_ rfl hS ?_ ?_;rotate_left
        ·intro wz hSz;have x0z := bcl hSz HXB0.out HX0.out;have x1z := bcl hSz HXB0.out HX1.out;have p0z := bcl hSz HXB0.out HP0.out;go_simp;(try simp only [HDa.out,HDb.out,HDc.out,HDc2.out,HDd.out]);all_goals with_reducible rfl
        (try simp only [Act.put,pu]);refine tkY 28 ?_ rfl hS ?_ ?_;rotate_left
        ·intro wz hSz;have x0z := bcl hSz HXB0.out HX0.out;have x1z := bcl hSz HXB0.out HX1.out;have p0z := bcl hSz HXB0.out HP0.out;go_simp;(try simp only [HDa.out,HDb.out,HDc.out,HDc2.out,HDd.out]);all_goals with_reducible rfl
        (try simp only [Act.put,pu]);refine tkY 29 ?_ rfl hS ?_ ?_;rotate_left
        ·intro wz hSz;have x0z := bcl hSz HXB0.out HX0.out;have x1z := bcl hSz HXB0.out HX1.out;have p0z := bcl hSz HXB0.out HP0.out;go_simp;(try simp only [HDa.out,HDb.out,HDc.out,HDc2.out,HDd.out]);all_goals with_reducible rfl
        (try simp only [Act.put,pu]);refine tkY 30 ?_ rfl hS ?_ ?_;rotate_left
        ·intro wz hSz;have x0z := bcl hSz HXB0.out HX0.out;have x1z := bcl hSz HXB0.out HX1.out;have p0z := bcl hSz HXB0.out HP0.out;go_simp;(try simp only [HDa.out,HDb.out,HDc.out,HDc2.out,HDd.out]);all_goals with_reducible rfl
        try simp only [Act.put,pu]
        refine wpAnyH_ready (rs := [31]) (by kernel_rfl) (by simp) (AllReadyH.cons rfl (fun K' hK => ?_) AllReadyH.nil)
        go_simp
        refine (rlessT pn n false HLS.out HPS.out HFS.out.1 _).mono ?_; rintro e w8 ⟨rfl,hbq⟩
        refine hK.out _ _ ?_ (fun hSn => ?_)
        ·exact hS.trans (hbq.mono hS.size)
        clear hK K' hS hbq
        have hS := hSn
        clear hSn
        try dsimp only at hS
        (try simp only [Act.put,pu]);refine tkY 32 ?_ rfl hS ?_ ?_;rotate_left
        ·intro wz hSz;have x0z := bcl hSz HXB0.out HX0.out;have x1z := bcl hSz HXB0.out HX1.out;have p0z := bcl hSz HXB0.out HP0.out;go_simp;(try simp only [HDa.out,HDb.out,HDc.out,HDc2.out,HDd.out]);all_goals with_reducible rfl
        (try simp only [Act.put,pu]);refine tkY 33 ?_ rfl hS ?_ ?_;rotate_left
        ·intro wz hSz;have x0z := bcl hSz HXB0.out HX0.out;have x1z := bcl hSz HXB0.out HX1.out;have p0z := bcl hSz HXB0.out HP0.out;go_simp;(try simp only [HDa.out,HDb.out,HDc.out,HDc2.out,HDd.out]);all_goals with_reducible rfl
        (try simp only [Act.put,pu]);refine tkY 34 ?_ rfl hS ?_ ?_;rotate_left
        ·intro wz hSz;have x0z := bcl hSz HXB0.out HX0.out;have x1z := bcl hSz HXB0.out HX1.out;have p0z := bcl hSz HXB0.out HP0.out;go_simp;(try simp only [HDa.out,HDb.out,HDc.out,HDc2.out,HDd.out]);all_goals with_reducible rfl
        (try simp only [Act.put,pu]);refine tkY 35 ?_ rfl hS ?_ ?_;rotate_left
        ·intro wz hSz;have x0z := bcl hSz HXB0.out HX0.out;have x1z := bcl hSz HXB0.out HX1.out;have p0z := bcl hSz HXB0.out HP0.out;go_simp;(try simp only [HDa.out,HDb.out,HDc.out,HDc2.out,HDd.out]);all_goals with_reducible rfl
        (try simp only [Act.put,pu]);refine tkN 36 rfl hS ?_
        (try simp only [Act.put,pu]);refine tkN 37 rfl hS ?_
        (try simp only [Act.put,pu]);refine tkN 38 rfl hS ?_
        (try simp only [Act.put,pu]);refine tkN 39 rfl hS ?_
        (try simp only [Act.put,pu]);refine tkN 40 rfl hS ?_
        (try simp only [Act.put,pu]);refine tkN 41 rfl hS ?_
        (try simp only [Act.put,pu]);refine tkN 42 rfl hS ?_
        (try simp only [Act.put,pu]);refine tkY 43 ?_ rfl hS ?_ ?_;rotate_left
        ·intro wz hSz;have x0z := bcl hSz HXB0.out HX0.out;have x1z := bcl hSz HXB0.out HX1.out;have p0z := bcl hSz HXB0.out HP0.out;go_simp;(try simp only [HDa.out,HDb.out,HDc.out,HDc2.out,HDd.out]);all_goals with_reducible rfl
        try simp only [Act.put,pu]
        refine wpAnyH_done (by kernel_rfl) ?_ _
        have HS := Lib.hid hS
        clear hS
        go_wp2
        go_ret
        exact ⟨by rw [HRF.out]; rfl,HB.out.trans (HS.out.mono HB.out.size)⟩
       | true =>
        have HLS := Lib.hid hls
        by_cases h64 : rs.length ≤ 64
        ·have l64 : ¬ ((64 : Int) < (rs.length : Int)) := by omega
         have HDd := Lib.hid (show decide ((64 : Int) < (rs.length : Int)) = false from decide_eq_false l64)
         have HRR := Lib.hid (show (rowsGo rs rs.length 0 && tabsGo s gko i1) = R by have := HR4.out; rw [hls,HR65.out h64] at this; simpa using this)
         clear hls h64
         go_wp2_with fail
         refine wp_region_held_drew (S := (fun w' => Below wr.heap.size wr w')) (by kernel_rfl) ?_ (fun hS => ?_)
         ·exact (Below.refl _ _).drew
         try dsimp only at hS
         refine tkY 0 ?_ rfl hS ?_ ?_;rotate_left
         ·intro wz hSz;have x0z := bcl hSz HXB0.out HX0.out;have x1z := bcl hSz HXB0.out HX1.out;have p0z := bcl hSz HXB0.out HP0.out;go_simp;(try simp only [HDa.out,HDb.out,HDc.out,HDc2.out,HDd.out]);all_goals with_reducible rfl
         (try simp only [Act.put,pu]);refine tkY 1 ?_ rfl hS ?_ ?_;rotate_left
         ·intro wz hSz;have x0z := bcl hSz HXB0.out HX0.out;have x1z := bcl hSz HXB0.out HX1.out;have p0z := bcl hSz HXB0.out HP0.out;go_simp;(try simp only [HDa.out,HDb.out,HDc.out,HDc2.out,HDd.out]);all_goals with_reducible rfl
         (try simp only [Act.put,pu]);refine tkY 2 ?_ rfl hS ?_ ?_;rotate_left
         ·intro wz hSz;have x0z := bcl hSz HXB0.out HX0.out;have x1z := bcl hSz HXB0.out HX1.out;have p0z := bcl hSz HXB0.out HP0.out;go_simp;(try simp only [HDa.out,HDb.out,HDc.out,HDc2.out,HDd.out]);all_goals with_reducible rfl
         (try simp only [Act.put,pu]);refine tkY 3 ?_ rfl hS ?_ ?_;rotate_left
         ·intro wz hSz;have x0z := bcl hSz HXB0.out HX0.out;have x1z := bcl hSz HXB0.out HX1.out;have p0z := bcl hSz HXB0.out HP0.out;go_simp;(try simp only [HDa.out,HDb.out,HDc.out,HDc2.out,HDd.out]);all_goals with_reducible rfl
         (try simp only [Act.put,pu]);refine tkY 4 ?_ rfl hS ?_ ?_;rotate_left
         ·intro wz hSz;have x0z := bcl hSz HXB0.out HX0.out;have x1z := bcl hSz HXB0.out HX1.out;have p0z := bcl hSz HXB0.out HP0.out;go_simp;(try simp only [HDa.out,HDb.out,HDc.out,HDc2.out,HDd.out]);all_goals with_reducible rfl
         (try simp only [Act.put,pu]);refine tkY 5 ?_ rfl hS ?_ ?_;rotate_left
         ·intro wz hSz;have x0z := bcl hSz HXB0.out HX0.out;have x1z := bcl hSz HXB0.out HX1.out;have p0z := bcl hSz HXB0.out HP0.out;go_simp;(try simp only [HDa.out,HDb.out,HDc.out,HDc2.out,HDd.out]);all_goals with_reducible rfl
         (try simp only [Act.put,pu]);refine tkY 6 ?_ rfl hS ?_ ?_;rotate_left
         ·intro wz hSz;have x0z := bcl hSz HXB0.out HX0.out;have x1z := bcl hSz HXB0.out HX1.out;have p0z := bcl hSz HXB0.out HP0.out;go_simp;(try simp only [HDa.out,HDb.out,HDc.out,HDc2.out,HDd.out]);all_goals with_reducible rfl
         (try simp only [Act.put,pu]);refine tkY 7 ?_ rfl hS ?_ ?_;rotate_left
         ·intro wz hSz;have x0z := bcl hSz HXB0.out HX0.out;have x1z := bcl hSz HXB0.out HX1.out;have p0z := bcl hSz HXB0.out HP0.out;go_simp;(try simp only [HDa.out,HDb.out,HDc.out,HDc2.out,HDd.out]);all_goals with_reducible rfl
         (try simp only [Act.put,pu]);refine tkY 8 ?_ rfl hS ?_ ?_;rotate_left
         ·intro wz hSz;have x0z := bcl hSz HXB0.out HX0.out;have x1z := bcl hSz HXB0.out HX1.out;have p0z := bcl hSz HXB0.out HP0.out;go_simp;(try simp only [HDa.out,HDb.out,HDc.out,HDc2.out,HDd.out]);all_goals with_reducible rfl
         (try simp only [Act.put,pu]);refine tkY 9 ?_ rfl hS ?_ ?_;rotate_left
         ·intro wz hSz;have x0z := bcl hSz HXB0.out HX0.out;have x1z := bcl hSz HXB0.out HX1.out;have p0z := bcl hSz HXB0.out HP0.out;go_simp;(try simp only [HDa.out,HDb.out,HDc.out,HDc2.out,HDd.out]);all_goals with_reducible rfl
         (try simp only [Act.put,pu]);refine tkY 10 ?_ rfl hS ?_ ?_;rotate_left
         ·intro wz hSz;have x0z := bcl hSz HXB0.out HX0.out;have x1z := bcl hSz HXB0.out HX1.out;have p0z := bcl hSz HXB0.out HP0.out;go_simp;(try simp only [HDa.out,HDb.out,HDc.out,HDc2.out,HDd.out]);all_goals with_reducible rfl
         (try simp only [Act.put,pu]);refine tkY 11 ?_ rfl hS ?_ ?_;rotate_left
         ·intro wz hSz;have x0z := bcl hSz HXB0.out HX0.out;have x1z := bcl hSz HXB0.out HX1.out;have p0z := bcl hSz HXB0.out HP0.out;go_simp;(try simp only [HDa.out,HDb.out,HDc.out,HDc2.out,HDd.out]);all_goals with_reducible rfl
         (try simp only [Act.put,pu]);refine tkY 12 ?_ rfl hS ?_ ?_;rotate_left
         ·intro wz hSz;have x0z := bcl hSz HXB0.out HX0.out;have x1z := bcl hSz HXB0.out HX1.out;have p0z := bcl hSz HXB0.out HP0.out;go_simp;(try simp only [HDa.out,HDb.out,HDc.out,HDc2.out,HDd.out]);all_goals with_reducible rfl
         (try simp only [Act.put,pu]);refine tkY 13 ?_ rfl hS ?_ ?_;rotate_left
         ·intro wz hSz;have x0z := bcl hSz HXB0.out HX0.out;have x1z := bcl hSz HXB0.out HX1.out;have p0z := bcl hSz HXB0.out HP0.out;go_simp;(try simp only [HDa.out,HDb.out,HDc.out,HDc2.out,HDd.out]);all_goals with_reducible rfl
         (try simp only [Act.put,pu]);refine tkY 14 ?_ rfl hS ?_ ?_;rotate_left
         ·intro wz hSz;have x0z := bcl hSz HXB0.out HX0.out;have x1z := bcl hSz HXB0.out HX1.out;have p0z := bcl hSz HXB0.out HP0.out;go_simp;(try simp only [HDa.out,HDb.out,HDc.out,HDc2.out,HDd.out]);all_goals with_reducible rfl
         (try simp only [Act.put,pu]);refine tkY 15 ?_ rfl hS ?_ ?_;rotate_left
         ·intro wz hSz;have x0z := bcl hSz HXB0.out HX0.out;have x1z := bcl hSz HXB0.out HX1.out;have p0z := bcl hSz HXB0.out HP0.out;go_simp;(try simp only [HDa.out,HDb.out,HDc.out,HDc2.out,HDd.out]);all_goals with_reducible rfl
         (try simp only [Act.put,pu]);refine tkY 16 ?_ rfl hS ?_ ?_;rotate_left
         ·intro wz hSz;have x0z := bcl hSz HXB0.out HX0.out;have x1z := bcl hSz HXB0.out HX1.out;have p0z := bcl hSz HXB0.out HP0.out;go_simp;(try simp only [HDa.out,HDb.out,HDc.out,HDc2.out,HDd.out]);all_goals with_reducible rfl
         (try simp only [Act.put,pu]);refine tkY 17 ?_ rfl hS ?_ ?_;rotate_left
         ·intro wz hSz;have x0z := bcl hSz HXB0.out HX0.out;have x1z := bcl hSz HXB0.out HX1.out;have p0z := bcl hSz HXB0.out HP0.out;go_simp;(try simp only [HDa.out,HDb.out,HDc.out,HDc2.out,HDd.out]);all_goals with_reducible rfl
         (try simp only [Act.put,pu]);refine tkY 18 ?_ rfl hS ?_ ?_;rotate_left
         ·intro wz hSz;have x0z := bcl hSz HXB0.out HX0.out;have x1z := bcl hSz HXB0.out HX1.out;have p0z := bcl hSz HXB0.out HP0.out;go_simp;(try simp only [HDa.out,HDb.out,HDc.out,HDc2.out,HDd.out]);all_goals with_reducible rfl
         (try simp only [Act.put,pu]);refine tkY 19 ?_ rfl hS ?_ ?_;rotate_left
         ·intro wz hSz;have x0z := bcl hSz HXB0.out HX0.out;have x1z := bcl hSz HXB0.out HX1.out;have p0z := bcl hSz HXB0.out HP0.out;go_simp;(try simp only [HDa.out,HDb.out,HDc.out,HDc2.out,HDd.out]);all_goals with_reducible rfl
         (try simp only [Act.put,pu]);refine tkY 20 ?_ rfl hS ?_ ?_;rotate_left
         ·intro wz hSz;have x0z := bcl hSz HXB0.out HX0.out;have x1z := bcl hSz HXB0.out HX1.out;have p0z := bcl hSz HXB0.out HP0.out;go_simp;(try simp only [HDa.out,HDb.out,HDc.out,HDc2.out,HDd.out]);all_goals with_reducible rfl
         (try simp only [Act.put,pu]);refine tkY 21 ?_ rfl hS ?_ ?_;rotate_left
         ·intro wz hSz;have x0z := bcl hSz HXB0.out HX0.out;have x1z := bcl hSz HXB0.out HX1.out;have p0z := bcl hSz HXB0.out HP0.out;go_simp;(try simp only [HDa.out,HDb.out,HDc.out,HDc2.out,HDd.out]);all_goals with_reducible rfl
         (try simp only [Act.put,pu]);refine tkY 22 ?_ rfl hS ?_ ?_;rotate_left
         ·intro wz hSz;have x0z := bcl hSz HXB0.out HX0.out;have x1z := bcl hSz HXB0.out HX1.out;have p0z := bcl hSz HXB0.out HP0.out;go_simp;(try simp only [HDa.out,HDb.out,HDc.out,HDc2.out,HDd.out]);all_goals with_reducible rfl
         (try simp only [Act.put,pu]);refine tkY 23 ?_ rfl hS ?_ ?_;rotate_left
         ·intro wz hSz;have x0z := bcl hSz HXB0.out HX0.out;have x1z := bcl hSz HXB0.out HX1.out;have p0z := bcl hSz HXB0.out HP0.out;go_simp;(try simp only [HDa.out,HDb.out,HDc.out,HDc2.out,HDd.out]);all_goals with_reducible rfl
         (try simp only [Act.put,pu]);refine tkY 24 ?_ rfl hS ?_ ?_;rotate_left
         ·intro wz hSz;have x0z := bcl hSz HXB0.out HX0.out;have x1z := bcl hSz HXB0.out HX1.out;have p0z := bcl hSz HXB0.out HP0.out;go_simp;(try simp only [HDa.out,HDb.out,HDc.out,HDc2.out,HDd.out]);all_goals with_reducible rfl
         (try simp only [Act.put,pu]);refine tkY 25 ?_ rfl hS ?_ ?_;rotate_left
         ·intro wz hSz;have x0z := bcl hSz HXB0.out HX0.out;have x1z := bcl hSz HXB0.out HX1.out;have p0z := bcl hSz HXB0.out HP0.out;go_simp;(try simp only [HDa.out,HDb.out,HDc.out,HDc2.out,HDd.out]);all_goals with_reducible rfl
         (try simp only [Act.put,pu]);refine tkY 26 ?_ rfl hS ?_ ?_;rotate_left
         ·intro wz hSz;have x0z := bcl hSz HXB0.out HX0.out;have x1z := bcl hSz HXB0.out HX1.out;have p0z := bcl hSz HXB0.out HP0.out;go_simp;(try simp only [HDa.out,HDb.out,HDc.out,HDc2.out,HDd.out]);all_goals with_reducible rfl
         (try simp only [Act.put,pu]);refine tkY 27 ?_ rfl hS ?_ ?_;rotate_left
         ·intro wz hSz;have x0z := bcl hSz HXB0.out HX0.out;have x1z := bcl hSz HXB0.out HX1.out;have p0z := bcl hSz HXB0.out HP0.out;go_simp;(try simp only [HDa.out,HDb.out,HDc.out,HDc2.out,HDd.out]);all_goals with_reducible rfl
         (try simp only [Act.put,pu]);refine tkY 28 ?_ rfl hS ?_ ?_;rotate_left
         ·intro wz hSz;have x0z := bcl hSz HXB0.out HX0.out;have x1z := bcl hSz HXB0.out HX1.out;have p0z := bcl hSz HXB0.out HP0.out;go_simp;(try simp only [HDa.out,HDb.out,HDc.out,HDc2.out,HDd.out]);all_goals with_reducible rfl
         (try simp only [Act.put,pu]);refine tkY 29 ?_ rfl hS ?_ ?_;rotate_left
         ·intro wz hSz;have x0z := bcl hSz HXB0.out HX0.out;have x1z := bcl hSz HXB0.out HX1.out;have p0z := bcl hSz HXB0.out HP0.out;go_simp;(try simp only [HDa.out,HDb.out,HDc.out,HDc2.out,HDd.out]);all_goals with_reducible rfl
         (try simp only [Act.put,pu]);refine tkY 30 ?_ rfl hS ?_ ?_;rotate_left
         ·intro wz hSz;have x0z := bcl hSz HXB0.out HX0.out;have x1z := bcl hSz HXB0.out HX1.out;have p0z := bcl hSz HXB0.out HP0.out;go_simp;(try simp only [HDa.out,HDb.out,HDc.out,HDc2.out,HDd.out]);all_goals with_reducible rfl
         try simp only [Act.put,pu]
         refine wpAnyH_ready (rs := [31]) (by kernel_rfl) (by simp) (AllReadyH.cons rfl (fun K' hK => ?_) AllReadyH.nil)
         go_simp
         refine (rlessT pn n true HLS.out HPS.out HFS.out.1 _).mono ?_; rintro e w8 ⟨rfl,hbq⟩
         refine hK.out _ _ ?_ (fun hSn => ?_)
         ·exact hS.trans (hbq.mono hS.size)
         clear hK K' hS hbq
         have hS := hSn
         clear hSn
         try dsimp only at hS
         (try simp only [Act.put,pu]);refine tkY 32 ?_ rfl hS ?_ ?_;rotate_left
         ·intro wz hSz;have x0z := bcl hSz HXB0.out HX0.out;have x1z := bcl hSz HXB0.out HX1.out;have p0z := bcl hSz HXB0.out HP0.out;go_simp;(try simp only [HDa.out,HDb.out,HDc.out,HDc2.out,HDd.out]);all_goals with_reducible rfl
         (try simp only [Act.put,pu]);refine tkY 33 ?_ rfl hS ?_ ?_;rotate_left
         ·intro wz hSz;have x0z := bcl hSz HXB0.out HX0.out;have x1z := bcl hSz HXB0.out HX1.out;have p0z := bcl hSz HXB0.out HP0.out;go_simp;(try simp only [HDa.out,HDb.out,HDc.out,HDc2.out,HDd.out]);all_goals with_reducible rfl
         (try simp only [Act.put,pu]);refine tkY 34 ?_ rfl hS ?_ ?_;rotate_left
         ·intro wz hSz;have x0z := bcl hSz HXB0.out HX0.out;have x1z := bcl hSz HXB0.out HX1.out;have p0z := bcl hSz HXB0.out HP0.out;go_simp;(try simp only [HDa.out,HDb.out,HDc.out,HDc2.out,HDd.out]);all_goals with_reducible rfl
         (try simp only [Act.put,pu]);refine tkY 35 ?_ rfl hS ?_ ?_;rotate_left
         ·intro wz hSz;have x0z := bcl hSz HXB0.out HX0.out;have x1z := bcl hSz HXB0.out HX1.out;have p0z := bcl hSz HXB0.out HP0.out;go_simp;(try simp only [HDa.out,HDb.out,HDc.out,HDc2.out,HDd.out]);all_goals with_reducible rfl
         (try simp only [Act.put,pu]);refine tkY 36 ?_ rfl hS ?_ ?_;rotate_left
         ·intro wz hSz;have x0z := bcl hSz HXB0.out HX0.out;have x1z := bcl hSz HXB0.out HX1.out;have p0z := bcl hSz HXB0.out HP0.out;go_simp;(try simp only [HDa.out,HDb.out,HDc.out,HDc2.out,HDd.out]);all_goals with_reducible rfl
         (try simp only [Act.put,pu]);refine tkY 37 ?_ rfl hS ?_ ?_;rotate_left
         ·intro wz hSz;have x0z := bcl hSz HXB0.out HX0.out;have x1z := bcl hSz HXB0.out HX1.out;have p0z := bcl hSz HXB0.out HP0.out;go_simp;(try simp only [HDa.out,HDb.out,HDc.out,HDc2.out,HDd.out]);all_goals with_reducible rfl
         (try simp only [Act.put,pu]);refine tkY 38 ?_ rfl hS ?_ ?_;rotate_left
         ·intro wz hSz;have x0z := bcl hSz HXB0.out HX0.out;have x1z := bcl hSz HXB0.out HX1.out;have p0z := bcl hSz HXB0.out HP0.out;go_simp;(try simp only [HDa.out,HDb.out,HDc.out,HDc2.out,HDd.out]);all_goals with_reducible rfl
         (try simp only [Act.put,pu]);refine tkY 39 ?_ rfl hS ?_ ?_;rotate_left
         ·intro wz hSz;have x0z := bcl hSz HXB0.out HX0.out;have x1z := bcl hSz HXB0.out HX1.out;have p0z := bcl hSz HXB0.out HP0.out;go_simp;(try simp only [HDa.out,HDb.out,HDc.out,HDc2.out,HDd.out]);all_goals with_reducible rfl
         (try simp only [Act.put,pu]);refine tkY 40 ?_ rfl hS ?_ ?_;rotate_left
         ·intro wz hSz;have x0z := bcl hSz HXB0.out HX0.out;have x1z := bcl hSz HXB0.out HX1.out;have p0z := bcl hSz HXB0.out HP0.out;go_simp;(try simp only [HDa.out,HDb.out,HDc.out,HDc2.out,HDd.out]);all_goals with_reducible rfl
         (try simp only [Act.put,pu]);refine tkY 41 ?_ rfl hS ?_ ?_;rotate_left
         ·intro wz hSz;have x0z := bcl hSz HXB0.out HX0.out;have x1z := bcl hSz HXB0.out HX1.out;have p0z := bcl hSz HXB0.out HP0.out;go_simp;(try simp only [HDa.out,HDb.out,HDc.out,HDc2.out,HDd.out]);all_goals with_reducible rfl
         (try simp only [Act.put,pu]);refine tkY 42 ?_ rfl hS ?_ ?_;rotate_left
         ·intro wz hSz;have x0z := bcl hSz HXB0.out HX0.out;have x1z := bcl hSz HXB0.out HX1.out;have p0z := bcl hSz HXB0.out HP0.out;go_simp;(try simp only [HDa.out,HDb.out,HDc.out,HDc2.out,HDd.out]);all_goals with_reducible rfl
         (try simp only [Act.put,pu]);refine tkY 43 ?_ rfl hS ?_ ?_;rotate_left
         ·intro wz hSz;have x0z := bcl hSz HXB0.out HX0.out;have x1z := bcl hSz HXB0.out HX1.out;have p0z := bcl hSz HXB0.out HP0.out;go_simp;(try simp only [HDa.out,HDb.out,HDc.out,HDc2.out,HDd.out]);all_goals with_reducible rfl
         try simp only [Act.put,pu]
         refine wpAnyH_done (by kernel_rfl) ?_ _
         have HS6 := Lib.hid hS
         have HBX := Lib.hid (HB.out.trans (hS.mono HB.out.size))
         clear hS
         go_wp2_with fail
         go_loopg [4] rs.length (fun gk u4 wx => ∃ k : Nat,u4 = .int .i64 (k : Int) ∧ k + gk = rs.length ∧ Below w.heap.size w wx ∧ (rowsGo rs gk k && tabsGo s gko i1) = R)
         case atStart => exact ⟨0,rfl,by omega,HBX.out,HRR.out⟩
         case round =>
          obtain ⟨k,rfl,hk,hB2,hr2⟩ := hrel
          have HB2 := Lib.hid hB2
          have HKK := Lib.hid hk
          obtain ⟨b',o',cp',he',_,hx'⟩ := (HH.out.below hB2).inv (by have := HI.out; omega)
          injection he' with ea' _ ec'
          injection ea' with ea'
          injection ea' with eb eo _
          subst eb eo ec'
          obtain ⟨x0',u',x1',hu'⟩ := hx' i (n,rs) HSI.out
          obtain ⟨ua,ucap,rfl⟩ := hu'.form
          cases gk with
          | zero =>
           have l2 : ¬ ((k : Int) < (rs.length : Int)) := by omega
           have HRN := Lib.hid (show tabsGo s gko i1 = R by rw [← hr2]; rfl)
           clear hk hB2 hr2 hx' hu'
           go_wp2
           go_roundg gko
           case measure => exact Nat.lt_succ_self _
           case rel => exact ⟨i1,rfl,by have := HI1.out; have := HI.out; omega,HB2.out,HRN.out⟩
          | succ gk =>
           have hkl : k < rs.length := by omega
           obtain ⟨rb,ro,rcap,hre,_,hrx⟩ := hu'.inv (by show 0 < rs.length; omega)
           injection hre with e1 _ e3
           subst e1 e3
           obtain ⟨r,hr0⟩ : ∃ r,rs[k] = r := ⟨_,rfl⟩
           have hrk : rs[k]? = some r := by rw [List.getElem?_eq_getElem hkl,hr0]
           obtain ⟨q0,q1⟩ := hrx k r hrk
           have hra2 : rowAt rs k = ((k == 0 || (match rs[k - 1]? with | some q => decide (q.1 < r.1) | none => true)) && (inN r.1 && inN r.2)) := by
            unfold rowAt; rw [hrk]; all_goals rfl
           have hpre2 : k ≠ 0 → ∃ (j : Nat) (pk pv : Int),j + 1 = k ∧ rs[k - 1]? = some (pk,pv) ∧ wr.cell? ⟨rb,ro + j * 2,none⟩ = some (.int .i64 pk) := fun hk0 => by
            have hj : rs[k - 1]? = some rs[k - 1] := List.getElem?_eq_getElem (by omega)
            exact ⟨k - 1,_,_,by omega,hj,(hrx (k - 1) _ hj).1⟩
           rw [rowsGo,hra2] at hr2
           obtain ⟨r0,r1⟩ := r
           simp only at q0 q1 hr2 hpre2
           have lk0 : (0 : Int) ≤ (k : Int) := by omega
           have lk1 : (k : Int) < (rs.length : Int) := by omega
           obtain ⟨k1,hk1⟩ : ∃ k1,k + 1 = k1 := ⟨_,rfl⟩
           have wk2 : IntKind.i64.wrap ((k : Int) + 1) = (k1 : Int) := by rw [show (k : Int) + 1 = (k1 : Int) by omega]; exact IntWalk.i64_in _ (by have := HFS.out.2; omega)
           rw [hk1] at hr2
           have HK1 := Lib.hid hk1
           have HQB := Lib.hid (World.block_lt_of_cell? _ _ q0)
           have HXB' := Lib.hid (World.block_lt_of_cell? _ _ x1')
           have HX1' := Lib.hid x1'
           have HR2 := Lib.hid hr2
           have HPR2 := Lib.hid hpre2
           clear hk hB2 hx' hu' hkl hrx hr0 hrk hra2 hk1 hr2 hpre2 x0'
           go_wp2_with fail
           obtain ⟨g5,hg5⟩ : ∃ g5,wr.heap.size = g5 := ⟨_,rfl⟩
           obtain ⟨W5,hW5⟩ : ∃ W5,wr.alloc (.cells #[.int .i64 r0,.int .i64 r1] 65) = W5 := ⟨_,rfl⟩
           have b5 : Below wr.heap.size wr W5 := by rw [← hW5]; exact (Below.refl _ _).alloc (Nat.le_refl _) _
           have k5 : Blk W5 g5 65 #[.int .i64 r0,.int .i64 r1] := by rw [← hW5]; exact Blk.newAt _ _ _ _ hg5
           rw [hW5,hg5]
           have HB5 := Lib.hid (HB2.out.trans (b5.mono HB2.out.size))
           have HK5 := Lib.hid k5
           have HX15 := Lib.hid ((b5.cell (p := ⟨b,o + i * 2 + 1,none⟩) HXB'.out).trans HX1'.out)
           have HXB5 := Lib.hid (Nat.lt_of_lt_of_le HXB'.out b5.size)
           have HPB := Lib.hid (Nat.lt_of_lt_of_le HQB.out b5.size)
           have HP5 := Lib.hid (fun hk0 => by
            obtain ⟨j,pk,pv,h1,h2,h3⟩ := HPR2.out hk0
            exact (⟨j,pk,pv,h1,h2,(b5.cell (p := ⟨rb,ro + j * 2,none⟩) HQB.out).trans h3⟩ : ∃ (j : Nat) (pk pv : Int),j + 1 = k ∧ rs[k - 1]? = some (pk,pv) ∧ W5.cell? ⟨rb,ro + j * 2,none⟩ = some (.int .i64 pk)))
           clear hW5 hg5 b5 k5 x1' q0 q1
           cases hin0 : inN r0 with
           | false =>
            have HRF : Hid (R = false) := Lib.hid (by have := HR2.out; rw [hin0] at this; simpa using this.symm)
            refine wp_region_held_drew (S := (fun w' => Below W5.heap.size W5 w')) (by kernel_rfl) ?_ (fun hS => ?_)
            ·exact (Below.refl _ _).drew
            try dsimp only at hS
            refine tkY 0 ?_ rfl hS ?_ ?_;rotate_left
            ·intro wz hSz;obtain ⟨yk,yv⟩ := bk2 HK5.out hSz;have x1z := bcl hSz HXB5.out HX15.out;go_simp;(try simp only [HDa.out,HDb.out,HDc.out,HDc2.out,HDd.out]);all_goals with_reducible rfl
            (try simp only [Act.put,pu]);refine tkY 1 ?_ rfl hS ?_ ?_;rotate_left
            ·intro wz hSz;obtain ⟨yk,yv⟩ := bk2 HK5.out hSz;have x1z := bcl hSz HXB5.out HX15.out;go_simp;(try simp only [HDa.out,HDb.out,HDc.out,HDc2.out,HDd.out]);all_goals with_reducible rfl
            try simp only [Act.put,pu]
            refine wpAnyH_ready (rs := [2]) (by kernel_rfl) (by simp) (AllReadyH.cons rfl (fun K' hK => ?_) AllReadyH.nil)
            go_simp
            refine (rinnB r0 false hin0 _).mono ?_; rintro e w7 ⟨rfl,hbq⟩
            refine hK.out _ _ ?_ (fun hSn => ?_)
            ·exact hS.trans (hbq.mono hS.size)
            clear hK K' hS hbq
            have hS := hSn
            clear hSn
            try dsimp only at hS
            (try simp only [Act.put,pu]);refine tkY 3 ?_ rfl hS ?_ ?_;rotate_left
            ·intro wz hSz;obtain ⟨yk,yv⟩ := bk2 HK5.out hSz;have x1z := bcl hSz HXB5.out HX15.out;go_simp;(try simp only [HDa.out,HDb.out,HDc.out,HDc2.out,HDd.out]);all_goals with_reducible rfl
            (try simp only [Act.put,pu]);refine tkY 4 ?_ rfl hS ?_ ?_;rotate_left
            ·intro wz hSz;obtain ⟨yk,yv⟩ := bk2 HK5.out hSz;have x1z := bcl hSz HXB5.out HX15.out;go_simp;(try simp only [HDa.out,HDb.out,HDc.out,HDc2.out,HDd.out]);all_goals with_reducible rfl
            (try simp only [Act.put,pu]);refine tkN 5 rfl hS ?_
            (try simp only [Act.put,pu]);refine tkN 6 rfl hS ?_
            (try simp only [Act.put,pu]);refine tkN 7 rfl hS ?_
            (try simp only [Act.put,pu]);refine tkN 8 rfl hS ?_
            (try simp only [Act.put,pu]);refine tkY 9 ?_ rfl hS ?_ ?_;rotate_left
            ·intro wz hSz;obtain ⟨yk,yv⟩ := bk2 HK5.out hSz;have x1z := bcl hSz HXB5.out HX15.out;go_simp;(try simp only [HDa.out,HDb.out,HDc.out,HDc2.out,HDd.out]);all_goals with_reducible rfl
            (try simp only [Act.put,pu]);refine tkY 10 ?_ rfl hS ?_ ?_;rotate_left
            ·intro wz hSz;obtain ⟨yk,yv⟩ := bk2 HK5.out hSz;have x1z := bcl hSz HXB5.out HX15.out;go_simp;(try simp only [HDa.out,HDb.out,HDc.out,HDc2.out,HDd.out]);all_goals with_reducible rfl
            (try simp only [Act.put,pu]);refine tkN 11 rfl hS ?_
            (try simp only [Act.put,pu]);refine tkN 12 rfl hS ?_
            (try simp only [Act.put,pu]);refine tkN 13 rfl hS ?_
            (try simp only [Act.put,pu]);refine tkN 14 rfl hS ?_
            (try simp only [Act.put,pu]);refine tkN 15 rfl hS ?_
            (try simp only [Act.put,pu]);refine tkN 16 rfl hS ?_
            (try simp only [Act.put,pu]);refine tkN 17 rfl hS ?_
            (try simp only [Act.put,pu]);refine tkN 18 rfl hS ?_
            (try simp only [Act.put,pu]);refine tkN 19 rfl hS ?_
            (try simp only [Act.put,pu]);refine tkN 20 rfl hS ?_
            (try simp only [Act.put,pu]);refine tkN 21 rfl hS ?_
            (try simp only [Act.put,pu]);refine tkN 22 rfl hS ?_
            (try simp only [Act.put,pu]);refine tkN 23 rfl hS ?_
            (try simp only [Act.put,pu]);refine tkN 24 rfl hS ?_
            (try simp only [Act.put,pu]);refine tkN 25 rfl hS ?_
            (try simp only [Act.put,pu]);refine tkN 26 rfl hS ?_
            (try simp only [Act.put,pu]);refine tkN 27 rfl hS ?_
            (try simp only [Act.put,pu]);refine tkY 28 ?_ rfl hS ?_ ?_;rotate_left
            ·intro wz hSz;obtain ⟨yk,yv⟩ := bk2 HK5.out hSz;have x1z := bcl hSz HXB5.out HX15.out;go_simp;(try simp only [HDa.out,HDb.out,HDc.out,HDc2.out,HDd.out]);all_goals with_reducible rfl
            try simp only [Act.put,pu]
            refine wpAnyH_done (by kernel_rfl) ?_ _
            have HS := Lib.hid hS
            clear hS
            go_wp2
            go_ret
            exact ⟨by rw [HRF.out]; rfl,HB5.out.trans (HS.out.mono HB5.out.size)⟩
           | true =>
            cases hin1 : inN r1 with
            | false =>
             have HRF : Hid (R = false) := Lib.hid (by have := HR2.out; rw [hin0,hin1] at this; simpa using this.symm)
             refine wp_region_held_drew (S := (fun w' => Below W5.heap.size W5 w')) (by kernel_rfl) ?_ (fun hS => ?_)
             ·exact (Below.refl _ _).drew
             try dsimp only at hS
             refine tkY 0 ?_ rfl hS ?_ ?_;rotate_left
             ·intro wz hSz;obtain ⟨yk,yv⟩ := bk2 HK5.out hSz;have x1z := bcl hSz HXB5.out HX15.out;go_simp;(try simp only [HDa.out,HDb.out,HDc.out,HDc2.out,HDd.out]);all_goals with_reducible rfl
             (try simp only [Act.put,pu]);refine tkY 1 ?_ rfl hS ?_ ?_;rotate_left
             ·intro wz hSz;obtain ⟨yk,yv⟩ := bk2 HK5.out hSz;have x1z := bcl hSz HXB5.out HX15.out;go_simp;(try simp only [HDa.out,HDb.out,HDc.out,HDc2.out,HDd.out]);all_goals with_reducible rfl
             try simp only [Act.put,pu]
             refine wpAnyH_ready (rs := [2]) (by kernel_rfl) (by simp) (AllReadyH.cons rfl (fun K' hK => ?_) AllReadyH.nil)
             go_simp
             refine (rinnB r0 true hin0 _).mono ?_; rintro e w7 ⟨rfl,hbq⟩
             refine hK.out _ _ ?_ (fun hSn => ?_)
             ·exact hS.trans (hbq.mono hS.size)
             clear hK K' hS hbq
             have hS := hSn
             clear hSn
             try dsimp only at hS
             (try simp only [Act.put,pu]);refine tkY 3 ?_ rfl hS ?_ ?_;rotate_left
             ·intro wz hSz;obtain ⟨yk,yv⟩ := bk2 HK5.out hSz;have x1z := bcl hSz HXB5.out HX15.out;go_simp;(try simp only [HDa.out,HDb.out,HDc.out,HDc2.out,HDd.out]);all_goals with_reducible rfl
             (try simp only [Act.put,pu]);refine tkY 4 ?_ rfl hS ?_ ?_;rotate_left
             ·intro wz hSz;obtain ⟨yk,yv⟩ := bk2 HK5.out hSz;have x1z := bcl hSz HXB5.out HX15.out;go_simp;(try simp only [HDa.out,HDb.out,HDc.out,HDc2.out,HDd.out]);all_goals with_reducible rfl
             (try simp only [Act.put,pu]);refine tkY 5 ?_ rfl hS ?_ ?_;rotate_left
             ·intro wz hSz;obtain ⟨yk,yv⟩ := bk2 HK5.out hSz;have x1z := bcl hSz HXB5.out HX15.out;go_simp;(try simp only [HDa.out,HDb.out,HDc.out,HDc2.out,HDd.out]);all_goals with_reducible rfl
             (try simp only [Act.put,pu]);refine tkY 6 ?_ rfl hS ?_ ?_;rotate_left
             ·intro wz hSz;obtain ⟨yk,yv⟩ := bk2 HK5.out hSz;have x1z := bcl hSz HXB5.out HX15.out;go_simp;(try simp only [HDa.out,HDb.out,HDc.out,HDc2.out,HDd.out]);all_goals with_reducible rfl
             try simp only [Act.put,pu]
             refine wpAnyH_ready (rs := [7]) (by kernel_rfl) (by simp) (AllReadyH.cons rfl (fun K' hK => ?_) AllReadyH.nil)
             go_simp
             refine (rinnB r1 false hin1 _).mono ?_; rintro e w8 ⟨rfl,hbq⟩
             refine hK.out _ _ ?_ (fun hSn => ?_)
             ·exact hS.trans (hbq.mono hS.size)
             clear hK K' hS hbq
             have hS := hSn
             clear hSn
             try dsimp only at hS
             (try simp only [Act.put,pu]);refine tkY 8 ?_ rfl hS ?_ ?_;rotate_left
             ·intro wz hSz;obtain ⟨yk,yv⟩ := bk2 HK5.out hSz;have x1z := bcl hSz HXB5.out HX15.out;go_simp;(try simp only [HDa.out,HDb.out,HDc.out,HDc2.out,HDd.out]);all_goals with_reducible rfl
             (try simp only [Act.put,pu]);refine tkY 9 ?_ rfl hS ?_ ?_;rotate_left
             ·intro wz hSz;obtain ⟨yk,yv⟩ := bk2 HK5.out hSz;have x1z := bcl hSz HXB5.out HX15.out;go_simp;(try simp only [HDa.out,HDb.out,HDc.out,HDc2.out,HDd.out]);all_goals with_reducible rfl
             (try simp only [Act.put,pu]);refine tkY 10 ?_ rfl hS ?_ ?_;rotate_left
             ·intro wz hSz;obtain ⟨yk,yv⟩ := bk2 HK5.out hSz;have x1z := bcl hSz HXB5.out HX15.out;go_simp;(try simp only [HDa.out,HDb.out,HDc.out,HDc2.out,HDd.out]);all_goals with_reducible rfl
             (try simp only [Act.put,pu]);refine tkN 11 rfl hS ?_
             (try simp only [Act.put,pu]);refine tkN 12 rfl hS ?_
             (try simp only [Act.put,pu]);refine tkN 13 rfl hS ?_
             (try simp only [Act.put,pu]);refine tkN 14 rfl hS ?_
             (try simp only [Act.put,pu]);refine tkN 15 rfl hS ?_
             (try simp only [Act.put,pu]);refine tkN 16 rfl hS ?_
             (try simp only [Act.put,pu]);refine tkN 17 rfl hS ?_
             (try simp only [Act.put,pu]);refine tkN 18 rfl hS ?_
             (try simp only [Act.put,pu]);refine tkN 19 rfl hS ?_
             (try simp only [Act.put,pu]);refine tkN 20 rfl hS ?_
             (try simp only [Act.put,pu]);refine tkN 21 rfl hS ?_
             (try simp only [Act.put,pu]);refine tkN 22 rfl hS ?_
             (try simp only [Act.put,pu]);refine tkN 23 rfl hS ?_
             (try simp only [Act.put,pu]);refine tkN 24 rfl hS ?_
             (try simp only [Act.put,pu]);refine tkN 25 rfl hS ?_
             (try simp only [Act.put,pu]);refine tkN 26 rfl hS ?_
             (try simp only [Act.put,pu]);refine tkN 27 rfl hS ?_
             (try simp only [Act.put,pu]);refine tkY 28 ?_ rfl hS ?_ ?_;rotate_left
             ·intro wz hSz;obtain ⟨yk,yv⟩ := bk2 HK5.out hSz;have x1z := bcl hSz HXB5.out HX15.out;go_simp;(try simp only [HDa.out,HDb.out,HDc.out,HDc2.out,HDd.out]);all_goals with_reducible rfl
             try simp only [Act.put,pu]
             refine wpAnyH_done (by kernel_rfl) ?_ _
             have HS := Lib.hid hS
             clear hS
             go_wp2
             go_ret
             exact ⟨by rw [HRF.out]; rfl,HB5.out.trans (HS.out.mono HB5.out.size)⟩
            | true =>
             by_cases hk0 : k = 0
             ·have lkz : ¬ ((0 : Int) < (k : Int)) := by omega
              have HDb := Lib.hid (show decide ((0 : Int) < (k : Int)) = false from decide_eq_false lkz)
              have HDc := Lib.hid (show decide (0 < k) = false from decide_eq_false (by omega))
              have HRN := Lib.hid (show (rowsGo rs gk k1 && tabsGo s gko i1) = R by have := HR2.out; rw [hin0,hin1,hk0] at this; simpa using this)
              clear hk0
              refine wp_region_held_drew (S := (fun w' => Below W5.heap.size W5 w')) (by kernel_rfl) ?_ (fun hS => ?_)
              ·exact (Below.refl _ _).drew
              try dsimp only at hS
              refine tkY 0 ?_ rfl hS ?_ ?_;rotate_left
              ·intro wz hSz;obtain ⟨yk,yv⟩ := bk2 HK5.out hSz;have x1z := bcl hSz HXB5.out HX15.out;go_simp;(try simp only [HDa.out,HDb.out,HDc.out,HDc2.out,HDd.out]);all_goals with_reducible rfl
              (try simp only [Act.put,pu]);refine tkY 1 ?_ rfl hS ?_ ?_;rotate_left
              ·intro wz hSz;obtain ⟨yk,yv⟩ := bk2 HK5.out hSz;have x1z := bcl hSz HXB5.out HX15.out;go_simp;(try simp only [HDa.out,HDb.out,HDc.out,HDc2.out,HDd.out]);all_goals with_reducible rfl
              try simp only [Act.put,pu]
              refine wpAnyH_ready (rs := [2]) (by kernel_rfl) (by simp) (AllReadyH.cons rfl (fun K' hK => ?_) AllReadyH.nil)
              go_simp
              refine (rinnB r0 true hin0 _).mono ?_; rintro e w7 ⟨rfl,hbq⟩
              refine hK.out _ _ ?_ (fun hSn => ?_)
              ·exact hS.trans (hbq.mono hS.size)
              clear hK K' hS hbq
              have hS := hSn
              clear hSn
              try dsimp only at hS
              (try simp only [Act.put,pu]);refine tkY 3 ?_ rfl hS ?_ ?_;rotate_left
              ·intro wz hSz;obtain ⟨yk,yv⟩ := bk2 HK5.out hSz;have x1z := bcl hSz HXB5.out HX15.out;go_simp;(try simp only [HDa.out,HDb.out,HDc.out,HDc2.out,HDd.out]);all_goals with_reducible rfl
              (try simp only [Act.put,pu]);refine tkY 4 ?_ rfl hS ?_ ?_;rotate_left
              ·intro wz hSz;obtain ⟨yk,yv⟩ := bk2 HK5.out hSz;have x1z := bcl hSz HXB5.out HX15.out;go_simp;(try simp only [HDa.out,HDb.out,HDc.out,HDc2.out,HDd.out]);all_goals with_reducible rfl
              (try simp only [Act.put,pu]);refine tkY 5 ?_ rfl hS ?_ ?_;rotate_left
              ·intro wz hSz;obtain ⟨yk,yv⟩ := bk2 HK5.out hSz;have x1z := bcl hSz HXB5.out HX15.out;go_simp;(try simp only [HDa.out,HDb.out,HDc.out,HDc2.out,HDd.out]);all_goals with_reducible rfl
              (try simp only [Act.put,pu]);refine tkY 6 ?_ rfl hS ?_ ?_;rotate_left
              ·intro wz hSz;obtain ⟨yk,yv⟩ := bk2 HK5.out hSz;have x1z := bcl hSz HXB5.out HX15.out;go_simp;(try simp only [HDa.out,HDb.out,HDc.out,HDc2.out,HDd.out]);all_goals with_reducible rfl
              try simp only [Act.put,pu]
              refine wpAnyH_ready (rs := [7]) (by kernel_rfl) (by simp) (AllReadyH.cons rfl (fun K' hK => ?_) AllReadyH.nil)
              go_simp
              refine (rinnB r1 true hin1 _).mono ?_; rintro e w8 ⟨rfl,hbq⟩
              refine hK.out _ _ ?_ (fun hSn => ?_)
              ·exact hS.trans (hbq.mono hS.size)
              clear hK K' hS hbq
              have hS := hSn
              clear hSn
              try dsimp only at hS
              (try simp only [Act.put,pu]);refine tkY 8 ?_ rfl hS ?_ ?_;rotate_left
              ·intro wz hSz;obtain ⟨yk,yv⟩ := bk2 HK5.out hSz;have x1z := bcl hSz HXB5.out HX15.out;go_simp;(try simp only [HDa.out,HDb.out,HDc.out,HDc2.out,HDd.out]);all_goals with_reducible rfl
              (try simp only [Act.put,pu]);refine tkY 9 ?_ rfl hS ?_ ?_;rotate_left
              ·intro wz hSz;obtain ⟨yk,yv⟩ := bk2 HK5.out hSz;have x1z := bcl hSz HXB5.out HX15.out;go_simp;(try simp only [HDa.out,HDb.out,HDc.out,HDc2.out,HDd.out]);all_goals with_reducible rfl
              (try simp only [Act.put,pu]);refine tkY 10 ?_ rfl hS ?_ ?_;rotate_left
              ·intro wz hSz;obtain ⟨yk,yv⟩ := bk2 HK5.out hSz;have x1z := bcl hSz HXB5.out HX15.out;go_simp;(try simp only [HDa.out,HDb.out,HDc.out,HDc2.out,HDd.out]);all_goals with_reducible rfl
              (try simp only [Act.put,pu]);refine tkY 11 ?_ rfl hS ?_ ?_;rotate_left
              ·intro wz hSz;obtain ⟨yk,yv⟩ := bk2 HK5.out hSz;have x1z := bcl hSz HXB5.out HX15.out;go_simp;(try simp only [HDa.out,HDb.out,HDc.out,HDc2.out,HDd.out]);all_goals with_reducible rfl
              (try simp only [Act.put,pu]);refine tkY 12 ?_ rfl hS ?_ ?_;rotate_left
              ·intro wz hSz;obtain ⟨yk,yv⟩ := bk2 HK5.out hSz;have x1z := bcl hSz HXB5.out HX15.out;go_simp;(try simp only [HDa.out,HDb.out,HDc.out,HDc2.out,HDd.out]);all_goals with_reducible rfl
              (try simp only [Act.put,pu]);refine tkY 13 ?_ rfl hS ?_ ?_;rotate_left
              ·intro wz hSz;obtain ⟨yk,yv⟩ := bk2 HK5.out hSz;have x1z := bcl hSz HXB5.out HX15.out;go_simp;(try simp only [HDa.out,HDb.out,HDc.out,HDc2.out,HDd.out]);all_goals with_reducible rfl
              (try simp only [Act.put,pu]);refine tkN 14 rfl hS ?_
              (try simp only [Act.put,pu]);refine tkN 15 rfl hS ?_
              (try simp only [Act.put,pu]);refine tkN 16 rfl hS ?_
              (try simp only [Act.put,pu]);refine tkN 17 rfl hS ?_
              (try simp only [Act.put,pu]);refine tkN 18 rfl hS ?_
              (try simp only [Act.put,pu]);refine tkN 19 rfl hS ?_
              (try simp only [Act.put,pu]);refine tkN 20 rfl hS ?_
              (try simp only [Act.put,pu]);refine tkN 21 rfl hS ?_
              (try simp only [Act.put,pu]);refine tkN 22 rfl hS ?_
              (try simp only [Act.put,pu]);refine tkN 23 rfl hS ?_
              (try simp only [Act.put,pu]);refine tkN 24 rfl hS ?_
              (try simp only [Act.put,pu]);refine tkN 25 rfl hS ?_
              (try simp only [Act.put,pu]);refine tkN 26 rfl hS ?_
              (try simp only [Act.put,pu]);refine tkY 27 ?_ rfl hS ?_ ?_;rotate_left
              ·intro wz hSz;obtain ⟨yk,yv⟩ := bk2 HK5.out hSz;have x1z := bcl hSz HXB5.out HX15.out;go_simp;(try simp only [HDa.out,HDb.out,HDc.out,HDc2.out,HDd.out]);all_goals with_reducible rfl
              (try simp only [Act.put,pu]);refine tkY 28 ?_ rfl hS ?_ ?_;rotate_left
              ·intro wz hSz;obtain ⟨yk,yv⟩ := bk2 HK5.out hSz;have x1z := bcl hSz HXB5.out HX15.out;go_simp;(try simp only [HDa.out,HDb.out,HDc.out,HDc2.out,HDd.out]);all_goals with_reducible rfl
              try simp only [Act.put,pu]
              refine wpAnyH_done (by kernel_rfl) ?_ _
              have HS := Lib.hid hS
              clear hS
              go_wp2
              go_roundg gk
              case measure => exact Nat.lt_succ_self _
              case rel => exact ⟨k1,rfl,by have := HK1.out; have := HKK.out; omega,HB5.out.trans (HS.out.mono HB5.out.size),HRN.out⟩
             ·have lkz : (0 : Int) < (k : Int) := by omega
              have lkzn : 0 < k := by omega
              have HDb := Lib.hid (show decide ((0 : Int) < (k : Int)) = true from decide_eq_true lkz)
              have HDc := Lib.hid (show decide (0 < k) = true from decide_eq_true lkzn)
              obtain ⟨j,pk,pv,hj1,hj2,hj3⟩ := HP5.out hk0
              have HP0 := Lib.hid hj3
              have wm : IntKind.i64.wrap ((k : Int) - 1) = (j : Int) := by rw [show (k : Int) - 1 = (j : Int) by omega]; exact IntWalk.i64_in _ (by have := HFS.out.2; omega)
              have lj0 : (0 : Int) ≤ (j : Int) := by omega
              have lj1 : (j : Int) < (rs.length : Int) := by omega
              have hkb : (k == 0) = false := beq_eq_false_iff_ne.2 hk0
              by_cases hlt : pk < r0
              ·have lpk : ¬ (r0 ≤ pk) := by omega
               have HDd := Lib.hid (show decide (r0 ≤ pk) = false from decide_eq_false lpk)
               have HRN := Lib.hid (show (rowsGo rs gk k1 && tabsGo s gko i1) = R by have := HR2.out; rw [hin0,hin1,hj2,hkb] at this; simpa [hlt] using this)
               clear hk0 hj1 hj2 hj3 hkb hlt
               refine wp_region_held_drew (S := (fun w' => Below W5.heap.size W5 w')) (by kernel_rfl) ?_ (fun hS => ?_)
               ·exact (Below.refl _ _).drew
               try dsimp only at hS
               refine tkY 0 ?_ rfl hS ?_ ?_;rotate_left
               ·intro wz hSz;obtain ⟨yk,yv⟩ := bk2 HK5.out hSz;have x1z := bcl hSz HXB5.out HX15.out;have p0z := bcl hSz HPB.out HP0.out;go_simp;(try simp only [HDa.out,HDb.out,HDc.out,HDc2.out,HDd.out]);all_goals with_reducible rfl
               (try simp only [Act.put,pu]);refine tkY 1 ?_ rfl hS ?_ ?_;rotate_left
               ·intro wz hSz;obtain ⟨yk,yv⟩ := bk2 HK5.out hSz;have x1z := bcl hSz HXB5.out HX15.out;have p0z := bcl hSz HPB.out HP0.out;go_simp;(try simp only [HDa.out,HDb.out,HDc.out,HDc2.out,HDd.out]);all_goals with_reducible rfl
               try simp only [Act.put,pu]
               refine wpAnyH_ready (rs := [2]) (by kernel_rfl) (by simp) (AllReadyH.cons rfl (fun K' hK => ?_) AllReadyH.nil)
               go_simp
               refine (rinnB r0 true hin0 _).mono ?_; rintro e w7 ⟨rfl,hbq⟩
               refine hK.out _ _ ?_ (fun hSn => ?_)
               ·exact hS.trans (hbq.mono hS.size)
               clear hK K' hS hbq
               have hS := hSn
               clear hSn
               try dsimp only at hS
               (try simp only [Act.put,pu]);refine tkY 3 ?_ rfl hS ?_ ?_;rotate_left
               ·intro wz hSz;obtain ⟨yk,yv⟩ := bk2 HK5.out hSz;have x1z := bcl hSz HXB5.out HX15.out;have p0z := bcl hSz HPB.out HP0.out;go_simp;(try simp only [HDa.out,HDb.out,HDc.out,HDc2.out,HDd.out]);all_goals with_reducible rfl
               (try simp only [Act.put,pu]);refine tkY 4 ?_ rfl hS ?_ ?_;rotate_left
               ·intro wz hSz;obtain ⟨yk,yv⟩ := bk2 HK5.out hSz;have x1z := bcl hSz HXB5.out HX15.out;have p0z := bcl hSz HPB.out HP0.out;go_simp;(try simp only [HDa.out,HDb.out,HDc.out,HDc2.out,HDd.out]);all_goals with_reducible rfl
               (try simp only [Act.put,pu]);refine tkY 5 ?_ rfl hS ?_ ?_;rotate_left
               ·intro wz hSz;obtain ⟨yk,yv⟩ := bk2 HK5.out hSz;have x1z := bcl hSz HXB5.out HX15.out;have p0z := bcl hSz HPB.out HP0.out;go_simp;(try simp only [HDa.out,HDb.out,HDc.out,HDc2.out,HDd.out]);all_goals with_reducible rfl
               (try simp only [Act.put,pu]);refine tkY 6 ?_ rfl hS ?_ ?_;rotate_left
               ·intro wz hSz;obtain ⟨yk,yv⟩ := bk2 HK5.out hSz;have x1z := bcl hSz HXB5.out HX15.out;have p0z := bcl hSz HPB.out HP0.out;go_simp;(try simp only [HDa.out,HDb.out,HDc.out,HDc2.out,HDd.out]);all_goals with_reducible rfl
               try simp only [Act.put,pu]
               refine wpAnyH_ready (rs := [7]) (by kernel_rfl) (by simp) (AllReadyH.cons rfl (fun K' hK => ?_) AllReadyH.nil)
               go_simp
               refine (rinnB r1 true hin1 _).mono ?_; rintro e w8 ⟨rfl,hbq⟩
               refine hK.out _ _ ?_ (fun hSn => ?_)
               ·exact hS.trans (hbq.mono hS.size)
               clear hK K' hS hbq
               have hS := hSn
               clear hSn
               try dsimp only at hS
               (try simp only [Act.put,pu]);refine tkY 8 ?_ rfl hS ?_ ?_;rotate_left
               ·intro wz hSz;obtain ⟨yk,yv⟩ := bk2 HK5.out hSz;have x1z := bcl hSz HXB5.out HX15.out;have p0z := bcl hSz HPB.out HP0.out;go_simp;(try simp only [HDa.out,HDb.out,HDc.out,HDc2.out,HDd.out]);all_goals with_reducible rfl
               (try simp only [Act.put,pu]);refine tkY 9 ?_ rfl hS ?_ ?_;rotate_left
               ·intro wz hSz;obtain ⟨yk,yv⟩ := bk2 HK5.out hSz;have x1z := bcl hSz HXB5.out HX15.out;have p0z := bcl hSz HPB.out HP0.out;go_simp;(try simp only [HDa.out,HDb.out,HDc.out,HDc2.out,HDd.out]);all_goals with_reducible rfl
               (try simp only [Act.put,pu]);refine tkY 10 ?_ rfl hS ?_ ?_;rotate_left
               ·intro wz hSz;obtain ⟨yk,yv⟩ := bk2 HK5.out hSz;have x1z := bcl hSz HXB5.out HX15.out;have p0z := bcl hSz HPB.out HP0.out;go_simp;(try simp only [HDa.out,HDb.out,HDc.out,HDc2.out,HDd.out]);all_goals with_reducible rfl
               (try simp only [Act.put,pu]);refine tkY 11 ?_ rfl hS ?_ ?_;rotate_left
               ·intro wz hSz;obtain ⟨yk,yv⟩ := bk2 HK5.out hSz;have x1z := bcl hSz HXB5.out HX15.out;have p0z := bcl hSz HPB.out HP0.out;go_simp;(try simp only [HDa.out,HDb.out,HDc.out,HDc2.out,HDd.out]);all_goals with_reducible rfl
               (try simp only [Act.put,pu]);refine tkY 12 ?_ rfl hS ?_ ?_;rotate_left
               ·intro wz hSz;obtain ⟨yk,yv⟩ := bk2 HK5.out hSz;have x1z := bcl hSz HXB5.out HX15.out;have p0z := bcl hSz HPB.out HP0.out;go_simp;(try simp only [HDa.out,HDb.out,HDc.out,HDc2.out,HDd.out]);all_goals with_reducible rfl
               (try simp only [Act.put,pu]);refine tkY 13 ?_ rfl hS ?_ ?_;rotate_left
               ·intro wz hSz;obtain ⟨yk,yv⟩ := bk2 HK5.out hSz;have x1z := bcl hSz HXB5.out HX15.out;have p0z := bcl hSz HPB.out HP0.out;go_simp;(try simp only [HDa.out,HDb.out,HDc.out,HDc2.out,HDd.out]);all_goals with_reducible rfl
               (try simp only [Act.put,pu]);refine tkY 14 ?_ rfl hS ?_ ?_;rotate_left
               ·intro wz hSz;obtain ⟨yk,yv⟩ := bk2 HK5.out hSz;have x1z := bcl hSz HXB5.out HX15.out;have p0z := bcl hSz HPB.out HP0.out;go_simp;(try simp only [HDa.out,HDb.out,HDc.out,HDc2.out,HDd.out]);all_goals with_reducible rfl
               (try simp only [Act.put,pu]);refine tkY 15 ?_ rfl hS ?_ ?_;rotate_left
               ·intro wz hSz;obtain ⟨yk,yv⟩ := bk2 HK5.out hSz;have x1z := bcl hSz HXB5.out HX15.out;have p0z := bcl hSz HPB.out HP0.out;go_simp;(try simp only [HDa.out,HDb.out,HDc.out,HDc2.out,HDd.out]);all_goals with_reducible rfl
               (try simp only [Act.put,pu]);refine tkY 16 ?_ rfl hS ?_ ?_;rotate_left
               ·intro wz hSz;obtain ⟨yk,yv⟩ := bk2 HK5.out hSz;have x1z := bcl hSz HXB5.out HX15.out;have p0z := bcl hSz HPB.out HP0.out;go_simp;(try simp only [HDa.out,HDb.out,HDc.out,HDc2.out,HDd.out]);all_goals with_reducible rfl
               (try simp only [Act.put,pu]);refine tkY 17 ?_ rfl hS ?_ ?_;rotate_left
               ·intro wz hSz;obtain ⟨yk,yv⟩ := bk2 HK5.out hSz;have x1z := bcl hSz HXB5.out HX15.out;have p0z := bcl hSz HPB.out HP0.out;go_simp;(try simp only [HDa.out,HDb.out,HDc.out,HDc2.out,HDd.out]);all_goals with_reducible rfl
               (try simp only [Act.put,pu]);refine tkY 18 ?_ rfl hS ?_ ?_;rotate_left
               ·intro wz hSz;obtain ⟨yk,yv⟩ := bk2 HK5.out hSz;have x1z := bcl hSz HXB5.out HX15.out;have p0z := bcl hSz HPB.out HP0.out;go_simp;(try simp only [HDa.out,HDb.out,HDc.out,HDc2.out,HDd.out]);all_goals with_reducible rfl
               (try simp only [Act.put,pu]);refine tkY 19 ?_ rfl hS ?_ ?_;rotate_left
               ·intro wz hSz;obtain ⟨yk,yv⟩ := bk2 HK5.out hSz;have x1z := bcl hSz HXB5.out HX15.out;have p0z := bcl hSz HPB.out HP0.out;go_simp;(try simp only [HDa.out,HDb.out,HDc.out,HDc2.out,HDd.out]);all_goals with_reducible rfl
               (try simp only [Act.put,pu]);refine tkY 20 ?_ rfl hS ?_ ?_;rotate_left
               ·intro wz hSz;obtain ⟨yk,yv⟩ := bk2 HK5.out hSz;have x1z := bcl hSz HXB5.out HX15.out;have p0z := bcl hSz HPB.out HP0.out;go_simp;(try simp only [HDa.out,HDb.out,HDc.out,HDc2.out,HDd.out]);all_goals with_reducible rfl
               (try simp only [Act.put,pu]);refine tkY 21 ?_ rfl hS ?_ ?_;rotate_left
               ·intro wz hSz;obtain ⟨yk,yv⟩ := bk2 HK5.out hSz;have x1z := bcl hSz HXB5.out HX15.out;have p0z := bcl hSz HPB.out HP0.out;go_simp;(try simp only [HDa.out,HDb.out,HDc.out,HDc2.out,HDd.out]);all_goals with_reducible rfl
               (try simp only [Act.put,pu]);refine tkY 22 ?_ rfl hS ?_ ?_;rotate_left
               ·intro wz hSz;obtain ⟨yk,yv⟩ := bk2 HK5.out hSz;have x1z := bcl hSz HXB5.out HX15.out;have p0z := bcl hSz HPB.out HP0.out;go_simp;(try simp only [HDa.out,HDb.out,HDc.out,HDc2.out,HDd.out]);all_goals with_reducible rfl
               (try simp only [Act.put,pu]);refine tkY 23 ?_ rfl hS ?_ ?_;rotate_left
               ·intro wz hSz;obtain ⟨yk,yv⟩ := bk2 HK5.out hSz;have x1z := bcl hSz HXB5.out HX15.out;have p0z := bcl hSz HPB.out HP0.out;go_simp;(try simp only [HDa.out,HDb.out,HDc.out,HDc2.out,HDd.out]);all_goals with_reducible rfl
               (try simp only [Act.put,pu]);refine tkY 24 ?_ rfl hS ?_ ?_;rotate_left
               ·intro wz hSz;obtain ⟨yk,yv⟩ := bk2 HK5.out hSz;have x1z := bcl hSz HXB5.out HX15.out;have p0z := bcl hSz HPB.out HP0.out;go_simp;(try simp only [HDa.out,HDb.out,HDc.out,HDc2.out,HDd.out]);all_goals with_reducible rfl
               (try simp only [Act.put,pu]);refine tkY 25 ?_ rfl hS ?_ ?_;rotate_left
               ·intro wz hSz;obtain ⟨yk,yv⟩ := bk2 HK5.out hSz;have x1z := bcl hSz HXB5.out HX15.out;have p0z := bcl hSz HPB.out HP0.out;go_simp;(try simp only [HDa.out,HDb.out,HDc.out,HDc2.out,HDd.out]);all_goals with_reducible rfl
               (try simp only [Act.put,pu]);refine tkY 26 ?_ rfl hS ?_ ?_;rotate_left
               ·intro wz hSz;obtain ⟨yk,yv⟩ := bk2 HK5.out hSz;have x1z := bcl hSz HXB5.out HX15.out;have p0z := bcl hSz HPB.out HP0.out;go_simp;(try simp only [HDa.out,HDb.out,HDc.out,HDc2.out,HDd.out]);all_goals with_reducible rfl
               (try simp only [Act.put,pu]);refine tkY 27 ?_ rfl hS ?_ ?_;rotate_left
               ·intro wz hSz;obtain ⟨yk,yv⟩ := bk2 HK5.out hSz;have x1z := bcl hSz HXB5.out HX15.out;have p0z := bcl hSz HPB.out HP0.out;go_simp;(try simp only [HDa.out,HDb.out,HDc.out,HDc2.out,HDd.out]);all_goals with_reducible rfl
               (try simp only [Act.put,pu]);refine tkY 28 ?_ rfl hS ?_ ?_;rotate_left
               ·intro wz hSz;obtain ⟨yk,yv⟩ := bk2 HK5.out hSz;have x1z := bcl hSz HXB5.out HX15.out;have p0z := bcl hSz HPB.out HP0.out;go_simp;(try simp only [HDa.out,HDb.out,HDc.out,HDc2.out,HDd.out]);all_goals with_reducible rfl
               try simp only [Act.put,pu]
               refine wpAnyH_done (by kernel_rfl) ?_ _
               have HS := Lib.hid hS
               clear hS
               go_wp2
               go_roundg gk
               case measure => exact Nat.lt_succ_self _
               case rel => exact ⟨k1,rfl,by have := HK1.out; have := HKK.out; omega,HB5.out.trans (HS.out.mono HB5.out.size),HRN.out⟩
              ·have lpk : r0 ≤ pk := by omega
               have HDd := Lib.hid (show decide (r0 ≤ pk) = true from decide_eq_true lpk)
               have HRF : Hid (R = false) := Lib.hid (by have := HR2.out; rw [hin0,hin1,hj2,hkb] at this; simpa [hlt] using this.symm)
               clear hk0 hj1 hj2 hj3 hkb hlt
               refine wp_region_held_drew (S := (fun w' => Below W5.heap.size W5 w')) (by kernel_rfl) ?_ (fun hS => ?_)
               ·exact (Below.refl _ _).drew
               try dsimp only at hS
               refine tkY 0 ?_ rfl hS ?_ ?_;rotate_left
               ·intro wz hSz;obtain ⟨yk,yv⟩ := bk2 HK5.out hSz;have x1z := bcl hSz HXB5.out HX15.out;have p0z := bcl hSz HPB.out HP0.out;go_simp;(try simp only [HDa.out,HDb.out,HDc.out,HDc2.out,HDd.out]);all_goals with_reducible rfl
               (try simp only [Act.put,pu]);refine tkY 1 ?_ rfl hS ?_ ?_;rotate_left
               ·intro wz hSz;obtain ⟨yk,yv⟩ := bk2 HK5.out hSz;have x1z := bcl hSz HXB5.out HX15.out;have p0z := bcl hSz HPB.out HP0.out;go_simp;(try simp only [HDa.out,HDb.out,HDc.out,HDc2.out,HDd.out]);all_goals with_reducible rfl
               try simp only [Act.put,pu]
               refine wpAnyH_ready (rs := [2]) (by kernel_rfl) (by simp) (AllReadyH.cons rfl (fun K' hK => ?_) AllReadyH.nil)
               go_simp
               refine (rinnB r0 true hin0 _).mono ?_; rintro e w7 ⟨rfl,hbq⟩
               refine hK.out _ _ ?_ (fun hSn => ?_)
               ·exact hS.trans (hbq.mono hS.size)
               clear hK K' hS hbq
               have hS := hSn
               clear hSn
               try dsimp only at hS
               (try simp only [Act.put,pu]);refine tkY 3 ?_ rfl hS ?_ ?_;rotate_left
               ·intro wz hSz;obtain ⟨yk,yv⟩ := bk2 HK5.out hSz;have x1z := bcl hSz HXB5.out HX15.out;have p0z := bcl hSz HPB.out HP0.out;go_simp;(try simp only [HDa.out,HDb.out,HDc.out,HDc2.out,HDd.out]);all_goals with_reducible rfl
               (try simp only [Act.put,pu]);refine tkY 4 ?_ rfl hS ?_ ?_;rotate_left
               ·intro wz hSz;obtain ⟨yk,yv⟩ := bk2 HK5.out hSz;have x1z := bcl hSz HXB5.out HX15.out;have p0z := bcl hSz HPB.out HP0.out;go_simp;(try simp only [HDa.out,HDb.out,HDc.out,HDc2.out,HDd.out]);all_goals with_reducible rfl
               (try simp only [Act.put,pu]);refine tkY 5 ?_ rfl hS ?_ ?_;rotate_left
               ·intro wz hSz;obtain ⟨yk,yv⟩ := bk2 HK5.out hSz;have x1z := bcl hSz HXB5.out HX15.out;have p0z := bcl hSz HPB.out HP0.out;go_simp;(try simp only [HDa.out,HDb.out,HDc.out,HDc2.out,HDd.out]);all_goals with_reducible rfl
               (try simp only [Act.put,pu]);refine tkY 6 ?_ rfl hS ?_ ?_;rotate_left
               ·intro wz hSz;obtain ⟨yk,yv⟩ := bk2 HK5.out hSz;have x1z := bcl hSz HXB5.out HX15.out;have p0z := bcl hSz HPB.out HP0.out;go_simp;(try simp only [HDa.out,HDb.out,HDc.out,HDc2.out,HDd.out]);all_goals with_reducible rfl
               try simp only [Act.put,pu]
               refine wpAnyH_ready (rs := [7]) (by kernel_rfl) (by simp) (AllReadyH.cons rfl (fun K' hK => ?_) AllReadyH.nil)
               go_simp
               refine (rinnB r1 true hin1 _).mono ?_; rintro e w8 ⟨rfl,hbq⟩
               refine hK.out _ _ ?_ (fun hSn => ?_)
               ·exact hS.trans (hbq.mono hS.size)
               clear hK K' hS hbq
               have hS := hSn
               clear hSn
               try dsimp only at hS
               (try simp only [Act.put,pu]);refine tkY 8 ?_ rfl hS ?_ ?_;rotate_left
               ·intro wz hSz;obtain ⟨yk,yv⟩ := bk2 HK5.out hSz;have x1z := bcl hSz HXB5.out HX15.out;have p0z := bcl hSz HPB.out HP0.out;go_simp;(try simp only [HDa.out,HDb.out,HDc.out,HDc2.out,HDd.out]);all_goals with_reducible rfl
               (try simp only [Act.put,pu]);refine tkY 9 ?_ rfl hS ?_ ?_;rotate_left
               ·intro wz hSz;obtain ⟨yk,yv⟩ := bk2 HK5.out hSz;have x1z := bcl hSz HXB5.out HX15.out;have p0z := bcl hSz HPB.out HP0.out;go_simp;(try simp only [HDa.out,HDb.out,HDc.out,HDc2.out,HDd.out]);all_goals with_reducible rfl
               (try simp only [Act.put,pu]);refine tkY 10 ?_ rfl hS ?_ ?_;rotate_left
               ·intro wz hSz;obtain ⟨yk,yv⟩ := bk2 HK5.out hSz;have x1z := bcl hSz HXB5.out HX15.out;have p0z := bcl hSz HPB.out HP0.out;go_simp;(try simp only [HDa.out,HDb.out,HDc.out,HDc2.out,HDd.out]);all_goals with_reducible rfl
               (try simp only [Act.put,pu]);refine tkY 11 ?_ rfl hS ?_ ?_;rotate_left
               ·intro wz hSz;obtain ⟨yk,yv⟩ := bk2 HK5.out hSz;have x1z := bcl hSz HXB5.out HX15.out;have p0z := bcl hSz HPB.out HP0.out;go_simp;(try simp only [HDa.out,HDb.out,HDc.out,HDc2.out,HDd.out]);all_goals with_reducible rfl
               (try simp only [Act.put,pu]);refine tkY 12 ?_ rfl hS ?_ ?_;rotate_left
               ·intro wz hSz;obtain ⟨yk,yv⟩ := bk2 HK5.out hSz;have x1z := bcl hSz HXB5.out HX15.out;have p0z := bcl hSz HPB.out HP0.out;go_simp;(try simp only [HDa.out,HDb.out,HDc.out,HDc2.out,HDd.out]);all_goals with_reducible rfl
               (try simp only [Act.put,pu]);refine tkY 13 ?_ rfl hS ?_ ?_;rotate_left
               ·intro wz hSz;obtain ⟨yk,yv⟩ := bk2 HK5.out hSz;have x1z := bcl hSz HXB5.out HX15.out;have p0z := bcl hSz HPB.out HP0.out;go_simp;(try simp only [HDa.out,HDb.out,HDc.out,HDc2.out,HDd.out]);all_goals with_reducible rfl
               (try simp only [Act.put,pu]);refine tkY 14 ?_ rfl hS ?_ ?_;rotate_left
               ·intro wz hSz;obtain ⟨yk,yv⟩ := bk2 HK5.out hSz;have x1z := bcl hSz HXB5.out HX15.out;have p0z := bcl hSz HPB.out HP0.out;go_simp;(try simp only [HDa.out,HDb.out,HDc.out,HDc2.out,HDd.out]);all_goals with_reducible rfl
               (try simp only [Act.put,pu]);refine tkY 15 ?_ rfl hS ?_ ?_;rotate_left
               ·intro wz hSz;obtain ⟨yk,yv⟩ := bk2 HK5.out hSz;have x1z := bcl hSz HXB5.out HX15.out;have p0z := bcl hSz HPB.out HP0.out;go_simp;(try simp only [HDa.out,HDb.out,HDc.out,HDc2.out,HDd.out]);all_goals with_reducible rfl
               (try simp only [Act.put,pu]);refine tkY 16 ?_ rfl hS ?_ ?_;rotate_left
               ·intro wz hSz;obtain ⟨yk,yv⟩ := bk2 HK5.out hSz;have x1z := bcl hSz HXB5.out HX15.out;have p0z := bcl hSz HPB.out HP0.out;go_simp;(try simp only [HDa.out,HDb.out,HDc.out,HDc2.out,HDd.out]);all_goals with_reducible rfl
               (try simp only [Act.put,pu]);refine tkY 17 ?_ rfl hS ?_ ?_;rotate_left
               ·intro wz hSz;obtain ⟨yk,yv⟩ := bk2 HK5.out hSz;have x1z := bcl hSz HXB5.out HX15.out;have p0z := bcl hSz HPB.out HP0.out;go_simp;(try simp only [HDa.out,HDb.out,HDc.out,HDc2.out,HDd.out]);all_goals with_reducible rfl
               (try simp only [Act.put,pu]);refine tkY 18 ?_ rfl hS ?_ ?_;rotate_left
               ·intro wz hSz;obtain ⟨yk,yv⟩ := bk2 HK5.out hSz;have x1z := bcl hSz HXB5.out HX15.out;have p0z := bcl hSz HPB.out HP0.out;go_simp;(try simp only [HDa.out,HDb.out,HDc.out,HDc2.out,HDd.out]);all_goals with_reducible rfl
               (try simp only [Act.put,pu]);refine tkY 19 ?_ rfl hS ?_ ?_;rotate_left
               ·intro wz hSz;obtain ⟨yk,yv⟩ := bk2 HK5.out hSz;have x1z := bcl hSz HXB5.out HX15.out;have p0z := bcl hSz HPB.out HP0.out;go_simp;(try simp only [HDa.out,HDb.out,HDc.out,HDc2.out,HDd.out]);all_goals with_reducible rfl
               (try simp only [Act.put,pu]);refine tkY 20 ?_ rfl hS ?_ ?_;rotate_left
               ·intro wz hSz;obtain ⟨yk,yv⟩ := bk2 HK5.out hSz;have x1z := bcl hSz HXB5.out HX15.out;have p0z := bcl hSz HPB.out HP0.out;go_simp;(try simp only [HDa.out,HDb.out,HDc.out,HDc2.out,HDd.out]);all_goals with_reducible rfl
               (try simp only [Act.put,pu]);refine tkY 21 ?_ rfl hS ?_ ?_;rotate_left
               ·intro wz hSz;obtain ⟨yk,yv⟩ := bk2 HK5.out hSz;have x1z := bcl hSz HXB5.out HX15.out;have p0z := bcl hSz HPB.out HP0.out;go_simp;(try simp only [HDa.out,HDb.out,HDc.out,HDc2.out,HDd.out]);all_goals with_reducible rfl
               (try simp only [Act.put,pu]);refine tkY 22 ?_ rfl hS ?_ ?_;rotate_left
               ·intro wz hSz;obtain ⟨yk,yv⟩ := bk2 HK5.out hSz;have x1z := bcl hSz HXB5.out HX15.out;have p0z := bcl hSz HPB.out HP0.out;go_simp;(try simp only [HDa.out,HDb.out,HDc.out,HDc2.out,HDd.out]);all_goals with_reducible rfl
               (try simp only [Act.put,pu]);refine tkY 23 ?_ rfl hS ?_ ?_;rotate_left
               ·intro wz hSz;obtain ⟨yk,yv⟩ := bk2 HK5.out hSz;have x1z := bcl hSz HXB5.out HX15.out;have p0z := bcl hSz HPB.out HP0.out;go_simp;(try simp only [HDa.out,HDb.out,HDc.out,HDc2.out,HDd.out]);all_goals with_reducible rfl
               (try simp only [Act.put,pu]);refine tkY 24 ?_ rfl hS ?_ ?_;rotate_left
               ·intro wz hSz;obtain ⟨yk,yv⟩ := bk2 HK5.out hSz;have x1z := bcl hSz HXB5.out HX15.out;have p0z := bcl hSz HPB.out HP0.out;go_simp;(try simp only [HDa.out,HDb.out,HDc.out,HDc2.out,HDd.out]);all_goals with_reducible rfl
               (try simp only [Act.put,pu]);refine tkY 25 ?_ rfl hS ?_ ?_;rotate_left
               ·intro wz hSz;obtain ⟨yk,yv⟩ := bk2 HK5.out hSz;have x1z := bcl hSz HXB5.out HX15.out;have p0z := bcl hSz HPB.out HP0.out;go_simp;(try simp only [HDa.out,HDb.out,HDc.out,HDc2.out,HDd.out]);all_goals with_reducible rfl
               (try simp only [Act.put,pu]);refine tkY 26 ?_ rfl hS ?_ ?_;rotate_left
               ·intro wz hSz;obtain ⟨yk,yv⟩ := bk2 HK5.out hSz;have x1z := bcl hSz HXB5.out HX15.out;have p0z := bcl hSz HPB.out HP0.out;go_simp;(try simp only [HDa.out,HDb.out,HDc.out,HDc2.out,HDd.out]);all_goals with_reducible rfl
               (try simp only [Act.put,pu]);refine tkY 27 ?_ rfl hS ?_ ?_;rotate_left
               ·intro wz hSz;obtain ⟨yk,yv⟩ := bk2 HK5.out hSz;have x1z := bcl hSz HXB5.out HX15.out;have p0z := bcl hSz HPB.out HP0.out;go_simp;(try simp only [HDa.out,HDb.out,HDc.out,HDc2.out,HDd.out]);all_goals with_reducible rfl
               (try simp only [Act.put,pu]);refine tkY 28 ?_ rfl hS ?_ ?_;rotate_left
               ·intro wz hSz;obtain ⟨yk,yv⟩ := bk2 HK5.out hSz;have x1z := bcl hSz HXB5.out HX15.out;have p0z := bcl hSz HPB.out HP0.out;go_simp;(try simp only [HDa.out,HDb.out,HDc.out,HDc2.out,HDd.out]);all_goals with_reducible rfl
               try simp only [Act.put,pu]
               refine wpAnyH_done (by kernel_rfl) ?_ _
               have HS := Lib.hid hS
               clear hS
               go_wp2
               go_ret
               exact ⟨by rw [HRF.out]; rfl,HB5.out.trans (HS.out.mono HB5.out.size)⟩
        ·have l64 : (64 : Int) < (rs.length : Int) := by omega
         have HDd := Lib.hid (show decide ((64 : Int) < (rs.length : Int)) = true from decide_eq_true l64)
         have HRF : Hid (R = false) := Lib.hid (by have := HR4.out; rw [HR64.out (by omega)] at this; simpa using this.symm)
         clear hls h64
         go_wp2_with fail
         refine wp_region_held_drew (S := (fun w' => Below wr.heap.size wr w')) (by kernel_rfl) ?_ (fun hS => ?_)
         ·exact (Below.refl _ _).drew
         try dsimp only at hS
         refine tkY 0 ?_ rfl hS ?_ ?_;rotate_left
         ·intro wz hSz;have x0z := bcl hSz HXB0.out HX0.out;have x1z := bcl hSz HXB0.out HX1.out;have p0z := bcl hSz HXB0.out HP0.out;go_simp;(try simp only [HDa.out,HDb.out,HDc.out,HDc2.out,HDd.out]);all_goals with_reducible rfl
         (try simp only [Act.put,pu]);refine tkY 1 ?_ rfl hS ?_ ?_;rotate_left
         ·intro wz hSz;have x0z := bcl hSz HXB0.out HX0.out;have x1z := bcl hSz HXB0.out HX1.out;have p0z := bcl hSz HXB0.out HP0.out;go_simp;(try simp only [HDa.out,HDb.out,HDc.out,HDc2.out,HDd.out]);all_goals with_reducible rfl
         (try simp only [Act.put,pu]);refine tkY 2 ?_ rfl hS ?_ ?_;rotate_left
         ·intro wz hSz;have x0z := bcl hSz HXB0.out HX0.out;have x1z := bcl hSz HXB0.out HX1.out;have p0z := bcl hSz HXB0.out HP0.out;go_simp;(try simp only [HDa.out,HDb.out,HDc.out,HDc2.out,HDd.out]);all_goals with_reducible rfl
         (try simp only [Act.put,pu]);refine tkY 3 ?_ rfl hS ?_ ?_;rotate_left
         ·intro wz hSz;have x0z := bcl hSz HXB0.out HX0.out;have x1z := bcl hSz HXB0.out HX1.out;have p0z := bcl hSz HXB0.out HP0.out;go_simp;(try simp only [HDa.out,HDb.out,HDc.out,HDc2.out,HDd.out]);all_goals with_reducible rfl
         (try simp only [Act.put,pu]);refine tkY 4 ?_ rfl hS ?_ ?_;rotate_left
         ·intro wz hSz;have x0z := bcl hSz HXB0.out HX0.out;have x1z := bcl hSz HXB0.out HX1.out;have p0z := bcl hSz HXB0.out HP0.out;go_simp;(try simp only [HDa.out,HDb.out,HDc.out,HDc2.out,HDd.out]);all_goals with_reducible rfl
         (try simp only [Act.put,pu]);refine tkY 5 ?_ rfl hS ?_ ?_;rotate_left
         ·intro wz hSz;have x0z := bcl hSz HXB0.out HX0.out;have x1z := bcl hSz HXB0.out HX1.out;have p0z := bcl hSz HXB0.out HP0.out;go_simp;(try simp only [HDa.out,HDb.out,HDc.out,HDc2.out,HDd.out]);all_goals with_reducible rfl
         (try simp only [Act.put,pu]);refine tkY 6 ?_ rfl hS ?_ ?_;rotate_left
         ·intro wz hSz;have x0z := bcl hSz HXB0.out HX0.out;have x1z := bcl hSz HXB0.out HX1.out;have p0z := bcl hSz HXB0.out HP0.out;go_simp;(try simp only [HDa.out,HDb.out,HDc.out,HDc2.out,HDd.out]);all_goals with_reducible rfl
         (try simp only [Act.put,pu]);refine tkY 7 ?_ rfl hS ?_ ?_;rotate_left
         ·intro wz hSz;have x0z := bcl hSz HXB0.out HX0.out;have x1z := bcl hSz HXB0.out HX1.out;have p0z := bcl hSz HXB0.out HP0.out;go_simp;(try simp only [HDa.out,HDb.out,HDc.out,HDc2.out,HDd.out]);all_goals with_reducible rfl
         (try simp only [Act.put,pu]);refine tkY 8 ?_ rfl hS ?_ ?_;rotate_left
         ·intro wz hSz;have x0z := bcl hSz HXB0.out HX0.out;have x1z := bcl hSz HXB0.out HX1.out;have p0z := bcl hSz HXB0.out HP0.out;go_simp;(try simp only [HDa.out,HDb.out,HDc.out,HDc2.out,HDd.out]);all_goals with_reducible rfl
         (try simp only [Act.put,pu]);refine tkY 9 ?_ rfl hS ?_ ?_;rotate_left
         ·intro wz hSz;have x0z := bcl hSz HXB0.out HX0.out;have x1z := bcl hSz HXB0.out HX1.out;have p0z := bcl hSz HXB0.out HP0.out;go_simp;(try simp only [HDa.out,HDb.out,HDc.out,HDc2.out,HDd.out]);all_goals with_reducible rfl
         (try simp only [Act.put,pu]);refine tkY 10 ?_ rfl hS ?_ ?_;rotate_left
         ·intro wz hSz;have x0z := bcl hSz HXB0.out HX0.out;have x1z := bcl hSz HXB0.out HX1.out;have p0z := bcl hSz HXB0.out HP0.out;go_simp;(try simp only [HDa.out,HDb.out,HDc.out,HDc2.out,HDd.out]);all_goals with_reducible rfl
         (try simp only [Act.put,pu]);refine tkY 11 ?_ rfl hS ?_ ?_;rotate_left
         ·intro wz hSz;have x0z := bcl hSz HXB0.out HX0.out;have x1z := bcl hSz HXB0.out HX1.out;have p0z := bcl hSz HXB0.out HP0.out;go_simp;(try simp only [HDa.out,HDb.out,HDc.out,HDc2.out,HDd.out]);all_goals with_reducible rfl
         (try simp only [Act.put,pu]);refine tkY 12 ?_ rfl hS ?_ ?_;rotate_left
         ·intro wz hSz;have x0z := bcl hSz HXB0.out HX0.out;have x1z := bcl hSz HXB0.out HX1.out;have p0z := bcl hSz HXB0.out HP0.out;go_simp;(try simp only [HDa.out,HDb.out,HDc.out,HDc2.out,HDd.out]);all_goals with_reducible rfl
         (try simp only [Act.put,pu]);refine tkY 13 ?_ rfl hS ?_ ?_;rotate_left
         ·intro wz hSz;have x0z := bcl hSz HXB0.out HX0.out;have x1z := bcl hSz HXB0.out HX1.out;have p0z := bcl hSz HXB0.out HP0.out;go_simp;(try simp only [HDa.out,HDb.out,HDc.out,HDc2.out,HDd.out]);all_goals with_reducible rfl
         (try simp only [Act.put,pu]);refine tkY 14 ?_ rfl hS ?_ ?_;rotate_left
         ·intro wz hSz;have x0z := bcl hSz HXB0.out HX0.out;have x1z := bcl hSz HXB0.out HX1.out;have p0z := bcl hSz HXB0.out HP0.out;go_simp;(try simp only [HDa.out,HDb.out,HDc.out,HDc2.out,HDd.out]);all_goals with_reducible rfl
         (try simp only [Act.put,pu]);refine tkY 15 ?_ rfl hS ?_ ?_;rotate_left
         ·intro wz hSz;have x0z := bcl hSz HXB0.out HX0.out;have x1z := bcl hSz HXB0.out HX1.out;have p0z := bcl hSz HXB0.out HP0.out;go_simp;(try simp only [HDa.out,HDb.out,HDc.out,HDc2.out,HDd.out]);all_goals with_reducible rfl
         (try simp only [Act.put,pu]);refine tkY 16 ?_ rfl hS ?_ ?_;rotate_left
         ·intro wz hSz;have x0z := bcl hSz HXB0.out HX0.out;have x1z := bcl hSz HXB0.out HX1.out;have p0z := bcl hSz HXB0.out HP0.out;go_simp;(try simp only [HDa.out,HDb.out,HDc.out,HDc2.out,HDd.out]);all_goals with_reducible rfl
         (try simp only [Act.put,pu]);refine tkY 17 ?_ rfl hS ?_ ?_;rotate_left
         ·intro wz hSz;have x0z := bcl hSz HXB0.out HX0.out;have x1z := bcl hSz HXB0.out HX1.out;have p0z := bcl hSz HXB0.out HP0.out;go_simp;(try simp only [HDa.out,HDb.out,HDc.out,HDc2.out,HDd.out]);all_goals with_reducible rfl
         (try simp only [Act.put,pu]);refine tkY 18 ?_ rfl hS ?_ ?_;rotate_left
         ·intro wz hSz;have x0z := bcl hSz HXB0.out HX0.out;have x1z := bcl hSz HXB0.out HX1.out;have p0z := bcl hSz HXB0.out HP0.out;go_simp;(try simp only [HDa.out,HDb.out,HDc.out,HDc2.out,HDd.out]);all_goals with_reducible rfl
         (try simp only [Act.put,pu]);refine tkY 19 ?_ rfl hS ?_ ?_;rotate_left
         ·intro wz hSz;have x0z := bcl hSz HXB0.out HX0.out;have x1z := bcl hSz HXB0.out HX1.out;have p0z := bcl hSz HXB0.out HP0.out;go_simp;(try simp only [HDa.out,HDb.out,HDc.out,HDc2.out,HDd.out]);all_goals with_reducible rfl
         (try simp only [Act.put,pu]);refine tkY 20 ?_ rfl hS ?_ ?_;rotate_left
         ·intro wz hSz;have x0z := bcl hSz HXB0.out HX0.out;have x1z := bcl hSz HXB0.out HX1.out;have p0z := bcl hSz HXB0.out HP0.out;go_simp;(try simp only [HDa.out,HDb.out,HDc.out,HDc2.out,HDd.out]);all_goals with_reducible rfl
         (try simp only [Act.put,pu]);refine tkY 21 ?_ rfl hS ?_ ?_;rotate_left
         ·intro wz hSz;have x0z := bcl hSz HXB0.out HX0.out;have x1z := bcl hSz HXB0.out HX1.out;have p0z := bcl hSz HXB0.out HP0.out;go_simp;(try simp only [HDa.out,HDb.out,HDc.out,HDc2.out,HDd.out]);all_goals with_reducible rfl
         (try simp only [Act.put,pu]);refine tkY 22 ?_ rfl hS ?_ ?_;rotate_left
         ·intro wz hSz;have x0z := bcl hSz HXB0.out HX0.out;have x1z := bcl hSz HXB0.out HX1.out;have p0z := bcl hSz HXB0.out HP0.out;go_simp;(try simp only [HDa.out,HDb.out,HDc.out,HDc2.out,HDd.out]);all_goals with_reducible rfl
         (try simp only [Act.put,pu]);refine tkY 23 ?_ rfl hS ?_ ?_;rotate_left
         ·intro wz hSz;have x0z := bcl hSz HXB0.out HX0.out;have x1z := bcl hSz HXB0.out HX1.out;have p0z := bcl hSz HXB0.out HP0.out;go_simp;(try simp only [HDa.out,HDb.out,HDc.out,HDc2.out,HDd.out]);all_goals with_reducible rfl
         (try simp only [Act.put,pu]);refine tkY 24 ?_ rfl hS ?_ ?_;rotate_left
         ·intro wz hSz;have x0z := bcl hSz HXB0.out HX0.out;have x1z := bcl hSz HXB0.out HX1.out;have p0z := bcl hSz HXB0.out HP0.out;go_simp;(try simp only [HDa.out,HDb.out,HDc.out,HDc2.out,HDd.out]);all_goals with_reducible rfl
         (try simp only [Act.put,pu]);refine tkY 25 ?_ rfl hS ?_ ?_;rotate_left
         ·intro wz hSz;have x0z := bcl hSz HXB0.out HX0.out;have x1z := bcl hSz HXB0.out HX1.out;have p0z := bcl hSz HXB0.out HP0.out;go_simp;(try simp only [HDa.out,HDb.out,HDc.out,HDc2.out,HDd.out]);all_goals with_reducible rfl
         (try simp only [Act.put,pu]);refine tkY 26 ?_ rfl hS ?_ ?_;rotate_left
         ·intro wz hSz;have x0z := bcl hSz HXB0.out HX0.out;have x1z := bcl hSz HXB0.out HX1.out;have p0z := bcl hSz HXB0.out HP0.out;go_simp;(try simp only [HDa.out,HDb.out,HDc.out,HDc2.out,HDd.out]);all_goals with_reducible rfl
         (try simp only [Act.put,pu]);refine tkY 27 ?_ rfl hS ?_ ?_;rotate_left
         ·intro wz hSz;have x0z := bcl hSz HXB0.out HX0.out;have x1z := bcl hSz HXB0.out HX1.out;have p0z := bcl hSz HXB0.out HP0.out;go_simp;(try simp only [HDa.out,HDb.out,HDc.out,HDc2.out,HDd.out]);all_goals with_reducible rfl
         (try simp only [Act.put,pu]);refine tkY 28 ?_ rfl hS ?_ ?_;rotate_left
         ·intro wz hSz;have x0z := bcl hSz HXB0.out HX0.out;have x1z := bcl hSz HXB0.out HX1.out;have p0z := bcl hSz HXB0.out HP0.out;go_simp;(try simp only [HDa.out,HDb.out,HDc.out,HDc2.out,HDd.out]);all_goals with_reducible rfl
         (try simp only [Act.put,pu]);refine tkY 29 ?_ rfl hS ?_ ?_;rotate_left
         ·intro wz hSz;have x0z := bcl hSz HXB0.out HX0.out;have x1z := bcl hSz HXB0.out HX1.out;have p0z := bcl hSz HXB0.out HP0.out;go_simp;(try simp only [HDa.out,HDb.out,HDc.out,HDc2.out,HDd.out]);all_goals with_reducible rfl
         (try simp only [Act.put,pu]);refine tkY 30 ?_ rfl hS ?_ ?_;rotate_left
         ·intro wz hSz;have x0z := bcl hSz HXB0.out HX0.out;have x1z := bcl hSz HXB0.out HX1.out;have p0z := bcl hSz HXB0.out HP0.out;go_simp;(try simp only [HDa.out,HDb.out,HDc.out,HDc2.out,HDd.out]);all_goals with_reducible rfl
         try simp only [Act.put,pu]
         refine wpAnyH_ready (rs := [31]) (by kernel_rfl) (by simp) (AllReadyH.cons rfl (fun K' hK => ?_) AllReadyH.nil)
         go_simp
         refine (rlessT pn n true HLS.out HPS.out HFS.out.1 _).mono ?_; rintro e w8 ⟨rfl,hbq⟩
         refine hK.out _ _ ?_ (fun hSn => ?_)
         ·exact hS.trans (hbq.mono hS.size)
         clear hK K' hS hbq
         have hS := hSn
         clear hSn
         try dsimp only at hS
         (try simp only [Act.put,pu]);refine tkY 32 ?_ rfl hS ?_ ?_;rotate_left
         ·intro wz hSz;have x0z := bcl hSz HXB0.out HX0.out;have x1z := bcl hSz HXB0.out HX1.out;have p0z := bcl hSz HXB0.out HP0.out;go_simp;(try simp only [HDa.out,HDb.out,HDc.out,HDc2.out,HDd.out]);all_goals with_reducible rfl
         (try simp only [Act.put,pu]);refine tkY 33 ?_ rfl hS ?_ ?_;rotate_left
         ·intro wz hSz;have x0z := bcl hSz HXB0.out HX0.out;have x1z := bcl hSz HXB0.out HX1.out;have p0z := bcl hSz HXB0.out HP0.out;go_simp;(try simp only [HDa.out,HDb.out,HDc.out,HDc2.out,HDd.out]);all_goals with_reducible rfl
         (try simp only [Act.put,pu]);refine tkY 34 ?_ rfl hS ?_ ?_;rotate_left
         ·intro wz hSz;have x0z := bcl hSz HXB0.out HX0.out;have x1z := bcl hSz HXB0.out HX1.out;have p0z := bcl hSz HXB0.out HP0.out;go_simp;(try simp only [HDa.out,HDb.out,HDc.out,HDc2.out,HDd.out]);all_goals with_reducible rfl
         (try simp only [Act.put,pu]);refine tkY 35 ?_ rfl hS ?_ ?_;rotate_left
         ·intro wz hSz;have x0z := bcl hSz HXB0.out HX0.out;have x1z := bcl hSz HXB0.out HX1.out;have p0z := bcl hSz HXB0.out HP0.out;go_simp;(try simp only [HDa.out,HDb.out,HDc.out,HDc2.out,HDd.out]);all_goals with_reducible rfl
         (try simp only [Act.put,pu]);refine tkY 36 ?_ rfl hS ?_ ?_;rotate_left
         ·intro wz hSz;have x0z := bcl hSz HXB0.out HX0.out;have x1z := bcl hSz HXB0.out HX1.out;have p0z := bcl hSz HXB0.out HP0.out;go_simp;(try simp only [HDa.out,HDb.out,HDc.out,HDc2.out,HDd.out]);all_goals with_reducible rfl
         (try simp only [Act.put,pu]);refine tkY 37 ?_ rfl hS ?_ ?_;rotate_left
         ·intro wz hSz;have x0z := bcl hSz HXB0.out HX0.out;have x1z := bcl hSz HXB0.out HX1.out;have p0z := bcl hSz HXB0.out HP0.out;go_simp;(try simp only [HDa.out,HDb.out,HDc.out,HDc2.out,HDd.out]);all_goals with_reducible rfl
         (try simp only [Act.put,pu]);refine tkY 38 ?_ rfl hS ?_ ?_;rotate_left
         ·intro wz hSz;have x0z := bcl hSz HXB0.out HX0.out;have x1z := bcl hSz HXB0.out HX1.out;have p0z := bcl hSz HXB0.out HP0.out;go_simp;(try simp only [HDa.out,HDb.out,HDc.out,HDc2.out,HDd.out]);all_goals with_reducible rfl
         (try simp only [Act.put,pu]);refine tkY 39 ?_ rfl hS ?_ ?_;rotate_left
         ·intro wz hSz;have x0z := bcl hSz HXB0.out HX0.out;have x1z := bcl hSz HXB0.out HX1.out;have p0z := bcl hSz HXB0.out HP0.out;go_simp;(try simp only [HDa.out,HDb.out,HDc.out,HDc2.out,HDd.out]);all_goals with_reducible rfl
         (try simp only [Act.put,pu]);refine tkY 40 ?_ rfl hS ?_ ?_;rotate_left
         ·intro wz hSz;have x0z := bcl hSz HXB0.out HX0.out;have x1z := bcl hSz HXB0.out HX1.out;have p0z := bcl hSz HXB0.out HP0.out;go_simp;(try simp only [HDa.out,HDb.out,HDc.out,HDc2.out,HDd.out]);all_goals with_reducible rfl
         (try simp only [Act.put,pu]);refine tkY 41 ?_ rfl hS ?_ ?_;rotate_left
         ·intro wz hSz;have x0z := bcl hSz HXB0.out HX0.out;have x1z := bcl hSz HXB0.out HX1.out;have p0z := bcl hSz HXB0.out HP0.out;go_simp;(try simp only [HDa.out,HDb.out,HDc.out,HDc2.out,HDd.out]);all_goals with_reducible rfl
         (try simp only [Act.put,pu]);refine tkY 42 ?_ rfl hS ?_ ?_;rotate_left
         ·intro wz hSz;have x0z := bcl hSz HXB0.out HX0.out;have x1z := bcl hSz HXB0.out HX1.out;have p0z := bcl hSz HXB0.out HP0.out;go_simp;(try simp only [HDa.out,HDb.out,HDc.out,HDc2.out,HDd.out]);all_goals with_reducible rfl
         (try simp only [Act.put,pu]);refine tkY 43 ?_ rfl hS ?_ ?_;rotate_left
         ·intro wz hSz;have x0z := bcl hSz HXB0.out HX0.out;have x1z := bcl hSz HXB0.out HX1.out;have p0z := bcl hSz HXB0.out HP0.out;go_simp;(try simp only [HDa.out,HDb.out,HDc.out,HDc2.out,HDd.out]);all_goals with_reducible rfl
         try simp only [Act.put,pu]
         refine wpAnyH_done (by kernel_rfl) ?_ _
         have HS := Lib.hid hS
         clear hS
         go_wp2
         go_ret
         exact ⟨by rw [HRF.out]; rfl,HB.out.trans (HS.out.mono HB.out.size)⟩
     ·have ln2 : (30 : Int) < (n.size : Int) := by omega
      have HDb := Lib.hid (show decide ((30 : Int) < (n.size : Int)) = true from decide_eq_true ln2)
      have HDc := HDb
      have HDc2 := HDb
      have HDd := HDb
      have HRF : Hid (R = false) := Lib.hid (by have := HR1.out; simpa [h30] using this.symm)
      clear hz h30
      go_wp2_with fail
      refine wp_region_held_drew (S := (fun w' => Below wr.heap.size wr w')) (by kernel_rfl) ?_ (fun hS => ?_)
      ·exact (Below.refl _ _).drew
      try dsimp only at hS
      refine tkY 0 ?_ rfl hS ?_ ?_;rotate_left
      ·intro wz hSz;have x0z := bcl hSz HXB0.out HX0.out;have x1z := bcl hSz HXB0.out HX1.out;go_simp;(try simp only [HDa.out,HDb.out,HDc.out,HDc2.out,HDd.out]);all_goals with_reducible rfl
      (try simp only [Act.put,pu]);refine tkY 1 ?_ rfl hS ?_ ?_;rotate_left
      ·intro wz hSz;have x0z := bcl hSz HXB0.out HX0.out;have x1z := bcl hSz HXB0.out HX1.out;go_simp;(try simp only [HDa.out,HDb.out,HDc.out,HDc2.out,HDd.out]);all_goals with_reducible rfl
      (try simp only [Act.put,pu]);refine tkY 2 ?_ rfl hS ?_ ?_;rotate_left
      ·intro wz hSz;have x0z := bcl hSz HXB0.out HX0.out;have x1z := bcl hSz HXB0.out HX1.out;go_simp;(try simp only [HDa.out,HDb.out,HDc.out,HDc2.out,HDd.out]);all_goals with_reducible rfl
      (try simp only [Act.put,pu]);refine tkY 3 ?_ rfl hS ?_ ?_;rotate_left
      ·intro wz hSz;have x0z := bcl hSz HXB0.out HX0.out;have x1z := bcl hSz HXB0.out HX1.out;go_simp;(try simp only [HDa.out,HDb.out,HDc.out,HDc2.out,HDd.out]);all_goals with_reducible rfl
      (try simp only [Act.put,pu]);refine tkY 4 ?_ rfl hS ?_ ?_;rotate_left
      ·intro wz hSz;have x0z := bcl hSz HXB0.out HX0.out;have x1z := bcl hSz HXB0.out HX1.out;go_simp;(try simp only [HDa.out,HDb.out,HDc.out,HDc2.out,HDd.out]);all_goals with_reducible rfl
      (try simp only [Act.put,pu]);refine tkY 5 ?_ rfl hS ?_ ?_;rotate_left
      ·intro wz hSz;have x0z := bcl hSz HXB0.out HX0.out;have x1z := bcl hSz HXB0.out HX1.out;go_simp;(try simp only [HDa.out,HDb.out,HDc.out,HDc2.out,HDd.out]);all_goals with_reducible rfl
      (try simp only [Act.put,pu]);refine tkY 6 ?_ rfl hS ?_ ?_;rotate_left
      ·intro wz hSz;have x0z := bcl hSz HXB0.out HX0.out;have x1z := bcl hSz HXB0.out HX1.out;go_simp;(try simp only [HDa.out,HDb.out,HDc.out,HDc2.out,HDd.out]);all_goals with_reducible rfl
      (try simp only [Act.put,pu]);refine tkY 7 ?_ rfl hS ?_ ?_;rotate_left
      ·intro wz hSz;have x0z := bcl hSz HXB0.out HX0.out;have x1z := bcl hSz HXB0.out HX1.out;go_simp;(try simp only [HDa.out,HDb.out,HDc.out,HDc2.out,HDd.out]);all_goals with_reducible rfl
      (try simp only [Act.put,pu]);refine tkY 8 ?_ rfl hS ?_ ?_;rotate_left
      ·intro wz hSz;have x0z := bcl hSz HXB0.out HX0.out;have x1z := bcl hSz HXB0.out HX1.out;go_simp;(try simp only [HDa.out,HDb.out,HDc.out,HDc2.out,HDd.out]);all_goals with_reducible rfl
      (try simp only [Act.put,pu]);refine tkY 9 ?_ rfl hS ?_ ?_;rotate_left
      ·intro wz hSz;have x0z := bcl hSz HXB0.out HX0.out;have x1z := bcl hSz HXB0.out HX1.out;go_simp;(try simp only [HDa.out,HDb.out,HDc.out,HDc2.out,HDd.out]);all_goals with_reducible rfl
      (try simp only [Act.put,pu]);refine tkY 10 ?_ rfl hS ?_ ?_;rotate_left
      ·intro wz hSz;have x0z := bcl hSz HXB0.out HX0.out;have x1z := bcl hSz HXB0.out HX1.out;go_simp;(try simp only [HDa.out,HDb.out,HDc.out,HDc2.out,HDd.out]);all_goals with_reducible rfl
      (try simp only [Act.put,pu]);refine tkY 11 ?_ rfl hS ?_ ?_;rotate_left
      ·intro wz hSz;have x0z := bcl hSz HXB0.out HX0.out;have x1z := bcl hSz HXB0.out HX1.out;go_simp;(try simp only [HDa.out,HDb.out,HDc.out,HDc2.out,HDd.out]);all_goals with_reducible rfl
      (try simp only [Act.put,pu]);refine tkY 12 ?_ rfl hS ?_ ?_;rotate_left
      ·intro wz hSz;have x0z := bcl hSz HXB0.out HX0.out;have x1z := bcl hSz HXB0.out HX1.out;go_simp;(try simp only [HDa.out,HDb.out,HDc.out,HDc2.out,HDd.out]);all_goals with_reducible rfl
      (try simp only [Act.put,pu]);refine tkY 13 ?_ rfl hS ?_ ?_;rotate_left
      ·intro wz hSz;have x0z := bcl hSz HXB0.out HX0.out;have x1z := bcl hSz HXB0.out HX1.out;go_simp;(try simp only [HDa.out,HDb.out,HDc.out,HDc2.out,HDd.out]);all_goals with_reducible rfl
      (try simp only [Act.put,pu]);refine tkY 14 ?_ rfl hS ?_ ?_;rotate_left
      ·intro wz hSz;have x0z := bcl hSz HXB0.out HX0.out;have x1z := bcl hSz HXB0.out HX1.out;go_simp;(try simp only [HDa.out,HDb.out,HDc.out,HDc2.out,HDd.out]);all_goals with_reducible rfl
      (try simp only [Act.put,pu]);refine tkY 15 ?_ rfl hS ?_ ?_;rotate_left
      ·intro wz hSz;have x0z := bcl hSz HXB0.out HX0.out;have x1z := bcl hSz HXB0.out HX1.out;go_simp;(try simp only [HDa.out,HDb.out,HDc.out,HDc2.out,HDd.out]);all_goals with_reducible rfl
      (try simp only [Act.put,pu]);refine tkY 16 ?_ rfl hS ?_ ?_;rotate_left
      ·intro wz hSz;have x0z := bcl hSz HXB0.out HX0.out;have x1z := bcl hSz HXB0.out HX1.out;go_simp;(try simp only [HDa.out,HDb.out,HDc.out,HDc2.out,HDd.out]);all_goals with_reducible rfl
      (try simp only [Act.put,pu]);refine tkN 17 rfl hS ?_
      (try simp only [Act.put,pu]);refine tkN 18 rfl hS ?_
      (try simp only [Act.put,pu]);refine tkN 19 rfl hS ?_
      (try simp only [Act.put,pu]);refine tkN 20 rfl hS ?_
      (try simp only [Act.put,pu]);refine tkN 21 rfl hS ?_
      (try simp only [Act.put,pu]);refine tkN 22 rfl hS ?_
      (try simp only [Act.put,pu]);refine tkN 23 rfl hS ?_
      (try simp only [Act.put,pu]);refine tkN 24 rfl hS ?_
      (try simp only [Act.put,pu]);refine tkN 25 rfl hS ?_
      (try simp only [Act.put,pu]);refine tkN 26 rfl hS ?_
      (try simp only [Act.put,pu]);refine tkN 27 rfl hS ?_
      (try simp only [Act.put,pu]);refine tkN 28 rfl hS ?_
      (try simp only [Act.put,pu]);refine tkN 29 rfl hS ?_
      (try simp only [Act.put,pu]);refine tkN 30 rfl hS ?_
      (try simp only [Act.put,pu]);refine tkN 31 rfl hS ?_
      (try simp only [Act.put,pu]);refine tkN 32 rfl hS ?_
      (try simp only [Act.put,pu]);refine tkN 33 rfl hS ?_
      (try simp only [Act.put,pu]);refine tkY 34 ?_ rfl hS ?_ ?_;rotate_left
      ·intro wz hSz;have x0z := bcl hSz HXB0.out HX0.out;have x1z := bcl hSz HXB0.out HX1.out;go_simp;(try simp only [HDa.out,HDb.out,HDc.out,HDc2.out,HDd.out]);all_goals with_reducible rfl
      (try simp only [Act.put,pu]);refine tkY 35 ?_ rfl hS ?_ ?_;rotate_left
      ·intro wz hSz;have x0z := bcl hSz HXB0.out HX0.out;have x1z := bcl hSz HXB0.out HX1.out;go_simp;(try simp only [HDa.out,HDb.out,HDc.out,HDc2.out,HDd.out]);all_goals with_reducible rfl
      (try simp only [Act.put,pu]);refine tkN 36 rfl hS ?_
      (try simp only [Act.put,pu]);refine tkN 37 rfl hS ?_
      (try simp only [Act.put,pu]);refine tkN 38 rfl hS ?_
      (try simp only [Act.put,pu]);refine tkN 39 rfl hS ?_
      (try simp only [Act.put,pu]);refine tkN 40 rfl hS ?_
      (try simp only [Act.put,pu]);refine tkN 41 rfl hS ?_
      (try simp only [Act.put,pu]);refine tkN 42 rfl hS ?_
      (try simp only [Act.put,pu]);refine tkY 43 ?_ rfl hS ?_ ?_;rotate_left
      ·intro wz hSz;have x0z := bcl hSz HXB0.out HX0.out;have x1z := bcl hSz HXB0.out HX1.out;go_simp;(try simp only [HDa.out,HDb.out,HDc.out,HDc2.out,HDd.out]);all_goals with_reducible rfl
      try simp only [Act.put,pu]
      refine wpAnyH_done (by kernel_rfl) ?_ _
      have HS := Lib.hid hS
      clear hS
      go_wp2
      go_ret
      exact ⟨by rw [HRF.out]; rfl,HB.out.trans (HS.out.mono HB.out.size)⟩
 ·have hR2 : R = false := by rw [← hR]; unfold rightL; rw [decide_eq_false h16,Bool.false_and]
  have l16 : (16 : Int) < (s.length : Int) := by omega
  subst hR2
  clear h hR hf h16
  go_enter Tryz.func27,Tryz.ntmps27
  go_wp2
  go_ret
  exact ⟨rfl,Below.refl _ _⟩
end Go.Proofs.YtjmmninopagpjaaGreatDoor
