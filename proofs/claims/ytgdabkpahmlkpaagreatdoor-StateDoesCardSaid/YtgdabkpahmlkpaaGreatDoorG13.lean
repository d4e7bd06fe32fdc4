/- Tei Tej Tek Tel Tem -/
import Derived.Test.YtgdabkpahmlkpaaGreatDoorG12
import Derived.Laws.Rows
import Derived.Lib.ItoaLen
import Derived.Test.YtgdabkpahmlkpaaGreatDoorG1
set_option linter.unusedSimpArgs false
set_option linter.unusedVariables false
namespace Go.Proofs.YtgdabkpahmlkpaaGreatDoor
open Go.ChangeShapes Go.WideShapes Go.ChangeAt Go.RowKit
set_option maxRecDepth 100000
set_option linter.unusedVariables false
set_option linter.unusedSimpArgs false

def ReadP (R : Cm × Bool) (w : World) (e : Ending) (w' : World) : Prop := e = .returned (.tuple #[cmV R.1,.bool R.2]) ∧ Below w.heap.size w w'
theorem drop_cons_at {l : List Tok} {i : Nat} (h : i < l.length) : l.drop i = l[i] :: l.drop (i + 1) := List.drop_eq_getElem_cons h
theorem but_bel {g : Nat} {a b c : World} (h : Below g a b) (k : But [g] b c) (hg : g ≤ b.heap.size) : Below g a c := h.trans (k.below hg (by simp))
theorem cm_results {w : World} {r : Nat} (c : Cm) (h : Blk w r 24 (cmCells c)) : w.cell? ⟨r,0,none⟩ = some (.int .i64 c.1) ∧ w.cell? ⟨r,1,none⟩ = some (.string c.2.1) ∧ w.cell? ⟨r,2,none⟩ = some (.int .i64 c.2.2.1) ∧ w.cell? ⟨r,3,none⟩ = some (.int .i64 c.2.2.2.1) ∧ w.cell? ⟨r,4,none⟩ = some (.bool c.2.2.2.2) :=
 ⟨h.cell 0,h.cell 1,h.cell 2,h.cell 3,h.cell 4⟩
theorem cm_set5 {w : World} {r : Nat} {c : Cm} (c0 : Int) (c1 : ByteArray) (c2 c3 : Int) (c4 : Bool) (h : Blk w r 24 (cmCells c)) :
  Blk (((((w.setCell ⟨r,0,none⟩ (.int .i64 c0)).setCell ⟨r,1,none⟩ (.string c1)).setCell ⟨r,2,none⟩ (.int .i64 c2)).setCell ⟨r,3,none⟩ (.int .i64 c3)).setCell ⟨r,4,none⟩ (.bool c4)) r 24 (cmCells (c0,c1,c2,c3,c4)) :=
 ((((h.set_ 0 _).set_ 1 _).set_ 2 _).set_ 3 _).set_ 4 _
theorem bel_set5 {B : Nat} {a w : World} {r : Nat} (c0 : Int) (c1 : ByteArray) (c2 c3 : Int) (c4 : Bool) (h : Below B a w) (hr : B ≤ r) :
  Below B a (((((w.setCell ⟨r,0,none⟩ (.int .i64 c0)).setCell ⟨r,1,none⟩ (.string c1)).setCell ⟨r,2,none⟩ (.int .i64 c2)).setCell ⟨r,3,none⟩ (.int .i64 c3)).setCell ⟨r,4,none⟩ (.bool c4)) :=
 ((((h.setCell (p := ⟨r,0,none⟩) hr _).setCell (p := ⟨r,1,none⟩) hr _).setCell (p := ⟨r,2,none⟩) hr _).setCell (p := ⟨r,3,none⟩) hr _).setCell (p := ⟨r,4,none⟩) hr _
set_option maxHeartbeats 4000000 in
theorem read_any (f : Fm) (ps l : List Tok) (pe : Int × Int) (v : Value) (m : Int) (w : World) (hw : Wq m w) (hT : TR w v l) (hz : ∀ t ∈ l,t.2.1.size ≤ 1048576) (hps : scanA f.2.2 = (ps,pe)) (hlen : ps.length ≤ 1000) :
  Calls Tryz.prog 79 #[fmV f,v] w (ReadP (readC f l) w) := by
 obtain ⟨fk,fb,ft⟩ := f
 have hpa : partsC (fk,fb,ft) = ps := by unfold partsC; rw [hps]
 have hR : readC (fk,fb,ft) l = if l.length = ps.length then readFrom (fk,⟨#[]⟩,0,0,fb) ps l else (cmdZ,false) := by unfold readC; rw [hpa]
 rw [hR]
 obtain ⟨R,hRR⟩ : ∃ R,(if l.length = ps.length then readFrom (fk,⟨#[]⟩,0,0,fb) ps l else (cmdZ,false)) = R := ⟨_,rfl⟩
 rw [hRR]
 have HRR := Lib.hid hRR
 have hb1 : Below w.heap.size w ((w.alloc (.cells #[.int .i64 fk,.bool fb,.string ft] 122)).alloc (.cells #[.int .i64 0,.string ⟨#[]⟩,.int .i64 0,.int .i64 0,.bool false] 24)) := ((Below.refl _ _).alloc (Nat.le_refl _) _).alloc (by simp) _
 obtain ⟨W1,hW1⟩ : ∃ W1,(w.alloc (.cells #[.int .i64 fk,.bool fb,.string ft] 122)).alloc (.cells #[.int .i64 0,.string ⟨#[]⟩,.int .i64 0,.int .i64 0,.bool false] 24) = W1 := ⟨_,rfl⟩
 have hF : Blk W1 w.heap.size 122 #[.int .i64 fk,.bool fb,.string ft] := by rw [← hW1]; exact (Blk.new _ _ _).alloc _
 have hZ : Blk W1 (w.heap.size + 1) 24 (cmCells cmdZ) := by rw [← hW1]; exact Blk.newAt _ _ _ _ (by simp)
 rw [hW1] at hb1
 have f2 : W1.cell? ⟨w.heap.size,2,none⟩ = some (.string ft) := hF.cell 2
 have HS := Lib.hid (scan_out ft _ hps m W1 (hw.below hb1).wd)
 have HW1 := Lib.hid (hw.below hb1)
 have HT1 := Lib.hid (hT.below hb1)
 have HF := Lib.hid hF
 have HZ := Lib.hid hZ
 have HB1 := Lib.hid hb1
 have HZS := Lib.hid hz
 obtain ⟨a,cap,rfl⟩ := hT.form
 clear hw hT hz hps hpa hR hF hZ hb1 hRR
 by_cases hll : l.length = ps.length
 ·have hR2 := HRR.out
  rw [if_pos hll] at hR2
  have ne : ((l.length : Int) != (ps.length : Int)) = false := by rw [bne_eq_false_iff_eq]; omega
  have HLL := Lib.hid hll
  have HR2 := Lib.hid hR2
  clear hll hR2
  go_enter Tryz.func79,Tryz.ntmps79
  go_wp2_with (go_at_call 81; (refine HS.out.mono ?_); rintro e w2 ⟨v2,rfl,hT2,hb⟩; have HT2 := Lib.hid hT2; have hf2 := HF.out.below hb (Blk.lt HF.out); have hz2 := HZ.out.below hb (Blk.lt HZ.out); have HF2 := Lib.hid hf2; have HZ2 := Lib.hid hz2; have HB2 := Lib.hid (HB1.out.trans (hb.mono HB1.out.size)); have HW2 := Lib.hid (HW1.out.below hb); have HT12 := Lib.hid (HT1.out.below hb); obtain ⟨a2,cap2,rfl⟩ := hT2.form; have g0 : w2.cell? ⟨w.heap.size,0,none⟩ = some (.int .i64 fk) := hf2.cell 0; have g1 : w2.cell? ⟨w.heap.size,1,none⟩ = some (.bool fb) := hf2.cell 1; obtain ⟨z0,z1,z2,z3,z4⟩ := cm_results cmdZ hz2; have fz0 := hz2.frozen 0; have fz1 := hz2.frozen 1; have fz2 := hz2.frozen 2; have fz3 := hz2.frozen 3; have fz4 := hz2.frozen 4; clear hT2 hb hf2 hz2)
  obtain ⟨g,hg⟩ : ∃ g,w2.heap.size = g := ⟨_,rfl⟩
  obtain ⟨W3,hW3⟩ : ∃ W3,w2.alloc (.cells #[.int .i64 fk,.string ⟨#[]⟩,.int .i64 0,.int .i64 0,.bool fb] 24) = W3 := ⟨_,rfl⟩
  have hC : Blk W3 g 24 (cmCells (fk,⟨#[]⟩,0,0,fb)) := by rw [← hW3,← hg]; exact Blk.new _ _ _
  have hb3 : Below g w2 W3 := by rw [← hW3,← hg]; exact (Below.refl _ _).alloc (Nat.le_refl _) _
  have HC := Lib.hid hC
  have HB3 := Lib.hid hb3
  have HGS := Lib.hid hg
  rw [hW3,hg]
  clear hW3 hC hb3 hg g0 g1 z0 z1 z2 z3 z4 fz0 fz1 fz2 fz3 fz4 f2 hW1
  go_loopg [32] ps.length (fun gk u32 wx => ∃ (i : Nat) (c : Cm),u32 = .int .i64 (i : Int) ∧ i + gk = ps.length ∧ Blk wx g 24 (cmCells c) ∧ Below g w2 wx ∧ readFrom c (ps.drop i) (l.drop i) = R)
  case atStart => exact ⟨0,_,rfl,by omega,HC.out,HB3.out,HR2.out⟩
  case round =>
   obtain ⟨i,c,rfl,hi,hG,hB,hr⟩ := hrel
   have hgs := HGS.out
   have hBw : Below w2.heap.size w2 wr := by rw [hgs]; exact hB
   have HG := Lib.hid hG
   have HB := Lib.hid hB
   have HWR := Lib.hid (HW2.out.below hBw)
   have hzr := HZ2.out.below hBw (Blk.lt HZ2.out)
   have HZR := Lib.hid hzr
   have HTP := Lib.hid (HT2.out.below hBw)
   have HTL := Lib.hid (HT12.out.below hBw)
   have HR := Lib.hid hr
   have HI := Lib.hid hi
   have hgl : g < wr.heap.size := hG.lt
   obtain ⟨z0,z1,z2,z3,z4⟩ := cm_results cmdZ hzr
   have fz0 := hzr.frozen 0
   have fz1 := hzr.frozen 1
   have fz2 := hzr.frozen 2
   have fz3 := hzr.frozen 3
   have fz4 := hzr.frozen 4
   cases gk with
   | zero =>
    have l1 : ¬ ((i : Int) < (ps.length : Int)) := by omega
    obtain ⟨c0,c1,c2,c3,c4⟩ := c
    obtain ⟨y0,y1,y2,y3,y4⟩ := cm_results _ hG
    clear hG hB hr hi hgs hBw hzr hgl
    go_wp2
    have hfin := cm_set5 c0 c1 c2 c3 c4 HZR.out
    have hbfin := bel_set5 c0 c1 c2 c3 c4 (HB2.out.trans ((HB.out.mono (by rw [← HGS.out]; exact HB2.out.size)))) (by omega : w.heap.size ≤ w.heap.size + 1)
    obtain ⟨k0,k1,k2,k3,k4⟩ := cm_results _ hfin
    refine bodyPost_ret (v := .tuple #[cmV (c0,c1,c2,c3,c4),.bool true]) (by simp [results,Tryz.results79,go_sem,k0,k1,k2,k3,k4]) rfl ?_
    refine ⟨?_,hbfin⟩
    have hr := HR.out
    rw [List.drop_of_length_le (by have := HI.out; omega)] at hr
    rw [← hr]; rfl
   | succ gk =>
    have hlt : i < ps.length := by omega
    have hlt2 : i < l.length := by have := HLL.out; omega
    obtain ⟨b1,o1,cp1,he1,hcp1,hx1⟩ := HTP.out.inv ps.length rfl (by omega)
    obtain ⟨b2,o2,cp2,he2,hcp2,hx2⟩ := HTL.out.inv l.length rfl (by omega)
    injection he1 with ea1 _ ec1
    injection he2 with ea2 _ ec2
    subst ea1 ec1 ea2 ec2
    obtain ⟨p,hp⟩ : ∃ p,ps[i] = p := ⟨_,rfl⟩
    obtain ⟨t,ht⟩ : ∃ t,l[i] = t := ⟨_,rfl⟩
    have hts : t.2.1.size ≤ 1048576 := by rw [← ht]; exact HZS.out _ (List.getElem_mem hlt2)
    obtain ⟨x0,x1,x2⟩ := hx1 i p (by rw [List.getElem?_eq_getElem hlt,hp])
    obtain ⟨y0,y1,y2⟩ := hx2 i t (by rw [List.getElem?_eq_getElem hlt2,ht])
    have hb2l : b2 < wr.heap.size := World.block_lt_of_cell? wr _ y0
    have hal : ∀ (o : Obj) (j : Nat),(wr.alloc o).cell? ⟨b2,j,none⟩ = wr.cell? ⟨b2,j,none⟩ := fun o j => World.cell?_of_block (a := ⟨b2,j,none⟩) (Below.heap_alloc wr o b2 hb2l)
    have w0 : ∀ o,(wr.alloc o).cell? ⟨b2,o2 + i * 3,none⟩ = some (.int .i64 t.1) := fun o => (hal o _).trans y0
    have w1 : ∀ o,(wr.alloc o).cell? ⟨b2,o2 + i * 3 + 1,none⟩ = some (.string t.2.1) := fun o => (hal o _).trans y1
    have w2' : ∀ o,(wr.alloc o).cell? ⟨b2,o2 + i * 3 + 2,none⟩ = some (.int .i64 t.2.2) := fun o => (hal o _).trans y2
    have hr2 := hr
    rw [drop_cons_at hlt,drop_cons_at hlt2,hp,ht,readFrom] at hr2
    have HR2' := Lib.hid hr2
    have HTS := Lib.hid hts
    have l0 : (0 : Int) ≤ (i : Int) := by omega
    have l1 : (i : Int) < (ps.length : Int) := by omega
    have l2 : (i : Int) < (l.length : Int) := by omega
    obtain ⟨i1,hi1⟩ : ∃ i1,i + 1 = i1 := ⟨_,rfl⟩
    have wk : IntKind.i64.wrap ((i : Int) + 1) = (i1 : Int) := by rw [show (i : Int) + 1 = (i1 : Int) by omega]; exact IntWalk.i64_in _ (by omega)
    have HI1 := Lib.hid hi1
    have HTA : Hid (∀ W,Wq m W → Blk W g 24 (cmCells c) → Calls Tryz.prog 115 #[nP g,tkV p,tkV t] W fun e w' => e = .returned (.bool (takeC c p t).2) ∧ ∃ c',Blk w' g 24 (cmCells c') ∧ ((takeC c p t).2 = true → c' = (takeC c p t).1) ∧ But [g] W w') := Lib.hid (fun W hW hG => take_any g c p t m W hW hG hts)
    obtain ⟨F,hF⟩ : ∃ F,(takeC c p t).2 = F := ⟨_,rfl⟩
    obtain ⟨cn,hcn⟩ : ∃ cn,(takeC c p t).1 = cn := ⟨_,rfl⟩
    rw [hF,hcn] at HTA HR2'
    obtain ⟨pk,pt,pa⟩ := p
    obtain ⟨tk,tt,ta⟩ := t
    clear hF hcn hG hB hr hr2 hi hgs hBw hzr hx1 hx2 hp ht hts y0 y1 y2 hal hi1 hb2l z0 z1 z2 z3 z4 fz0 fz1 fz2 fz3 fz4
    cases F with
    | true =>
     go_wp2
     obtain ⟨W4,hW4⟩ : ∃ W4,wr.alloc (.cells #[.int .i64 pk,.string pt,.int .i64 pa] 118) = W4 := ⟨_,rfl⟩
     have pb : Blk W4 wr.heap.size 118 #[.int .i64 pk,.string pt,.int .i64 pa] := by rw [← hW4]; exact Blk.new _ _ _
     have hb4 : Below wr.heap.size wr W4 := by rw [← hW4]; exact (Below.refl _ _).alloc (Nat.le_refl _) _
     have p0 : W4.cell? ⟨wr.heap.size,0,none⟩ = some (.int .i64 pk) := pb.cell 0
     have p1 : W4.cell? ⟨wr.heap.size,1,none⟩ = some (.string pt) := pb.cell 1
     have p2 : W4.cell? ⟨wr.heap.size,2,none⟩ = some (.int .i64 pa) := pb.cell 2
     have v0 := w0 (.cells #[.int .i64 pk,.string pt,.int .i64 pa] 118)
     have v1 := w1 (.cells #[.int .i64 pk,.string pt,.int .i64 pa] 118)
     have v2 := w2' (.cells #[.int .i64 pk,.string pt,.int .i64 pa] 118)
     rw [hW4] at v0 v1 v2 ⊢
     have HB4 := Lib.hid hb4
     have HTK := Lib.hid (HTA.out W4.drew ((HWR.out.below hb4).below ((Below.refl _ _).drew)) (HG.out.below hb4.drew hgl))
     clear hW4 pb hb4 w0 w1 w2'
     go_region_with (go_at_call 115; (refine HTK.out.mono ?_); rintro e w5 ⟨rfl,c',h5,hc5,hb5⟩; have H5 := Lib.hid h5; have HC5 := Lib.hid hc5; have HB5 := Lib.hid hb5; clear h5 hc5 hb5)
     all_goals
      have hc5 : c' = cn := HC5.out trivial
      subst hc5
      have hg5 : g ≤ W4.drew.heap.size := Nat.le_trans (Nat.le_of_lt hgl) HB4.out.size
      have hbe := Lib.hid (but_bel ((HB.out.trans (HB4.out.mono (Nat.le_of_lt hgl))).drew) HB5.out hg5)
      go_wp2
      go_roundg gk
      case measure => exact Nat.lt_succ_self _
      case rel => exact ⟨i1,c',rfl,by have := HI.out; have := HI1.out; omega,H5.out,hbe.out,by have := HR2'.out; simp only [if_true] at this; rw [HI1.out] at this; exact this⟩
    | false =>
     go_wp2
     obtain ⟨W4,hW4⟩ : ∃ W4,wr.alloc (.cells #[.int .i64 pk,.string pt,.int .i64 pa] 118) = W4 := ⟨_,rfl⟩
     have pb : Blk W4 wr.heap.size 118 #[.int .i64 pk,.string pt,.int .i64 pa] := by rw [← hW4]; exact Blk.new _ _ _
     have hb4 : Below wr.heap.size wr W4 := by rw [← hW4]; exact (Below.refl _ _).alloc (Nat.le_refl _) _
     have p0 : W4.cell? ⟨wr.heap.size,0,none⟩ = some (.int .i64 pk) := pb.cell 0
     have p1 : W4.cell? ⟨wr.heap.size,1,none⟩ = some (.string pt) := pb.cell 1
     have p2 : W4.cell? ⟨wr.heap.size,2,none⟩ = some (.int .i64 pa) := pb.cell 2
     have v0 := w0 (.cells #[.int .i64 pk,.string pt,.int .i64 pa] 118)
     have v1 := w1 (.cells #[.int .i64 pk,.string pt,.int .i64 pa] 118)
     have v2 := w2' (.cells #[.int .i64 pk,.string pt,.int .i64 pa] 118)
     rw [hW4] at v0 v1 v2 ⊢
     have HB4 := Lib.hid hb4
     have HTK := Lib.hid (HTA.out W4.drew ((HWR.out.below hb4).below ((Below.refl _ _).drew)) (HG.out.below hb4.drew hgl))
     clear hW4 pb hb4 w0 w1 w2'
     go_region_with (go_at_call 115; (refine HTK.out.mono ?_); rintro e w5 ⟨rfl,c',h5,hc5,hb5⟩; have H5 := Lib.hid h5; have HC5 := Lib.hid hc5; have HB5 := Lib.hid hb5; clear h5 hc5 hb5)
     all_goals
      have hg5 : g ≤ W4.drew.heap.size := Nat.le_trans (Nat.le_of_lt hgl) HB4.out.size
      have hbe := but_bel ((HB.out.trans (HB4.out.mono (Nat.le_of_lt hgl))).drew) HB5.out hg5
      have hg2 := HGS.out
      have hz5 := HZ2.out.below (by rw [hg2]; exact hbe : Below w2.heap.size w2 w5) (Blk.lt HZ2.out)
      have HBE := Lib.hid hbe
      have HZ5 := Lib.hid hz5
      obtain ⟨z0,z1,z2,z3,z4⟩ := cm_results cmdZ hz5
      have fz0 := hz5.frozen 0
      have fz1 := hz5.frozen 1
      have fz2 := hz5.frozen 2
      have fz3 := hz5.frozen 3
      have fz4 := hz5.frozen 4
      clear hbe hz5 hg2 hg5
      go_wp2
      have hfin := cm_set5 0 ⟨#[]⟩ 0 0 false HZ5.out
      have hbfin := bel_set5 0 ⟨#[]⟩ 0 0 false (HB2.out.trans ((HBE.out.mono (by rw [← HGS.out]; exact HB2.out.size)))) (by omega : w.heap.size ≤ w.heap.size + 1)
      obtain ⟨k0,k1,k2,k3,k4⟩ := cm_results _ hfin
      refine bodyPost_ret (v := .tuple #[cmV cmdZ,.bool false]) (by simp [results,Tryz.results79,go_sem,k0,k1,k2,k3,k4,cmdZ]) rfl ?_
      exact ⟨by rw [← HR2'.out]; rfl,hbfin⟩
 ·have hR2 := HRR.out
  rw [if_neg hll] at hR2
  have ne : ((l.length : Int) != (ps.length : Int)) = true := by rw [bne_iff_ne]; omega
  have HR2 := Lib.hid hR2
  clear hll hR2
  go_enter Tryz.func79,Tryz.ntmps79
  go_wp2_with (go_at_call 81; (refine HS.out.mono ?_); rintro e w2 ⟨v2,rfl,hT2,hb⟩; have HT2 := Lib.hid hT2; have hf2 := HF.out.below hb (Blk.lt HF.out); have hz2 := HZ.out.below hb (Blk.lt HZ.out); have HF2 := Lib.hid hf2; have HZ2 := Lib.hid hz2; have HB2 := Lib.hid (HB1.out.trans (hb.mono HB1.out.size)); have HW2 := Lib.hid (HW1.out.below hb); have HT12 := Lib.hid (HT1.out.below hb); obtain ⟨a2,cap2,rfl⟩ := hT2.form; have g0 : w2.cell? ⟨w.heap.size,0,none⟩ = some (.int .i64 fk) := hf2.cell 0; have g1 : w2.cell? ⟨w.heap.size,1,none⟩ = some (.bool fb) := hf2.cell 1; obtain ⟨z0,z1,z2,z3,z4⟩ := cm_results cmdZ hz2; have fz0 := hz2.frozen 0; have fz1 := hz2.frozen 1; have fz2 := hz2.frozen 2; have fz3 := hz2.frozen 3; have fz4 := hz2.frozen 4; clear hT2 hb hf2 hz2)
  have hfin := cm_set5 0 ⟨#[]⟩ 0 0 false HZ2.out
  have hbfin := bel_set5 0 ⟨#[]⟩ 0 0 false HB2.out (by omega : w.heap.size ≤ w.heap.size + 1)
  obtain ⟨k0,k1,k2,k3,k4⟩ := cm_results _ hfin
  refine bodyPost_ret (v := .tuple #[cmV cmdZ,.bool false]) (by simp [results,Tryz.results79,go_sem,k0,k1,k2,k3,k4,cmdZ]) rfl ?_
  exact ⟨by rw [← HR2.out],hbfin⟩

theorem parts_len : ∀ f ∈ formsC,(partsC f).length ≤ 1000 := by
 intro f hf
 obtain ⟨q,hq,rfl,hp⟩ := forms_parts f hf
 rw [hp]
 have := (flags q hq).2.2.2
 omega
theorem idx0 (w : World) : (Instr.index 123 (.agg formCells) (.int .i64 0)).run Tryz.prog w = .ok (fmV (formsC[0]'(by decide))) w := by kernel_rfl
theorem idx1 (w : World) : (Instr.index 123 (.agg formCells) (.int .i64 1)).run Tryz.prog w = .ok (fmV (formsC[1]'(by decide))) w := by kernel_rfl
theorem idx2 (w : World) : (Instr.index 123 (.agg formCells) (.int .i64 2)).run Tryz.prog w = .ok (fmV (formsC[2]'(by decide))) w := by kernel_rfl
theorem idx3 (w : World) : (Instr.index 123 (.agg formCells) (.int .i64 3)).run Tryz.prog w = .ok (fmV (formsC[3]'(by decide))) w := by kernel_rfl
theorem idx4 (w : World) : (Instr.index 123 (.agg formCells) (.int .i64 4)).run Tryz.prog w = .ok (fmV (formsC[4]'(by decide))) w := by kernel_rfl
theorem idx5 (w : World) : (Instr.index 123 (.agg formCells) (.int .i64 5)).run Tryz.prog w = .ok (fmV (formsC[5]'(by decide))) w := by kernel_rfl
theorem idx6 (w : World) : (Instr.index 123 (.agg formCells) (.int .i64 6)).run Tryz.prog w = .ok (fmV (formsC[6]'(by decide))) w := by kernel_rfl
theorem idx_form (i : Nat) (h : i < formsC.length) (w : World) : (Instr.index 123 (.agg formCells) (.int .i64 (i : Int))).run Tryz.prog w = .ok (fmV formsC[i]) w := by
 match i,h with
 | 0,_ => exact idx0 w
 | 1,_ => exact idx1 w
 | 2,_ => exact idx2 w
 | 3,_ => exact idx3 w
 | 4,_ => exact idx4 w
 | 5,_ => exact idx5 w
 | 6,_ => exact idx6 w
theorem forms_info : (Tryz.prog.info? 123).map (·.size) = some formCells.size := by kernel_rfl
set_option maxHeartbeats 4000000 in
theorem command_any (l : List Tok) (v : Value) (m : Int) (w : World) (hw : Wq m w) (hT : TR w v l) (hz : ∀ t ∈ l,t.2.1.size ≤ 1048576) :
  Calls Tryz.prog 38 #[v] w (ReadP (cmdA l) w) := by
 obtain ⟨R,hRR⟩ : ∃ R,cmdA l = R := ⟨_,rfl⟩
 rw [hRR]
 have hR0 : cmdF (formsC.drop 0) l = R := hRR
 obtain ⟨W1,hW1⟩ : ∃ W1,w.alloc (.cells #[.int .i64 0,.string ⟨#[]⟩,.int .i64 0,.int .i64 0,.bool false] 24) = W1 := ⟨_,rfl⟩
 have hZ : Blk W1 w.heap.size 24 (cmCells cmdZ) := by rw [← hW1]; exact Blk.new _ _ _
 have hb1 : Below w.heap.size w W1 := by rw [← hW1]; exact (Below.refl _ _).alloc (Nat.le_refl _) _
 have HW1 := Lib.hid (hw.below hb1)
 have HT1 := Lib.hid (hT.below hb1)
 have HZ := Lib.hid hZ
 have HB1 := Lib.hid hb1
 have HZS := Lib.hid hz
 have HR0 := Lib.hid hR0
 obtain ⟨ft,ffr,hfm⟩ := (hw.below hb1).frm
 have HFM := Lib.hid hfm
 have HUN := Lib.hid Tryz.underlying123
 clear hfm
 obtain ⟨a,cap,rfl⟩ := hT.form
 clear hw hT hz hRR hR0 hZ hb1
 go_enter Tryz.func38,Tryz.ntmps38
 go_wp2_with ((with_reducible refine wpList_load_row (o := ⟨some 8,.load 123 (.global 0),_,_,_,_⟩) rfl 123 (.global 0) rfl 0 ?_ ft formCells ffr _ HFM.out HUN.out ?_ forms_info ?_); (· rfl); (· rfl))
 go_loopg [9] 7 (fun gk u9 wx => ∃ i : Nat,u9 = .int .i64 (i : Int) ∧ i + gk = 7 ∧ Below W1.heap.size W1 wx ∧ cmdF (formsC.drop i) l = R)
 case atStart => exact ⟨0,rfl,rfl,Below.refl _ _,HR0.out⟩
 case round =>
  obtain ⟨i,rfl,hi,hB,hr⟩ := hrel
  have HB := Lib.hid hB
  have hzr := HZ.out.below hB (Blk.lt HZ.out)
  have HZR := Lib.hid hzr
  have HWR := Lib.hid (HW1.out.below hB)
  have HTR := Lib.hid (HT1.out.below hB)
  have HI := Lib.hid hi
  have hs1 : w.heap.size ≤ W1.heap.size := HB1.out.size
  cases gk with
  | zero =>
   have l1 : ¬ ((i : Int) < 7) := by omega
   have hR : R = (cmdZ,false) := by rw [← hr,List.drop_of_length_le (by show 7 ≤ i; omega)]; rfl
   have HR := Lib.hid hR
   obtain ⟨z0,z1,z2,z3,z4⟩ := cm_results cmdZ hzr
   have fz0 := hzr.frozen 0
   have fz1 := hzr.frozen 1
   have fz2 := hzr.frozen 2
   have fz3 := hzr.frozen 3
   have fz4 := hzr.frozen 4
   clear hB hzr hr hR hi hs1
   go_wp2
   have hfin := cm_set5 0 ⟨#[]⟩ 0 0 false HZR.out
   have hbfin := bel_set5 0 ⟨#[]⟩ 0 0 false (HB1.out.trans (HB.out.mono HB1.out.size)) (Nat.le_refl w.heap.size)
   obtain ⟨k0,k1,k2,k3,k4⟩ := cm_results _ hfin
   refine bodyPost_ret (v := .tuple #[cmV cmdZ,.bool false]) (by simp [results,Tryz.results38,go_sem,k0,k1,k2,k3,k4,cmdZ]) rfl ?_
   exact ⟨by rw [HR.out],hbfin⟩
  | succ gk =>
   have hlt : i < formsC.length := by show i < 7; omega
   have q1 := idx_form i hlt
   have hr2 := hr
   rw [List.drop_eq_getElem_cons hlt,cmdF] at hr2
   have hmem : formsC[i] ∈ formsC := List.getElem_mem hlt
   obtain ⟨f,hf⟩ : ∃ f,formsC[i] = f := ⟨_,rfl⟩
   rw [hf] at q1 hr2 hmem
   have HRD : Hid (∀ W,Wq m W → TR W (.slice a l.length cap) l → Calls Tryz.prog 79 #[fmV f,.slice a l.length cap] W fun e w' => e = .returned (.tuple #[cmV (readC f l).1,.bool (readC f l).2]) ∧ Below W.heap.size W w') := Lib.hid (fun W hW hT => read_any f (partsC f) l (scanA f.2.2).2 _ m W hW hT HZS.out rfl (parts_len f hmem))
   obtain ⟨cn,hcn⟩ : ∃ cn,(readC f l).1 = cn := ⟨_,rfl⟩
   obtain ⟨F,hF⟩ : ∃ F,(readC f l).2 = F := ⟨_,rfl⟩
   rw [hcn,hF] at HRD
   rw [hcn,hF] at hr2
   have l1 : (i : Int) < 7 := by omega
   obtain ⟨i1,hi1⟩ : ∃ i1,i + 1 = i1 := ⟨_,rfl⟩
   have wk : IntKind.i64.wrap ((i : Int) + 1) = (i1 : Int) := by rw [show (i : Int) + 1 = (i1 : Int) by omega]; exact IntWalk.i64_in _ (by omega)
   have HI1 := Lib.hid hi1
   rw [hi1] at hr2
   have HR2 := Lib.hid hr2
   obtain ⟨fk,fb,fx⟩ := f
   obtain ⟨c0,c1,c2,c3,c4⟩ := cn
   have hbf : Below wr.heap.size wr (wr.alloc (.cells #[.int .i64 fk,.bool fb,.string fx] 122)) := (Below.refl _ _).alloc (Nat.le_refl _) _
   have HBF := Lib.hid hbf
   have HRE := Lib.hid (HRD.out _ (HWR.out.below hbf) (HTR.out.below hbf))
   clear hB hzr hr hr2 hi hs1 hmem hf hcn hF hi1 hbf hlt
   cases F with
   | true =>
    go_wp2_with (go_at_call 79; (refine HRE.out.mono ?_); rintro e w5 ⟨rfl,hb5⟩; have hb6 : Below wr.heap.size wr w5 := HBF.out.trans (hb5.mono HBF.out.size); have hz5 := HZR.out.below hb6 (Blk.lt HZR.out); have HZ5 := Lib.hid hz5; have HB5 := Lib.hid hb6; obtain ⟨z0,z1,z2,z3,z4⟩ := cm_results cmdZ hz5; have fz0 := hz5.frozen 0; have fz1 := hz5.frozen 1; have fz2 := hz5.frozen 2; have fz3 := hz5.frozen 3; have fz4 := hz5.frozen 4; have hn5 := hz5.lt; clear hb5 hb6 hz5)
    have hfin := (cm_set5 c0 c1 c2 c3 c4 HZ5.out).alloc (.cells #[.int .i64 c0,.string c1,.int .i64 c2,.int .i64 c3,.bool c4] 24)
    have hba : Below w.heap.size w w5 := (HB1.out.trans (HB.out.mono HB1.out.size)).trans (HB5.out.mono (Nat.le_trans HB1.out.size HB.out.size))
    have hbfin := (bel_set5 c0 c1 c2 c3 c4 hba (Nat.le_refl w.heap.size)).alloc (by simp; exact hba.size) (.cells #[.int .i64 c0,.string c1,.int .i64 c2,.int .i64 c3,.bool c4] 24)
    obtain ⟨k0,k1,k2,k3,k4⟩ := cm_results _ hfin
    refine bodyPost_ret (v := .tuple #[cmV (c0,c1,c2,c3,c4),.bool true]) (by simp [results,Tryz.results38,go_sem,k0,k1,k2,k3,k4]) rfl ?_
    exact ⟨by have := HR2.out; simp only [if_true] at this; rw [← this],hbfin⟩
   | false =>
    go_wp2_with (go_at_call 79; (refine HRE.out.mono ?_); rintro e w5 ⟨rfl,hb5⟩; have hb6 : Below wr.heap.size wr w5 := HBF.out.trans (hb5.mono HBF.out.size); have HB5 := Lib.hid hb6; clear hb5 hb6)
    go_roundg gk
    case measure => exact Nat.lt_succ_self _
    case rel => exact ⟨i1,rfl,by have := HI.out; have := HI1.out; omega,(HB.out.trans (HB5.out.mono HB.out.size)).alloc (Nat.le_trans HB.out.size HB5.out.size) _,by have := HR2.out; simpa using this⟩

def eqC (a b : Cm) : Bool := a.1 == b.1 && (a.2.1.toList == b.2.1.toList && (a.2.2.1 == b.2.2.1 && (a.2.2.2.1 == b.2.2.2.1 && a.2.2.2.2 == b.2.2.2.2)))
theorem eqC_iff (a b : Cm) : eqC a b = true ↔ a = b := by
 obtain ⟨a0,a1,a2,a3,a4⟩ := a
 obtain ⟨b0,b1,b2,b3,b4⟩ := b
 unfold eqC
 simp only [Bool.and_eq_true,beq_iff_eq,Prod.mk.injEq,Lib.toList_data]
 constructor
 ·rintro ⟨h1,h2,h3,h4,h5⟩
  exact ⟨h1,by apply ByteArray.ext; exact Array.ext' h2,h3,h4,h5⟩
 ·rintro ⟨h1,h2,h3,h4,h5⟩
  exact ⟨h1,by rw [h2],h3,h4,h5⟩
theorem eq_cm (a b : Cm) (w : World) : (binOp .eql 24 (cmV a) (cmV b)).run Tryz.prog w = .ok (.bool (eqC a b)) w := by
 obtain ⟨a0,a1,a2,a3,a4⟩ := a
 obtain ⟨b0,b1,b2,b3,b4⟩ := b
 unfold eqC
 go_simp
 by_cases h0 : a0 = b0
 ·by_cases h1 : a1.toList = b1.toList
  ·by_cases h2 : a2 = b2
   ·by_cases h3 : a3 = b3
    ·by_cases h4 : a4 = b4
     ·simp [h0,h1,h2,h3,h4]
     ·simp [h0,h1,h2,h3,h4]
    ·simp [h0,h1,h2,h3]
   ·simp [h0,h1,h2]
  ·simp [h0,h1]
 ·simp [h0]
theorem rep_len (a b d : Tx) : ∀ s : Tx,(replC a b d s).length ≤ s.length * (a.length + b.length + d.length + 1) := by
 intro s
 induction s using replC.induct with
 | case1 r ih => rw [replC,List.length_append,List.length_cons,List.length_cons,Nat.succ_mul,Nat.succ_mul]; omega
 | case2 r ih => rw [replC,List.length_append,List.length_cons,List.length_cons,Nat.succ_mul,Nat.succ_mul]; omega
 | case3 r ih => rw [replC,List.length_append,List.length_cons,List.length_cons,Nat.succ_mul,Nat.succ_mul]; omega
 | case4 x r h1 h2 h3 ih =>
  rw [replC.eq_4 a b d x r h1 h2 h3,List.length_cons,List.length_cons,Nat.succ_mul]; omega
 | case5 => simp [replC]
theorem form_facts : ∀ f ∈ formsC,wfT f.2.2.data.toList = true ∧ f.2.2.size ≤ 50 := by
 have h : (formsC.all fun f => wfT f.2.2.data.toList && decide (f.2.2.size ≤ 50)) = true := by kernel_rfl
 intro f hf
 have := List.all_eq_true.1 h f hf
 rw [Bool.and_eq_true,decide_eq_true_eq] at this
 exact this
theorem fill_len (f : Fm) (c : Cm) (hf : f ∈ formsC) (ht : c.2.1.size ≤ 1000) (hk : i64B c.2.2.1) (hv : i64B c.2.2.2.1) : (fillC f c).length ≤ 1000000 := by
 have h1 := rep_len c.2.1.data.toList (Lib.itoa c.2.2.1) (Lib.itoa c.2.2.2.1) f.2.2.data.toList
 have h2 := Lib.itoa_length_le c.2.2.1 hk.1 hk.2
 have h3 := Lib.itoa_length_le c.2.2.2.1 hv.1 hv.2
 have h4 : f.2.2.data.toList.length ≤ 50 := (form_facts f hf).2
 have h5 : c.2.1.data.toList.length ≤ 1000 := ht
 have h6 : f.2.2.data.toList.length * (c.2.1.data.toList.length + (Lib.itoa c.2.2.1).length + (Lib.itoa c.2.2.2.1).length + 1) ≤ 50 * 1043 := Nat.mul_le_mul h4 (by omega)
 show (replC _ _ _ _).length ≤ _
 omega
theorem bel_seq {B : Nat} {a b c : World} (hB : B ≤ a.heap.size) (h : Below B a b) (k : Below b.heap.size b c) : Below B a c := h.trans (k.mono (Nat.le_trans hB h.size))
set_option maxHeartbeats 4000000 in
theorem text_any (c : Cm) (m : Int) (w : World) (hw : Wq m w) (ht : c.2.1.size ≤ 1000) (hk : i64B c.2.2.1) (hv : i64B c.2.2.2.1) :
  Calls Tryz.prog 39 #[cmV c] w fun e w' => e = .returned (.string (bb (textC c))) ∧ Below w.heap.size w w' := by
 obtain ⟨R,hRR⟩ : ∃ R,textC c = R := ⟨_,rfl⟩
 rw [hRR]
 have hR0 : textF (formsC.drop 0) c = R := hRR
 have HFI := Lib.hid (fun f (hf : f ∈ formsC) W hW => fill_any f c m W hW hk hv (form_facts f hf).1 (Nat.le_trans (form_facts f hf).2 (by decide)) (fill_len f c hf ht hk hv))
 have HRD := Lib.hid (fun f (hf : f ∈ formsC) s v W hW hT => read_any f (partsC f) (scanA s).1 (scanA f.2.2).2 v m W hW hT (fun t h => Nat.le_trans (scanA_txt s t h) (by decide)) rfl (parts_len f hf))
 obtain ⟨ft,ffr,hfm⟩ := hw.frm
 obtain ⟨c0,c1,c2,c3,c4⟩ := c
 obtain ⟨W1,hW1⟩ : ∃ W1,w.alloc (.cells #[.int .i64 c0,.string c1,.int .i64 c2,.int .i64 c3,.bool c4] 24) = W1 := ⟨_,rfl⟩
 have hZ : Blk W1 w.heap.size 24 (cmCells (c0,c1,c2,c3,c4)) := by rw [← hW1]; exact Blk.new _ _ _
 have hb1 : Below w.heap.size w W1 := by rw [← hW1]; exact (Below.refl _ _).alloc (Nat.le_refl _) _
 have hfm1 : W1.heap[0]? = some (.cells formCells ft ffr) := (hb1.block _ (Array.getElem?_eq_some_iff.1 hfm).1).trans hfm
 have HFM := Lib.hid hfm1
 have HUN := Lib.hid Tryz.underlying123
 have HW1 := Lib.hid (hw.below hb1)
 have HZ := Lib.hid hZ
 have HB1 := Lib.hid hb1
 have HR0 := Lib.hid hR0
 clear hw ht hk hv hRR hR0 hZ hb1 hfm hfm1
 go_enter Tryz.func39,Tryz.ntmps39
 go_wp2_with ((with_reducible refine wpList_load_row (o := ⟨some 11,.load 123 (.global 0),_,_,_,_⟩) rfl 123 (.global 0) rfl 0 ?_ ft formCells ffr _ HFM.out HUN.out ?_ forms_info ?_); (· rfl); (· rfl))
 go_loopg [12] 7 (fun gk u12 wx => ∃ i : Nat,u12 = .int .i64 (i : Int) ∧ i + gk = 7 ∧ Below W1.heap.size W1 wx ∧ textF (formsC.drop i) (c0,c1,c2,c3,c4) = R)
 case atStart => exact ⟨0,rfl,rfl,Below.refl _ _,HR0.out⟩
 case round =>
  obtain ⟨i,rfl,hi,hB,hr⟩ := hrel
  have HB := Lib.hid hB
  have hzr := HZ.out.below hB (Blk.lt HZ.out)
  have HZR := Lib.hid hzr
  have HWR := Lib.hid (HW1.out.below hB)
  have HI := Lib.hid hi
  have hs1 : w.heap.size ≤ W1.heap.size := HB1.out.size
  cases gk with
  | zero =>
   have l1 : ¬ ((i : Int) < 7) := by omega
   have hR : R = [] := by rw [← hr,List.drop_of_length_le (by show 7 ≤ i; omega)]; rfl
   have HR := Lib.hid hR
   clear hB hzr hr hR hi hs1
   go_wp2
   go_ret
   exact ⟨by rw [HR.out]; rfl,HB1.out.trans (HB.out.mono HB1.out.size)⟩
  | succ gk =>
   have hlt : i < formsC.length := by show i < 7; omega
   have q1 := idx_form i hlt
   have hr2 := hr
   rw [List.drop_eq_getElem_cons hlt,textF] at hr2
   have hmem : formsC[i] ∈ formsC := List.getElem_mem hlt
   obtain ⟨f,hf⟩ : ∃ f,formsC[i] = f := ⟨_,rfl⟩
   rw [hf] at q1 hr2 hmem
   have HF1 := Lib.hid (HFI.out f hmem)
   have HD1 := Lib.hid (HRD.out f hmem (bb (fillC f (c0,c1,c2,c3,c4))))
   have l1 : (i : Int) < 7 := by omega
   obtain ⟨i1,hi1⟩ : ∃ i1,i + 1 = i1 := ⟨_,rfl⟩
   have wk : IntKind.i64.wrap ((i : Int) + 1) = (i1 : Int) := by rw [show (i : Int) + 1 = (i1 : Int) by omega]; exact IntWalk.i64_in _ (by omega)
   have HI1 := Lib.hid hi1
   rw [hi1] at hr2
   obtain ⟨T,hT⟩ : ∃ T,fillC f (c0,c1,c2,c3,c4) = T := ⟨_,rfl⟩
   rw [hT] at hr2 HF1 HD1
   have HSC := Lib.hid (fun W hW => scan_out (bb T) _ rfl m W hW)
   have HR2 := Lib.hid hr2
   obtain ⟨fk,fb,fx⟩ := f
   have hbf : Below wr.heap.size wr (wr.alloc (.cells #[.int .i64 fk,.bool fb,.string fx] 122)) := (Below.refl _ _).alloc (Nat.le_refl _) _
   have HBF := Lib.hid hbf
   obtain ⟨z0,z1,z2,z3,z4⟩ := cm_results _ (Blk.below hzr hbf hzr.lt)
   by_cases hkk : fk = c0
   ·by_cases hbb : fb = c4
    ·subst hkk hbb
     obtain ⟨cn,hcn⟩ : ∃ cn,(readC (fk,fb,fx) (scanA (bb T)).1).1 = cn := ⟨_,rfl⟩
     obtain ⟨F,hF⟩ : ∃ F,(readC (fk,fb,fx) (scanA (bb T)).1).2 = F := ⟨_,rfl⟩
     have hrc : readC (fk,fb,fx) (scanA (bb T)).1 = (cn,F) := by rw [← hcn,← hF]
     have HD2 : Hid (∀ v W,Wq m W → TR W v (scanA (bb T)).1 → Calls Tryz.prog 79 #[fmV (fk,fb,fx),v] W fun e w' => e = .returned (.tuple #[cmV cn,.bool F]) ∧ Below W.heap.size W w') := Lib.hid (fun v W hW hT => by have := HD1.out v W hW hT; unfold ReadP at this; rw [hrc] at this; exact this)
     obtain ⟨E,hE⟩ : ∃ E,eqC cn (fk,c1,c2,c3,fb) = E := ⟨_,rfl⟩
     have qe := eq_cm cn (fk,c1,c2,c3,fb)
     rw [hE] at qe
     have n1 : (fk != fk) = false := by simp
     have n2 : (fb != fb) = false := by simp
     rw [hrc] at hr2
     have hr4 : (if F = true ∧ E = true then T else textF (formsC.drop i1) (fk,c1,c2,c3,fb)) = R := by
      rw [← hr2]
      by_cases hFE : F = true ∧ E = true
      ·rw [if_pos hFE,if_pos ⟨rfl,rfl,by rw [hFE.1,(eqC_iff _ _).1 (hE.trans hFE.2)]⟩]
      ·rw [if_neg hFE,if_neg (fun h => hFE (by
        have h2 := h.2.2
        injection h2 with h3 h4
        exact ⟨h4,by rw [← hE]; exact (eqC_iff _ _).2 h3⟩))]
     have HR4 := Lib.hid hr4
     have HWF := Lib.hid (HWR.out.below hbf)
     have HZF := Lib.hid (Blk.below hzr hbf hzr.lt)
     have HF2 := Lib.hid (HF1.out _ HWF.out)
     have hfb : Blk (wr.alloc (.cells #[.int .i64 fk,.bool fb,.string fx] 122)) wr.heap.size 122 #[.int .i64 fk,.bool fb,.string fx] := Blk.new _ _ _
     have HFB := Lib.hid hfb
     obtain ⟨d0,d1,d2,d3,d4⟩ := cn
     clear hB hzr hr hr2 hi hs1 hmem hf hi1 hbf hlt hT hcn hF hrc hE hr4 hfb HR2 HD1 HF1 HRD HFI
     cases F with
     | true =>
      cases E with
      | true =>
       go_wp2_with (first
        | (go_at_call 80; (refine HF2.out.mono ?_); rintro e w5 ⟨rfl,hb5⟩; have HB5 := Lib.hid hb5; have HW5 := Lib.hid (HWF.out.below hb5); have HZ5 := Lib.hid (HZF.out.below hb5 (Blk.lt HZF.out)); have HFB5 := Lib.hid (HFB.out.below hb5 (Blk.lt HFB.out)); clear hb5)
        | (go_at_call 81; (refine (HSC.out _ HW5.out.wd).mono ?_); rintro e w6 ⟨v6,rfl,hT6,hb6⟩; have HT6 := Lib.hid hT6; have HB6 := Lib.hid hb6; have HW6 := Lib.hid (HW5.out.below hb6); have hz6 := HZ5.out.below hb6 (Blk.lt HZ5.out); have HZ6 := Lib.hid hz6; have hf6 := HFB5.out.below hb6 (Blk.lt HFB5.out); have g0 : w6.cell? ⟨wr.heap.size,0,none⟩ = some (.int .i64 fk) := hf6.cell 0; have g1 : w6.cell? ⟨wr.heap.size,1,none⟩ = some (.bool fb) := hf6.cell 1; have g2 : w6.cell? ⟨wr.heap.size,2,none⟩ = some (.string fx) := hf6.cell 2; clear hT6 hb6 hz6 hf6)
        | (go_at_call 79; (refine (HD2.out _ _ HW6.out HT6.out).mono ?_); rintro e w7 ⟨rfl,hb7⟩; have HB7 := Lib.hid hb7; have hz7 := HZ6.out.below hb7 (Blk.lt HZ6.out); have y := (fun o => cm_results _ (hz7.alloc o)); have y0 := (fun o => (y o).1); have y1 := (fun o => (y o).2.1); have y2 := (fun o => (y o).2.2.1); have y3 := (fun o => (y o).2.2.2.1); have y4 := (fun o => (y o).2.2.2.2); clear hb7 hz7 y))
       go_ret
       have hbb := bel_seq (Nat.le_refl _) (bel_seq (Nat.le_refl _) (bel_seq (Nat.le_refl _) (bel_seq (Nat.le_refl _) HB.out HBF.out) HB5.out) HB6.out) HB7.out
       refine ⟨?_,(bel_seq (Nat.le_refl _) HB1.out hbb).alloc (Nat.le_trans HB1.out.size hbb.size) _⟩
       have := HR4.out
       simp only [and_self,if_true] at this
       rw [← this]; rfl
      | false =>
       go_wp2_with (first
        | (go_at_call 80; (refine HF2.out.mono ?_); rintro e w5 ⟨rfl,hb5⟩; have HB5 := Lib.hid hb5; have HW5 := Lib.hid (HWF.out.below hb5); have HZ5 := Lib.hid (HZF.out.below hb5 (Blk.lt HZF.out)); have HFB5 := Lib.hid (HFB.out.below hb5 (Blk.lt HFB.out)); clear hb5)
        | (go_at_call 81; (refine (HSC.out _ HW5.out.wd).mono ?_); rintro e w6 ⟨v6,rfl,hT6,hb6⟩; have HT6 := Lib.hid hT6; have HB6 := Lib.hid hb6; have HW6 := Lib.hid (HW5.out.below hb6); have hz6 := HZ5.out.below hb6 (Blk.lt HZ5.out); have HZ6 := Lib.hid hz6; have hf6 := HFB5.out.below hb6 (Blk.lt HFB5.out); have g0 : w6.cell? ⟨wr.heap.size,0,none⟩ = some (.int .i64 fk) := hf6.cell 0; have g1 : w6.cell? ⟨wr.heap.size,1,none⟩ = some (.bool fb) := hf6.cell 1; have g2 : w6.cell? ⟨wr.heap.size,2,none⟩ = some (.string fx) := hf6.cell 2; clear hT6 hb6 hz6 hf6)
        | (go_at_call 79; (refine (HD2.out _ _ HW6.out HT6.out).mono ?_); rintro e w7 ⟨rfl,hb7⟩; have HB7 := Lib.hid hb7; have hz7 := HZ6.out.below hb7 (Blk.lt HZ6.out); have y := (fun o => cm_results _ (hz7.alloc o)); have y0 := (fun o => (y o).1); have y1 := (fun o => (y o).2.1); have y2 := (fun o => (y o).2.2.1); have y3 := (fun o => (y o).2.2.2.1); have y4 := (fun o => (y o).2.2.2.2); clear hb7 hz7 y))
       go_roundg gk
       case measure => exact Nat.lt_succ_self _
       case rel =>
        have hbb := bel_seq (Nat.le_refl _) (bel_seq (Nat.le_refl _) (bel_seq (Nat.le_refl _) (bel_seq (Nat.le_refl _) HB.out HBF.out) HB5.out) HB6.out) HB7.out
        exact ⟨i1,rfl,by have := HI.out; have := HI1.out; omega,hbb.alloc hbb.size _,by have := HR4.out; simpa using this⟩
     | false =>
      go_wp2_with (first
       | (go_at_call 80; (refine HF2.out.mono ?_); rintro e w5 ⟨rfl,hb5⟩; have HB5 := Lib.hid hb5; have HW5 := Lib.hid (HWF.out.below hb5); have HZ5 := Lib.hid (HZF.out.below hb5 (Blk.lt HZF.out)); have HFB5 := Lib.hid (HFB.out.below hb5 (Blk.lt HFB.out)); clear hb5)
       | (go_at_call 81; (refine (HSC.out _ HW5.out.wd).mono ?_); rintro e w6 ⟨v6,rfl,hT6,hb6⟩; have HT6 := Lib.hid hT6; have HB6 := Lib.hid hb6; have HW6 := Lib.hid (HW5.out.below hb6); have hz6 := HZ5.out.below hb6 (Blk.lt HZ5.out); have HZ6 := Lib.hid hz6; have hf6 := HFB5.out.below hb6 (Blk.lt HFB5.out); have g0 : w6.cell? ⟨wr.heap.size,0,none⟩ = some (.int .i64 fk) := hf6.cell 0; have g1 : w6.cell? ⟨wr.heap.size,1,none⟩ = some (.bool fb) := hf6.cell 1; have g2 : w6.cell? ⟨wr.heap.size,2,none⟩ = some (.string fx) := hf6.cell 2; clear hT6 hb6 hz6 hf6)
       | (go_at_call 79; (refine (HD2.out _ _ HW6.out HT6.out).mono ?_); rintro e w7 ⟨rfl,hb7⟩; have HB7 := Lib.hid hb7; have hz7 := HZ6.out.below hb7 (Blk.lt HZ6.out); have y := (fun o => cm_results _ (hz7.alloc o)); have y0 := (fun o => (y o).1); have y1 := (fun o => (y o).2.1); have y2 := (fun o => (y o).2.2.1); have y3 := (fun o => (y o).2.2.2.1); have y4 := (fun o => (y o).2.2.2.2); clear hb7 hz7 y))
      go_roundg gk
      case measure => exact Nat.lt_succ_self _
      case rel =>
       have hbb := bel_seq (Nat.le_refl _) (bel_seq (Nat.le_refl _) (bel_seq (Nat.le_refl _) (bel_seq (Nat.le_refl _) HB.out HBF.out) HB5.out) HB6.out) HB7.out
       exact ⟨i1,rfl,by have := HI.out; have := HI1.out; omega,hbb.alloc hbb.size _,by have := HR4.out; simpa using this⟩
    ·have n1 : (fk != c0) = false := by rw [bne_eq_false_iff_eq]; exact hkk
     have n2 : (fb != c4) = true := by rw [bne_iff_ne]; exact hbb
     have hr3 : textF (formsC.drop i1) (c0,c1,c2,c3,c4) = R := by rw [← HR2.out,if_neg (fun h => hbb h.2.1)]
     have HR3 := Lib.hid hr3
     clear n2 hB hzr hr hr2 hi hs1 hmem hf hi1 hbf hlt hT hkk hr3
     cases fb <;> cases c4
     all_goals first
      | exact absurd rfl hbb
      | (clear hbb
         go_wp2
         go_roundg gk
         case measure => exact Nat.lt_succ_self _
         case rel => exact ⟨i1,rfl,by have := HI.out; have := HI1.out; omega,HB.out.trans (HBF.out.mono HB.out.size),HR3.out⟩)
   ·have n1 : (fk != c0) = true := by rw [bne_iff_ne]; exact hkk
    have hr3 : textF (formsC.drop i1) (c0,c1,c2,c3,c4) = R := by rw [← HR2.out,if_neg (fun h => hkk h.1)]
    have HR3 := Lib.hid hr3
    clear hB hzr hr hr2 hi hs1 hmem hf hi1 hbf hlt hT hkk hr3
    go_wp2
    go_roundg gk
    case measure => exact Nat.lt_succ_self _
    case rel => exact ⟨i1,rfl,by have := HI.out; have := HI1.out; omega,HB.out.trans (HBF.out.mono HB.out.size),HR3.out⟩

def rowAt (l : List Rw) (i : Nat) : Bool := match l[i]? with
 | none => true
 | some r => (i == 0 || (match l[i - 1]? with | some q => decide (q.1 < r.1) | none => true)) && (inN r.1 && inN r.2)
def rowsGo (l : List Rw) : Nat → Nat → Bool
 | 0,_ => true
 | n + 1,i => rowAt l i && rowsGo l n (i + 1)
def rowsOk (l : List Rw) : Bool := decide (l.length ≤ 64) && rowsGo l l.length 0
theorem inn_any (n : Int) (w : World) : Calls Tryz.prog 86 #[.int .i64 n] w fun e w' => e = .returned (.bool (inN n)) ∧ w' = w := by
 by_cases h0 : 0 ≤ n
 ·by_cases h1 : n ≤ 999999
  ·have e : inN n = true := decide_eq_true ⟨h0,h1⟩
   rw [e]; clear e
   go_enter Tryz.func86,Tryz.ntmps86
   go_wp2
   go_ret
   exact ⟨by simp [h0,h1],rfl⟩
  ·have e : inN n = false := decide_eq_false fun h => h1 h.2
   rw [e]; clear e
   go_enter Tryz.func86,Tryz.ntmps86
   go_wp2
   go_ret
   exact ⟨by simp [h0,h1],rfl⟩
 ·have e : inN n = false := decide_eq_false fun h => h0 h.1
  rw [e]; clear e
  go_enter Tryz.func86,Tryz.ntmps86
  go_wp2
  go_ret
  exact ⟨by simp [h0],rfl⟩
theorem rinn_any (n : Int) (w : World) : Calls Tryz.prog 44 #[.int .i64 n] w fun e w' => e = .returned (.bool (inN n)) ∧ w' = w := by
 by_cases h0 : 0 ≤ n
 ·by_cases h1 : n ≤ 999999
  ·have e : inN n = true := decide_eq_true ⟨h0,h1⟩
   rw [e]; clear e
   go_enter Tryz.func44,Tryz.ntmps44
   go_wp2
   go_ret
   exact ⟨by simp [h0,h1],rfl⟩
  ·have e : inN n = false := decide_eq_false fun h => h1 h.2
   rw [e]; clear e
   go_enter Tryz.func44,Tryz.ntmps44
   go_wp2
   go_ret
   exact ⟨by simp [h0,h1],rfl⟩
 ·have e : inN n = false := decide_eq_false fun h => h0 h.1
  rw [e]; clear e
  go_enter Tryz.func44,Tryz.ntmps44
  go_wp2
  go_ret
  exact ⟨by simp [h0],rfl⟩

set_option maxHeartbeats 4000000 in
theorem rightRows_any (v : Value) (l : List Rw) (w : World) (h : RR w v l) :
  Calls Tryz.prog 42 #[v] w fun e w' => e = .returned (.bool (rowsOk l)) ∧ Below w.heap.size w w' := by
 obtain ⟨R,hR⟩ : ∃ R,rowsOk l = R := ⟨_,rfl⟩
 rw [hR]
 obtain ⟨a,cap,rfl⟩ := h.form
 have HH := Lib.hid h
 by_cases h64 : l.length ≤ 64
 ·have hg : rowsGo l l.length 0 = R := by rw [← hR]; unfold rowsOk; rw [decide_eq_true h64,Bool.true_and]
  have l64 : ¬ ((64 : Int) < (l.length : Int)) := by omega
  have HG := Lib.hid hg
  have H64 := Lib.hid h64
  clear h hR hg
  go_enter Tryz.func42,Tryz.ntmps42
  go_wp2
  go_loopg [11] l.length (fun gk u11 wx => ∃ i : Nat,u11 = .int .i64 (i : Int) ∧ i + gk = l.length ∧ Below w.heap.size w wx ∧ rowsGo l gk i = R)
  case atStart => exact ⟨0,rfl,by omega,Below.refl _ _,HG.out⟩
  case round =>
   obtain ⟨i,rfl,hi,hB,hr⟩ := hrel
   have HB := Lib.hid hB
   have HI := Lib.hid hi
   cases gk with
   | zero =>
    have l1 : ¬ ((i : Int) < (l.length : Int)) := by omega
    have hR : R = true := hr.symm
    subst hR
    clear hB hi hr
    go_wp2
    go_ret
    exact ⟨rfl,HB.out⟩
   | succ gk =>
    have hlt : i < l.length := by omega
    have hRR := HH.out.below hB
    obtain ⟨b,o,cp,he,hcp,hx⟩ := hRR.inv (by omega)
    injection he with ea _ ec
    subst ea ec
    obtain ⟨r,hr0⟩ : ∃ r,l[i] = r := ⟨_,rfl⟩
    obtain ⟨x0,x1⟩ := hx i r (by rw [List.getElem?_eq_getElem hlt,hr0])
    have hbl : b < wr.heap.size := World.block_lt_of_cell? wr _ x0
    have l0 : (0 : Int) ≤ (i : Int) := by omega
    have l1 : (i : Int) < (l.length : Int) := by omega
    obtain ⟨i1,hi1⟩ : ∃ i1,i + 1 = i1 := ⟨_,rfl⟩
    have wk : IntKind.i64.wrap ((i : Int) + 1) = (i1 : Int) := by rw [show (i : Int) + 1 = (i1 : Int) by omega]; exact IntWalk.i64_in _ (by have := H64.out; omega)
    have HI1 := Lib.hid hi1
    rw [rowsGo,hi1] at hr
    have hra : rowAt l i = ((i == 0 || (match l[i - 1]? with | some q => decide (q.1 < r.1) | none => true)) && (inN r.1 && inN r.2)) := by
     unfold rowAt; rw [List.getElem?_eq_getElem hlt,hr0]; all_goals rfl
    rw [hra] at hr
    obtain ⟨r0,r1⟩ := r
    have HN0 := Lib.hid (inn_any r0)
    have HN1 := Lib.hid (inn_any r1)
    obtain ⟨a0,ha0⟩ : ∃ a0,inN r0 = a0 := ⟨_,rfl⟩
    obtain ⟨a1,ha1⟩ : ∃ a1,inN r1 = a1 := ⟨_,rfl⟩
    rw [ha0] at HN0
    rw [ha1] at HN1
    simp only [ha0,ha1] at hr
    have hbe := (hB.alloc hB.size (.cells #[.int .i64 r0,.int .i64 r1] 39))
    have HBE := Lib.hid hbe
    by_cases h0 : i = 0
    ·subst h0
     have hr2 : ((a0 && a1) && rowsGo l gk i1) = R := by simpa using hr
     have HR2 := Lib.hid hr2
     clear hB hi hr hRR hx hr0 hi1 hra ha0 ha1 hbe hr2 hlt
     simp only [Int.natCast_zero,Nat.zero_mul,Nat.add_zero] at x0 x1 l0 l1 wk
     cases a0 with
     | false =>
      have hRf : R = false := by have := HR2.out; simpa using this.symm
      have HRF := Lib.hid hRf
      clear hRf
      go_wp2
      go_quiet (fail)
      go_wp2_with (first
       | (go_at_call 86; (with_reducible refine (HN0.out _).mono ?_); rintro e w2 ⟨rfl,hw2⟩; obtain rfl := hw2)
       | (go_at_call 86; (with_reducible refine (HN1.out _).mono ?_); rintro e w3 ⟨rfl,hw3⟩; obtain rfl := hw3))
      go_ret
      exact ⟨by rw [HRF.out]; rfl,HBE.out.trans (belN _ _ _)⟩
     | true =>
      cases a1 with
      | false =>
       have hRf : R = false := by have := HR2.out; simpa using this.symm
       have HRF := Lib.hid hRf
       clear hRf
       go_wp2
       go_quiet (fail)
       go_wp2_with (first
        | (go_at_call 86; (with_reducible refine (HN0.out _).mono ?_); rintro e w2 ⟨rfl,hw2⟩; obtain rfl := hw2)
        | (go_at_call 86; (with_reducible refine (HN1.out _).mono ?_); rintro e w3 ⟨rfl,hw3⟩; obtain rfl := hw3))
       go_ret
       exact ⟨by rw [HRF.out]; rfl,HBE.out.trans (belN _ _ _)⟩
      | true =>
       go_wp2
       go_quiet (fail)
       go_wp2_with (first
        | (go_at_call 86; (with_reducible refine (HN0.out _).mono ?_); rintro e w2 ⟨rfl,hw2⟩; obtain rfl := hw2)
        | (go_at_call 86; (with_reducible refine (HN1.out _).mono ?_); rintro e w3 ⟨rfl,hw3⟩; obtain rfl := hw3))
       go_roundg gk
       case measure => exact Nat.lt_succ_self _
       case rel => exact ⟨i1,by rw [← HI1.out]; rfl,by have := HI1.out; have := HI.out; omega,HBE.out.trans (belN _ _ _),by have := HR2.out; simpa using this⟩
    ·obtain ⟨j,hj⟩ : ∃ j,j + 1 = i := ⟨i - 1,by omega⟩
     have hjl : j < l.length := by omega
     obtain ⟨q,hq⟩ : ∃ q,l[j] = q := ⟨_,rfl⟩
     obtain ⟨y0,y1⟩ := hx j q (by rw [List.getElem?_eq_getElem hjl,hq])
     have hq2 : l[i - 1]? = some q := by rw [show i - 1 = j by omega,List.getElem?_eq_getElem hjl,hq]
     obtain ⟨q0,q1⟩ := q
     have e0 : ((i : Int) == 0) = false := by rw [beq_eq_false_iff_ne]; omega
     have e1 : decide ((i : Int) = 0) = false := by rw [decide_eq_false_iff_not]; omega
     have n0 : (i == 0) = false := by rw [beq_eq_false_iff_ne]; exact h0
     have wj : IntKind.i64.wrap ((i : Int) - 1) = (j : Int) := by rw [show (i : Int) - 1 = (j : Int) by omega]; exact IntWalk.i64_in _ (by have := H64.out; omega)
     have j0 : (0 : Int) ≤ (j : Int) := by omega
     have j1 : (j : Int) < (l.length : Int) := by omega
     rw [n0,hq2] at hr
     simp only [Bool.false_or] at hr
     have HR0 := Lib.hid hr
     have hne : ¬ (i : Int) = 0 := by omega
     clear hB hi hr hRR hx hr0 hi1 hra ha0 ha1 hbe hlt hq hq2 hj hjl h0 n0
     by_cases hc : q0 < r0
     ·have hr2 : ((a0 && a1) && rowsGo l gk i1) = R := by have := HR0.out; rw [decide_eq_true hc,Bool.true_and] at this; exact this
      have HR2 := Lib.hid hr2
      clear hr2
      cases a0 with
      | false =>
       have hRf : R = false := by have := HR2.out; simpa using this.symm
       have HRF := Lib.hid hRf
       clear hRf
       go_wp2
       go_quiet (fail)
       go_wp2_with (first
        | (go_at_call 86; (with_reducible refine (HN0.out _).mono ?_); rintro e w2 ⟨rfl,hw2⟩; obtain rfl := hw2)
        | (go_at_call 86; (with_reducible refine (HN1.out _).mono ?_); rintro e w3 ⟨rfl,hw3⟩; obtain rfl := hw3))
       go_ret
       exact ⟨by rw [HRF.out]; rfl,HBE.out.trans (belN _ _ _)⟩
      | true =>
       cases a1 with
       | false =>
        have hRf : R = false := by have := HR2.out; simpa using this.symm
        have HRF := Lib.hid hRf
        clear hRf
        go_wp2
        go_quiet (fail)
        go_wp2_with (first
         | (go_at_call 86; (with_reducible refine (HN0.out _).mono ?_); rintro e w2 ⟨rfl,hw2⟩; obtain rfl := hw2)
         | (go_at_call 86; (with_reducible refine (HN1.out _).mono ?_); rintro e w3 ⟨rfl,hw3⟩; obtain rfl := hw3))
        go_ret
        exact ⟨by rw [HRF.out]; rfl,HBE.out.trans (belN _ _ _)⟩
       | true =>
        go_wp2
        go_quiet (fail)
        go_wp2_with (first
         | (go_at_call 86; (with_reducible refine (HN0.out _).mono ?_); rintro e w2 ⟨rfl,hw2⟩; obtain rfl := hw2)
         | (go_at_call 86; (with_reducible refine (HN1.out _).mono ?_); rintro e w3 ⟨rfl,hw3⟩; obtain rfl := hw3))
        go_roundg gk
        case measure => exact Nat.lt_succ_self _
        case rel => exact ⟨i1,rfl,by have := HI1.out; have := HI.out; omega,HBE.out.trans (belN _ _ _),by have := HR2.out; simpa using this⟩
     ·have hRf : R = false := by have := HR0.out; rw [decide_eq_false hc,Bool.false_and,Bool.false_and] at this; exact this.symm
      have HRF := Lib.hid hRf
      clear hRf
      go_wp2
      go_quiet (fail)
      go_wp2
      go_ret
      exact ⟨by rw [HRF.out]; rfl,HBE.out.trans (belN _ _ _)⟩
 ·have l64 : (64 : Int) < (l.length : Int) := by omega
  have hR2 : R = false := by rw [← hR]; unfold rowsOk; rw [decide_eq_false h64,Bool.false_and]
  subst hR2
  clear h hR h64
  go_enter Tryz.func42,Tryz.ntmps42
  go_wp2
  go_ret
  exact ⟨rfl,Below.refl _ _⟩
end Go.Proofs.YtgdabkpahmlkpaaGreatDoor
