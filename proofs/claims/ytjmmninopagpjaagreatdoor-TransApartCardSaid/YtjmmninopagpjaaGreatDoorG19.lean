/- Trb Trc Trd -/
import Derived.Test.YtjmmninopagpjaaGreatDoorG1
set_option linter.unusedSimpArgs false
set_option linter.unusedVariables false
namespace Go.Proofs.YtjmmninopagpjaaGreatDoor
open Go.ChangeShapes Go.WideShapes Go.ChangeAt Go.RowKit
set_option maxRecDepth 100000
set_option linter.unusedVariables false
set_option linter.unusedSimpArgs false

theorem ptr_info : (Tryz.prog.info? 264).map (fun i => (i.zero,i.size,i.bytes)) = some (some (.pointer none),1,8) := by kernel_rfl
theorem mk4 (w : World) : (Instr.makeSlice 265 (.int .i64 4) (.int .i64 4)).run Tryz.prog w = .ok (.slice (some ⟨w.heap.size,0,none⟩) 4 4) (w.alloc (.cells #[.pointer none,.pointer none,.pointer none,.pointer none] 264)) := by kernel_rfl
set_option maxHeartbeats 2000000 in
theorem add2 (g r xg : Nat) (tb : Value) (v : ByteArray) (p : Int) (w0 : World) (h0 : ND w0 g ⟨#[]⟩ 0 ⟨#[49]⟩ (nP xg) (.slice none 0 0)) (hr0 : GR w0 r tb) (hrg : r ≠ g) :
  Calls Tryz.prog 230 #[nP g,.string ⟨#[50]⟩,.string v,.int .i64 p,nP r] w0 fun e w' => e = .returned (.tuple #[]) ∧ ND w' g ⟨#[]⟩ 0 ⟨#[]⟩ (.pointer none) (nT (w0.heap.size + 1)) ∧ TT w' (w0.heap.size + 1) (.pointer none) (nP xg) (nP w0.heap.size) (.pointer none) ∧ ND w' w0.heap.size v p ⟨#[]⟩ (.pointer none) (.slice none 0 0) ∧ But [g] w0 w' := by
 have c2 : w0.cell? ⟨g,2,none⟩ = some (.string ⟨#[49]⟩) := h0.cell 2
 have c3 : w0.cell? ⟨g,3,none⟩ = some (nP xg) := h0.cell 3
 have c4 : w0.cell? ⟨g,4,none⟩ = some (.slice none 0 0) := h0.cell 4
 have f2 := h0.frozen 2
 have f3 := h0.frozen 3
 have f4 := h0.frozen 4
 have m1 : w0.cell? ⟨r,55,none⟩ = some (.int .u8 1) := (hr0.cell 55).trans (gr_map tb 4 mapF 49 (by decide))
 have m2 : w0.cell? ⟨r,56,none⟩ = some (.int .u8 2) := (hr0.cell 56).trans (gr_map tb 4 mapF 50 (by decide))
 have m5 : w0.cell? ⟨r,5,none⟩ = some (.int .i64 4) := (hr0.cell 5).trans (gr_head tb 4 mapF 5 (by decide))
 have hlt := h0.lt
 have hrl := hr0.lt
 have q3 : ((⟨#[50]⟩ : ByteArray)[0]'(by decide)).toNat = 50 := rfl
 have q4 : ((⟨#[49]⟩ : ByteArray)[0]'(by decide)).toNat = 49 := rfl
 obtain ⟨i0,hi,hz0,hz1,hz2⟩ := info_parts ptr_info
 have H0 := Lib.hid h0
 have HR0 := Lib.hid hr0
 clear h0 hr0
 go_enter Tryz.func230,Tryz.ntmps230
 go_wp2
 go_loopg [10] 1 (fun g2 u10 wx => u10 = .int .i64 0 ∧ ∃ n,wx = w0.drewN n)
 case atStart => exact ⟨rfl,0,rfl⟩
 case round =>
  obtain ⟨rfl,n0,rfl⟩ := hrel
  go_wp2
  go_quiet (fail)
  obtain ⟨w,hw⟩ : ∃ w,(w0.drewN n0).drewN nq = w := ⟨_,rfl⟩
  have hsz : w0.heap.size = w.heap.size := by rw [← hw]; rfl
  have hb0 : But [g] w0 w := by rw [← hw]; exact ((But.refl [g] w0).drewN _).drewN _
  have h : ND w g ⟨#[]⟩ 0 ⟨#[49]⟩ (nP xg) (.slice none 0 0) := by rw [← hw]; exact Blk.drewN (Blk.drewN H0.out _) _
  have hr : GR w r tb := by rw [← hw]; exact Blk.drewN (Blk.drewN HR0.out _) _
  rw [hw]
  clear c2 c3 c4 f2 f3 f4 m1 m2 m5 hw hlt hrl
  have c2 : w.cell? ⟨g,2,none⟩ = some (.string ⟨#[49]⟩) := h.cell 2
  have c3 : w.cell? ⟨g,3,none⟩ = some (nP xg) := h.cell 3
  have m5 : ∀ o : Obj,(w.alloc o).cell? ⟨r,5,none⟩ = some (.int .i64 4) := fun o => ((hr.alloc o).cell 5).trans (gr_head tb 4 mapF 5 (by decide))
  have c4 : ∀ o o' : Obj,((w.alloc o).alloc o').cell? ⟨g,4,none⟩ = some (.slice none 0 0) := fun o o' => ((h.alloc o).alloc o').cell 4
  have f4 : ∀ o o' : Obj,((w.alloc o).alloc o').frozen? ⟨g,4,none⟩ = false := fun o o' => ((h.alloc o).alloc o').frozen 4
  have HH := Lib.hid h
  have HR := Lib.hid hr
  have HSZ := Lib.hid hsz
  have HB0 := Lib.hid hb0
  have q5 := mk4
  clear h hr hsz hb0
  go_wp2
  obtain ⟨W1,hW1⟩ : ∃ W1,((w.alloc (.cells (nd ⟨#[]⟩ 0 ⟨#[]⟩ (.pointer none) (.slice none 0 0)) 267)).alloc (.cells #[.pointer none,.pointer none,.pointer none,.pointer none] 264)).setCell ⟨g,4,none⟩ (nT (w.heap.size + 1)) = W1 := ⟨_,rfl⟩
  have hlt := HH.out.lt
  have n1 : g ≠ w.heap.size := by omega
  have n2 : g ≠ w.heap.size + 1 := by omega
  have h1 : ND W1 g ⟨#[]⟩ 0 ⟨#[49]⟩ (nP xg) (nT (w.heap.size + 1)) := by rw [← hW1]; exact ((HH.out.alloc _).alloc _).set_ 4 _
  have hr1 : GR W1 r tb := by rw [← hW1]; exact ((HR.out.alloc _).alloc _).far hrg _
  have hk1 : ND W1 w.heap.size ⟨#[]⟩ 0 ⟨#[]⟩ (.pointer none) (.slice none 0 0) := by rw [← hW1]; exact ((Blk.new _ _ _).alloc _).far n1.symm _
  have hT1 : TT W1 (w.heap.size + 1) (.pointer none) (.pointer none) (.pointer none) (.pointer none) := by rw [← hW1]; exact (Blk.newAt _ _ _ _ (by simp)).far n2.symm _
  have hb1 : But [g] w W1 := by rw [← hW1]; exact (((But.refl [g] w).alloc _).alloc _).set _ _ (.inl (by simp))
  have HB1 := Lib.hid (HB0.out.trans hb1 (fun x hx => hx) (fun x hx _ => hx))
  rw [hW1]
  clear hW1 c2 c3 m5 c4 f4 hb1 q5
  have c2 : W1.cell? ⟨g,2,none⟩ = some (.string ⟨#[49]⟩) := h1.cell 2
  have c4 : W1.cell? ⟨g,4,none⟩ = some (nT (w.heap.size + 1)) := h1.cell 4
  have m1 : W1.cell? ⟨r,55,none⟩ = some (.int .u8 1) := (hr1.cell 55).trans (gr_map tb 4 mapF 49 (by decide))
  have t1 : W1.cell? ⟨w.heap.size + 1,1,none⟩ = some (.pointer none) := hT1.cell 1
  have ft1 := hT1.frozen 1
  have H1 := Lib.hid h1
  have HR1 := Lib.hid hr1
  have HK1 := Lib.hid hk1
  have HT1 := Lib.hid hT1
  have HLT := Lib.hid hlt
  clear h1 hr1 hk1 hT1 HH HR HB0 hlt
  go_region
  obtain ⟨W2,hW2⟩ : ∃ W2,(W1.setCell ⟨w.heap.size + 1,1,none⟩ (nP xg)).drew = W2 := ⟨_,rfl⟩
  have a1 : g ≠ w.heap.size + 1 := n2
  have a2 : r ≠ w.heap.size + 1 := Blk.ne_ HR1.out HT1.out (by decide)
  have a3 : w.heap.size ≠ w.heap.size + 1 := by omega
  have h2 : ND W2 g ⟨#[]⟩ 0 ⟨#[49]⟩ (nP xg) (nT (w.heap.size + 1)) := by rw [← hW2]; exact Blk.far H1.out a1 _
  have hr2 : GR W2 r tb := by rw [← hW2]; exact Blk.far HR1.out a2 _
  have hk2 : ND W2 w.heap.size ⟨#[]⟩ 0 ⟨#[]⟩ (.pointer none) (.slice none 0 0) := by rw [← hW2]; exact Blk.far HK1.out a3 _
  have hT2 : TT W2 (w.heap.size + 1) (.pointer none) (nP xg) (.pointer none) (.pointer none) := by rw [← hW2]; exact Blk.set_ HT1.out 1 _
  have hb2 : But [w.heap.size + 1] W1 W2 := by rw [← hW2]; exact (((But.refl [w.heap.size + 1] W1).set _ _ (.inl (by simp))).drewN 1)
  have HB2 := Lib.hid (HB1.out.trans hb2 (fun x hx => hx) (fun x hx hlt => by have := HSZ.out; simp at hx; omega))
  rw [hW2]
  clear hW2 c2 c4 m1 t1 ft1 hb2
  have c4 : W2.cell? ⟨g,4,none⟩ = some (nT (w.heap.size + 1)) := h2.cell 4
  have m2 : W2.cell? ⟨r,56,none⟩ = some (.int .u8 2) := (hr2.cell 56).trans (gr_map tb 4 mapF 50 (by decide))
  have t2 : W2.cell? ⟨w.heap.size + 1,2,none⟩ = some (.pointer none) := hT2.cell 2
  have ft2 := hT2.frozen 2
  have H2 := Lib.hid h2
  have HK2 := Lib.hid hk2
  have HT2 := Lib.hid hT2
  clear h2 hr2 hk2 hT2 H1 HR1 HK1 HT1 HB1
  go_wp2
  go_region
  obtain ⟨W3,hW3⟩ : ∃ W3,(W2.setCell ⟨w.heap.size + 1,2,none⟩ (nP w.heap.size)).drew = W3 := ⟨_,rfl⟩
  have h3 : ND W3 g ⟨#[]⟩ 0 ⟨#[49]⟩ (nP xg) (nT (w.heap.size + 1)) := by rw [← hW3]; exact Blk.far H2.out a1 _
  have hk3 : ND W3 w.heap.size ⟨#[]⟩ 0 ⟨#[]⟩ (.pointer none) (.slice none 0 0) := by rw [← hW3]; exact Blk.far HK2.out a3 _
  have hT3 : TT W3 (w.heap.size + 1) (.pointer none) (nP xg) (nP w.heap.size) (.pointer none) := by rw [← hW3]; exact Blk.set_ HT2.out 2 _
  have hb3 : But [w.heap.size + 1] W2 W3 := by rw [← hW3]; exact (((But.refl [w.heap.size + 1] W2).set _ _ (.inl (by simp))).drewN 1)
  have HB3 := Lib.hid (HB2.out.trans hb3 (fun x hx => hx) (fun x hx hlt => by have := HSZ.out; simp at hx; omega))
  rw [hW3]
  clear hW3 c4 m2 t2 ft2 hb3 H2 HK2 HT2 HB2
  have c2 : W3.cell? ⟨g,2,none⟩ = some (.string ⟨#[49]⟩) := h3.cell 2
  have c3 : W3.cell? ⟨g,3,none⟩ = some (nP xg) := h3.cell 3
  have f2 := h3.frozen 2
  have f3 := h3.frozen 3
  obtain ⟨W4,hW4⟩ : ∃ W4,W4 = (W3.setCell ⟨g,2,none⟩ (.string ⟨#[]⟩)).setCell ⟨g,3,none⟩ (.pointer none) := ⟨_,rfl⟩
  have h4 : ND W4 g ⟨#[]⟩ 0 ⟨#[]⟩ (.pointer none) (nT (w.heap.size + 1)) := by rw [hW4]; exact (h3.set_ 2 _).set_ 3 _
  have hk4 : ND W4 w.heap.size ⟨#[]⟩ 0 ⟨#[]⟩ (.pointer none) (.slice none 0 0) := by rw [hW4]; exact (hk3.far n1.symm _).far n1.symm _
  have hT4 : TT W4 (w.heap.size + 1) (.pointer none) (nP xg) (nP w.heap.size) (.pointer none) := by rw [hW4]; exact (hT3.far n2.symm _).far n2.symm _
  have hb4 : But [g] W3 W4 := by rw [hW4]; exact ((But.refl [g] W3).set _ _ (.inl (by simp))).set _ _ (.inl (by simp))
  have HB4 := Lib.hid (HB3.out.trans hb4 (fun x hx => hx) (fun x hx hlt => hx))
  have HW4 := Lib.hid hW4.symm
  have H4 := Lib.hid h4
  have HK4 := Lib.hid hk4
  have HT4 := Lib.hid hT4
  clear h4 hk4 hT4 hb4 hW4 h3 hk3 hT3 HB3
  go_wp2_with (go_at_call 230; (rw [HW4.out]); (refine (add0 _ _ v p _ _ HK4.out).mono ?_); rintro e w' ⟨rfl,z1,z2⟩)
  go_end0
  rw [HSZ.out]
  exact ⟨rfl,Blk.but H4.out z2 (by simpa using n1),Blk.but HT4.out z2 (by simp),z1,HB4.out.trans z2 (fun x hx => hx) (fun x hx hxl => by have := HSZ.out; simp at hx; omega)⟩

set_option maxHeartbeats 2000000 in
theorem root1 (r tr : Nat) (v : ByteArray) (p : Int) (w0 : World) (hr0 : GR w0 r (nT tr)) (hT0 : TT w0 tr (.pointer none) (.pointer none) (.pointer none) (.pointer none)) :
  Calls Tryz.prog 230 #[nP r,.string ⟨#[36,49]⟩,.string v,.int .i64 p,nP r] w0 fun e w' => e = .returned (.tuple #[]) ∧ TT w' tr (nP w0.heap.size) (.pointer none) (.pointer none) (.pointer none) ∧ ND w' w0.heap.size ⟨#[]⟩ 0 ⟨#[49]⟩ (nP (w0.heap.size + 1)) (.slice none 0 0) ∧ ND w' (w0.heap.size + 1) v p ⟨#[]⟩ (.pointer none) (.slice none 0 0) ∧ But [tr] w0 w' := by
 have c2 : w0.cell? ⟨r,2,none⟩ = some (.string ⟨#[]⟩) := (hr0.cell 2).trans (gr_head _ 4 mapF 2 (by decide))
 have c4 : w0.cell? ⟨r,4,none⟩ = some (nT tr) := (hr0.cell 4).trans (gr_head _ 4 mapF 4 (by decide))
 have m0 : w0.cell? ⟨r,42,none⟩ = some (.int .u8 0) := (hr0.cell 42).trans (gr_map _ 4 mapF 36 (by decide))
 have t0 : w0.cell? ⟨tr,0,none⟩ = some (.pointer none) := hT0.cell 0
 have hlt := hT0.lt
 have hrT : r ≠ tr := Blk.ne_ hr0 hT0 (by decide)
 have q1 := sl_sn ⟨tr,0,none⟩ 4 4
 have q2 := pt_nn
 have q3 : ((⟨#[36,49]⟩ : ByteArray)[0]'(by decide)).toNat = 36 := rfl
 have HR0 := Lib.hid hr0
 have HT0 := Lib.hid hT0
 clear hr0 hT0
 go_enter Tryz.func230,Tryz.ntmps230
 go_wp2
 go_quiet (fail)
 obtain ⟨w,hw⟩ : ∃ w,w0.drewN nq = w := ⟨_,rfl⟩
 have hsz : w0.heap.size = w.heap.size := by rw [← hw]; rfl
 have hb0 : But [tr] w0 w := by rw [← hw]; exact (But.refl [tr] w0).drewN nq
 have hr : GR w r (nT tr) := by rw [← hw]; exact Blk.drewN HR0.out nq
 have hT : TT w tr (.pointer none) (.pointer none) (.pointer none) (.pointer none) := by rw [← hw]; exact Blk.drewN HT0.out nq
 have HSZ := Lib.hid hsz
 have hlt' : tr < w.heap.size := by omega
 clear c2 c4 m0 t0
 have c4 : w.cell? ⟨r,4,none⟩ = some (nT tr) := (hr.cell 4).trans (gr_head _ 4 mapF 4 (by decide))
 have t0 : w.cell? ⟨tr,0,none⟩ = some (.pointer none) := hT.cell 0
 have f0 := hT.frozen 0
 obtain ⟨W,hW⟩ : ∃ W,W = (w.setCell ⟨tr,0,none⟩ (nP w.heap.size)).alloc (.cells (nd ⟨#[]⟩ 0 ⟨#[]⟩ (.pointer none) (.slice none 0 0)) 267) := ⟨_,rfl⟩
 have hN : ND W w.heap.size ⟨#[]⟩ 0 ⟨#[]⟩ (.pointer none) (.slice none 0 0) := by rw [hW]; exact Blk.newAt _ _ _ _ (by simp)
 have hTW : TT W tr (nP w.heap.size) (.pointer none) (.pointer none) (.pointer none) := by rw [hW]; exact (hT.set_ 0 _).alloc _
 have hsW : W.heap.size = w.heap.size + 1 := by rw [hW]; simp
 have hB : But [tr] w W := by rw [hW]; exact ((But.refl [tr] w).set _ _ (.inl (by simp))).alloc _
 have d4 : W.cell? ⟨r,4,none⟩ = some (nT tr) := by rw [hW]; exact (((hr.far (p := ⟨tr,0,none⟩) hrT _).alloc _).cell 4).trans (gr_head _ 4 mapF 4 (by decide))
 have e0 : W.cell? ⟨tr,0,none⟩ = some (nP w.heap.size) := hTW.cell 0
 have HW := Lib.hid hW.symm
 have HN : Hid (ND W.drew w.heap.size ⟨#[]⟩ 0 ⟨#[]⟩ (.pointer none) (.slice none 0 0)) := Lib.hid hN
 have HT := Lib.hid hTW
 have HS := Lib.hid hsW
 have HB := Lib.hid (hb0.trans hB (fun x hx => hx) (fun x hx _ => hx))
 clear hr hT hN hTW hB hW hb0 hsW
 rw [hw]
 clear hw hsz
 go_wp2
 rw [HW.out]
 go_region_with (go_at_call 230; (refine (add1 _ v p _ _ HN.out).mono ?_); rintro e w' ⟨rfl,z1,z2,z3⟩)
 all_goals
  go_end0
  have hs : W.drew.heap.size = w.heap.size + 1 := HS.out
  rw [hs] at z1 z2
  rw [HSZ.out]
  exact ⟨rfl,Blk.but (w := W.drew) HT.out z3 (by simp; omega),z1,z2,HB.out.trans ((But.refl [] W).drewN 1 |>.trans z3 (U := [w.heap.size]) (by simp) (fun x hx _ => hx)) (fun x hx => hx) (fun x hx hxl => by have := HSZ.out; simp at hx; omega)⟩
set_option maxHeartbeats 2000000 in
theorem root2 (r tr N xg : Nat) (v : ByteArray) (p : Int) (w0 : World) (hr0 : GR w0 r (nT tr)) (hT0 : TT w0 tr (nP N) (.pointer none) (.pointer none) (.pointer none)) (hN0 : ND w0 N ⟨#[]⟩ 0 ⟨#[49]⟩ (nP xg) (.slice none 0 0)) :
  Calls Tryz.prog 230 #[nP r,.string ⟨#[36,50]⟩,.string v,.int .i64 p,nP r] w0 fun e w' => e = .returned (.tuple #[]) ∧ ND w' N ⟨#[]⟩ 0 ⟨#[]⟩ (.pointer none) (nT (w0.heap.size + 1)) ∧ TT w' (w0.heap.size + 1) (.pointer none) (nP xg) (nP w0.heap.size) (.pointer none) ∧ ND w' w0.heap.size v p ⟨#[]⟩ (.pointer none) (.slice none 0 0) ∧ But [N] w0 w' := by
 have c2 : w0.cell? ⟨r,2,none⟩ = some (.string ⟨#[]⟩) := (hr0.cell 2).trans (gr_head _ 4 mapF 2 (by decide))
 have c4 : w0.cell? ⟨r,4,none⟩ = some (nT tr) := (hr0.cell 4).trans (gr_head _ 4 mapF 4 (by decide))
 have m0 : w0.cell? ⟨r,42,none⟩ = some (.int .u8 0) := (hr0.cell 42).trans (gr_map _ 4 mapF 36 (by decide))
 have t0 : w0.cell? ⟨tr,0,none⟩ = some (nP N) := hT0.cell 0
 have hrN : r ≠ N := Blk.ne_ hr0 hN0 (by decide)
 have q1 := sl_sn ⟨tr,0,none⟩ 4 4
 have q2 := pt_sn ⟨N,0,none⟩
 have q3 : ((⟨#[36,50]⟩ : ByteArray)[0]'(by decide)).toNat = 36 := rfl
 have HR0 : Hid (GR w0 r (nT tr)) := Lib.hid hr0
 have HN0 := Lib.hid hN0
 clear hr0 hT0 hN0
 go_enter Tryz.func230,Tryz.ntmps230
 go_wp2
 go_quiet (fail)
 go_wp2
 have HR1 : Hid (GR (w0.drewN nq).drew r (nT tr)) := HR0
 have HN1 : Hid (ND (w0.drewN nq).drew N ⟨#[]⟩ 0 ⟨#[49]⟩ (nP xg) (.slice none 0 0)) := HN0
 go_region_with (go_at_call 230; (refine (add2 _ _ xg (nT tr) v p _ HN1.out HR1.out hrN).mono ?_); rintro e w' ⟨rfl,z1,z2,z3,z4⟩)
 all_goals
  go_end0
  exact ⟨rfl,z1,z2,z3,⟨z4.os,z4.tape,z4.output,z4.size,z4.block⟩⟩
set_option maxHeartbeats 2000000 in
theorem root3 (r tr N T xg k : Nat) (v : ByteArray) (p : Int) (w0 : World) (hr0 : GR w0 r (nT tr)) (hT0 : TT w0 tr (nP N) (.pointer none) (.pointer none) (.pointer none)) (hN0 : ND w0 N ⟨#[]⟩ 0 ⟨#[]⟩ (.pointer none) (nT T)) (hU0 : TT w0 T (.pointer none) (nP xg) (nP k) (.pointer none)) :
  Calls Tryz.prog 230 #[nP r,.string ⟨#[36,51]⟩,.string v,.int .i64 p,nP r] w0 fun e w' => e = .returned (.tuple #[]) ∧ TT w' T (.pointer none) (nP xg) (nP k) (nP w0.heap.size) ∧ ND w' w0.heap.size v p ⟨#[]⟩ (.pointer none) (.slice none 0 0) ∧ But [T] w0 w' := by
 have c2 : w0.cell? ⟨r,2,none⟩ = some (.string ⟨#[]⟩) := (hr0.cell 2).trans (gr_head _ 4 mapF 2 (by decide))
 have c4 : w0.cell? ⟨r,4,none⟩ = some (nT tr) := (hr0.cell 4).trans (gr_head _ 4 mapF 4 (by decide))
 have m0 : w0.cell? ⟨r,42,none⟩ = some (.int .u8 0) := (hr0.cell 42).trans (gr_map _ 4 mapF 36 (by decide))
 have t0 : w0.cell? ⟨tr,0,none⟩ = some (nP N) := hT0.cell 0
 have q1 := sl_sn ⟨tr,0,none⟩ 4 4
 have q2 := pt_sn ⟨N,0,none⟩
 have q3 : ((⟨#[36,51]⟩ : ByteArray)[0]'(by decide)).toNat = 36 := rfl
 have HR0 : Hid (GR w0 r (nT tr)) := Lib.hid hr0
 have HN0 := Lib.hid hN0
 have HU0 := Lib.hid hU0
 clear hr0 hT0 hN0 hU0
 go_enter Tryz.func230,Tryz.ntmps230
 go_wp2
 go_quiet (fail)
 go_wp2
 have HR1 : Hid (GR (w0.drewN nq).drew r (nT tr)) := HR0
 have HN1 : Hid (ND (w0.drewN nq).drew N ⟨#[]⟩ 0 ⟨#[]⟩ (.pointer none) (nT T)) := HN0
 have HU1 : Hid (TT (w0.drewN nq).drew T (.pointer none) (nP xg) (nP k) (.pointer none)) := HU0
 go_region_with (go_at_call 230; (refine (add3 _ T r (nP xg) (nP k) (nT tr) v p _ HN1.out HU1.out HR1.out).mono ?_); rintro e w' ⟨rfl,z1,z2,z3⟩)
 all_goals
  go_end0
  exact ⟨rfl,z1,z2,⟨z3.os,z3.tape,z3.output,z3.size,z3.block⟩⟩

theorem g_set (tb : Value) (ts : Int) (m : Nat → Int) (i : Nat) (h : i < 256) (x : Int) : (gCells tb ts m).setIfInBounds (6 + i) (.int .u8 x) = gCells tb ts (fun j => if j = i then x else m j) := by
 apply Array.ext
 ·simp [gCells]
 ·intro k h1 h2
  rw [Array.getElem_setIfInBounds (by simpa [gCells] using h2)]
  by_cases hk : k < 6
  ·have e : ¬ (6 + i = k) := by omega
   rw [if_neg e]
   simp only [gCells]
   rw [Array.getElem_append_left (by simpa using hk),Array.getElem_append_left (by simpa using hk)]
  ·obtain ⟨j,rfl⟩ : ∃ j,k = 6 + j := ⟨k - 6,by omega⟩
   have hj : j < 256 := by simp [gCells] at h2; omega
   have a1 : (gCells tb ts (fun j => if j = i then x else m j))[6 + j]? = some (.int .u8 (if j = i then x else m j)) := gr_map tb ts _ j hj
   have a2 := gr_map tb ts m j hj
   rw [(Array.getElem?_eq_some_iff.1 a1).2]
   by_cases hji : j = i
   ·subst hji; rw [if_pos rfl,if_pos rfl]
   ·rw [if_neg (by omega),if_neg hji,(Array.getElem?_eq_some_iff.1 a2).2]
theorem g_ts (tb : Value) (ts t2 : Int) (m : Nat → Int) : (gCells tb ts m).setIfInBounds 5 (.int .i64 t2) = gCells tb t2 m := by
 unfold gCells
 rw [Array.setIfInBounds_append_left (by simp)]
 rfl
theorem g_tb (tb t2 : Value) (ts : Int) (m : Nat → Int) : (gCells tb ts m).setIfInBounds 4 t2 = gCells t2 ts m := by
 unfold gCells
 rw [Array.setIfInBounds_append_left (by simp)]
 rfl
theorem g_zero : (⟨Tryz.zeroCells269.toList⟩ : Array Value) = gCells (.slice none 0 0) 0 (fun _ => 0) := by kernel_rfl
def seen (l : List Nat) (i : Nat) : Int := if l.contains i = true then 1 else 0
theorem seen_set (l : List Nat) (i : Nat) : (fun j => if j = i then 1 else seen l j) = seen (i :: l) := by
 funext j
 unfold seen
 by_cases h : j = i
 ·subst h; simp
 ·simp [h]
def keysN : Nat → List Nat
 | 0 => []
 | k + 1 => (49 + k) :: 36 :: keysN k
def cntN (i : Nat) : Nat := ((List.range i).filter fun j => (keysN 3).contains j).length
theorem cnt_facts : ∀ i,i < 256 → cntN (i + 1) = cntN i + (seen (keysN 3) i).toNat ∧ (seen (keysN 3) i = 0 ∧ mapF i = 4 ∨ seen (keysN 3) i = 1 ∧ mapF i = (cntN i : Int)) ∧ cntN i ≤ 4 := by
 have h : ((List.range 256).all fun i => decide (cntN (i + 1) = cntN i + (seen (keysN 3) i).toNat ∧ (seen (keysN 3) i = 0 ∧ mapF i = 4 ∨ seen (keysN 3) i = 1 ∧ mapF i = (cntN i : Int)) ∧ cntN i ≤ 4)) = true := by kernel_rfl
 intro i hi
 exact of_decide_eq_true (List.all_eq_true.1 h i (List.mem_range.2 hi))
theorem cnt_all : cntN 256 = 4 := by kernel_rfl
def onV (a b c : ByteArray) : Array Value := #[.string ⟨#[36,49]⟩,.string a,.string ⟨#[36,50]⟩,.string b,.string ⟨#[36,51]⟩,.string c]
def keyB (k : Nat) : ByteArray := if k = 0 then ⟨#[36,49]⟩ else if k = 1 then ⟨#[36,50]⟩ else ⟨#[36,51]⟩
theorem key_facts (a b c : ByteArray) : ∀ k,k < 3 → (onV a b c)[2 * k]? = some (.string (keyB k)) ∧ (keyB k).size = 2 ∧ ∃ (h0 : 0 < (keyB k).size) (h1 : 1 < (keyB k).size),((keyB k)[0]'h0).toNat = 36 ∧ ((keyB k)[1]'h1).toNat = 49 + k := by
 intro k hk
 match k,hk with
 | 0,_ => exact ⟨rfl,rfl,by decide,by decide,rfl,rfl⟩
 | 1,_ => exact ⟨rfl,rfl,by decide,by decide,rfl,rfl⟩
 | 2,_ => exact ⟨rfl,rfl,by decide,by decide,rfl,rfl⟩
def G0 (w : World) (r : Nat) (tb : Value) (ts : Int) (m : Nat → Int) : Prop := Blk w r 269 (gCells tb ts m)
theorem g_start (w : World) : G0 (w.alloc (.cells Tryz.zeroCells269 269)) w.heap.size (.slice none 0 0) 0 (seen (keysN 0)) := by
 have : (seen (keysN 0)) = fun _ => 0 := by funext i; rfl
 rw [this]
 unfold G0
 rw [← g_zero]
 exact Blk.newAt _ _ _ _ rfl
end Go.Proofs.YtjmmninopagpjaaGreatDoor
