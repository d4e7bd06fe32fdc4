/- Trb Trc Trd Trf Trg Trh Tre Tri -/
import Derived.Test.YtpgddamhdfmdjaaGreatDoorG1
import Derived.Lib.Builder
import Derived.Lib.AppendStr
import Derived.WalkKit
import Derived.Shelf.Strings.Builder1
import Derived.KernelRfl
import Derived.Deep.WholeRow
import Derived.Laws.Rows
import Derived.Shelf.SlicesQ.Load
set_option linter.unusedSimpArgs false
set_option linter.unusedVariables false
set_option maxRecDepth 100000
set_option maxHeartbeats 16000000
namespace Go.Proofs.YtpgddamhdfmdjaaGreatDoor
open Go.ChangeShapes Go.WideShapes Go.ChangeAt Go.RowKit
theorem Yl:(Tryz.prog.info? 260).map (fun i=>(i.zero,i.size,i.bytes))=some (some (.pointer none),1,8):=by kernel_rfl
theorem mk4(w:World):(Instr.makeSlice 261 (.int .i64 4) (.int .i64 4)).run Tryz.prog w=.ok (.slice (some ⟨w.heap.size,0,none⟩) 4 4) (w.alloc (.cells #[.pointer none,.pointer none,.pointer none,.pointer none] 260)):=by kernel_rfl
theorem qdq(g r xg:Nat)(tb:Value)(v:ByteArray)(p:Int)(w0:World)(h0:ND w0 g ⟨#[]⟩ 0 ⟨#[49]⟩ (nP xg) (.slice none 0 0))(bJ:GR w0 r tb)(kQ:r≠g):
  Calls Tryz.prog 226 #[nP g,.string ⟨#[50]⟩,.string v,.int .i64 p,nP r] w0 fun e w'=>e=.returned (.tuple #[])∧ND w' g ⟨#[]⟩ 0 ⟨#[]⟩ (.pointer none) (nT (w0.heap.size+1))∧TT w' (w0.heap.size+1) (.pointer none) (nP xg) (nP w0.heap.size) (.pointer none)∧ND w' w0.heap.size v p ⟨#[]⟩ (.pointer none) (.slice none 0 0)∧But [g] w0 w':=by
 have c2:w0.cell? ⟨g,2,none⟩=some (.string ⟨#[49]⟩):=h0.cell 2;have c3:w0.cell? ⟨g,3,none⟩=some (nP xg):=h0.cell 3;have c4:w0.cell? ⟨g,4,none⟩=some (.slice none 0 0):=h0.cell 4;have f2:=h0.frozen 2;have f3:=h0.frozen 3;have f4:=h0.frozen 4;have m1:w0.cell? ⟨r,55,none⟩=some (.int .u8 1):=(bJ.cell 55).trans (Gy tb 4 As 49 (by decide))
 have m2:w0.cell? ⟨r,56,none⟩=some (.int .u8 2):=(bJ.cell 56).trans (Gy tb 4 As 50 (by decide))
 have m5:w0.cell? ⟨r,5,none⟩=some (.int .i64 4):=(bJ.cell 5).trans (lm tb 4 As 5 (by decide))
 have aD:=h0.lt;have fw:=bJ.lt;have q3:((⟨#[50]⟩:ByteArray)[0]'(by decide)).toNat=50:=rfl
 have q4:((⟨#[49]⟩:ByteArray)[0]'(by decide)).toNat=49:=rfl
 obtain⟨i0,hi,eK,dD,bg⟩:=info_parts Yl;obtain⟨H0,kA⟩:=hZ2 h0 bJ;clear h0 bJ;go_enter Tryz.func226,Tryz.ntmps226;go_wp2
 go_loopg [10] 1 (fun g2 iW wx=>iW=.int .i64 0∧∃n,wx=w0.drewN n)
 case atStart=>exact⟨rfl,0,rfl⟩
 case round=>
  obtain⟨rfl,n0,rfl⟩:=hrel;go_wp2
  go_quiet (fail)
  obtain⟨w,hw⟩:∃w,(w0.drewN n0).drewN nq=w:=⟨_,rfl⟩;have bH:w0.heap.size=w.heap.size:=by rw[←hw];rfl
  have bD:But [g] w0 w:=by rw[←hw];exact((But.refl [g] w0).drewN _).drewN _
  have h:ND w g ⟨#[]⟩ 0 ⟨#[49]⟩ (nP xg) (.slice none 0 0):=by rw[←hw];exact Blk.drewN (Blk.drewN H0.out _) _
  have hr:GR w r tb:=by rw[←hw];exact Blk.drewN (Blk.drewN kA.out _) _
  rw[hw];clear c2 c3 c4 f2 f3 f4 m1 m2 m5 hw aD fw;have c2:w.cell? ⟨g,2,none⟩=some (.string ⟨#[49]⟩):=h.cell 2;have c3:w.cell? ⟨g,3,none⟩=some (nP xg):=h.cell 3;have m5:∀o:Obj,(w.alloc o).cell? ⟨r,5,none⟩=some (.int .i64 4):=fun o=>((hr.alloc o).cell 5).trans (lm tb 4 As 5 (by decide))
  have c4:∀o o':Obj,((w.alloc o).alloc o').cell? ⟨g,4,none⟩=some (.slice none 0 0):=fun o o'=>((h.alloc o).alloc o').cell 4
  have f4:∀o o':Obj,((w.alloc o).alloc o').frozen? ⟨g,4,none⟩=false:=fun o o'=>((h.alloc o).alloc o').frozen 4
  obtain⟨HH,HR,eA,bG⟩:=hZ4 h hr bH bD;have q5:=mk4;clear h hr bH bD;go_wp2;obtain⟨W1,cF⟩:∃W1,((w.alloc (.cells (nd ⟨#[]⟩ 0 ⟨#[]⟩ (.pointer none) (.slice none 0 0)) 263)).alloc (.cells #[.pointer none,.pointer none,.pointer none,.pointer none] 260)).setCell ⟨g,4,none⟩ (nT (w.heap.size+1))=W1:=⟨_,rfl⟩;have aD:=HH.out.lt;have n1:g≠w.heap.size:=by omega
  have n2:g≠w.heap.size+1:=by omega
  have h1:ND W1 g ⟨#[]⟩ 0 ⟨#[49]⟩ (nP xg) (nT (w.heap.size+1)):=by rw[←cF];exact((HH.out.alloc _).alloc _).set_ 4 _
  have o8:GR W1 r tb:=by rw[←cF];exact((HR.out.alloc _).alloc _).far kQ _
  have bq:ND W1 w.heap.size ⟨#[]⟩ 0 ⟨#[]⟩ (.pointer none) (.slice none 0 0):=by rw[←cF];exact((Blk.new _ _ _).alloc _).far n1.symm _
  have xV:TT W1 (w.heap.size+1) (.pointer none) (.pointer none) (.pointer none) (.pointer none):=by rw[←cF];exact(Blk.newAt _ _ _ _ (by simp)).far n2.symm _
  have aU:But [g] w W1:=by rw[←cF];exact(((But.refl [g] w).alloc _).alloc _).set _ _ (.inl (by simp))
  have aX:=qid (bG.out.trans aU (fun x hx=>hx) (fun x hx _=>hx))
  rw[cF];clear cF c2 c3 m5 c4 f4 aU q5;have c2:W1.cell? ⟨g,2,none⟩=some (.string ⟨#[49]⟩):=h1.cell 2;have c4:W1.cell? ⟨g,4,none⟩=some (nT (w.heap.size+1)):=h1.cell 4;have m1:W1.cell? ⟨r,55,none⟩=some (.int .u8 1):=(o8.cell 55).trans (Gy tb 4 As 49 (by decide))
  have t1:W1.cell? ⟨w.heap.size+1,1,none⟩=some (.pointer none):=xV.cell 1;have Es:=xV.frozen 1;obtain⟨H1,eC,cC,nj,cj⟩:=hZ5 h1 o8 bq xV aD;clear h1 o8 bq xV HH HR bG aD
  go_region
  obtain⟨W2,dY⟩:∃W2,(W1.setCell ⟨w.heap.size+1,1,none⟩ (nP xg)).drew=W2:=⟨_,rfl⟩;have a1:g≠w.heap.size+1:=n2;have a2:r≠w.heap.size+1:=Blk.ne_ eC.out nj.out (by decide)
  have a3:w.heap.size≠w.heap.size+1:=by omega
  have h2:ND W2 g ⟨#[]⟩ 0 ⟨#[49]⟩ (nP xg) (nT (w.heap.size+1)):=by rw[←dY];exact Blk.far H1.out a1 _
  have ch:GR W2 r tb:=by rw[←dY];exact Blk.far eC.out a2 _
  have bK:ND W2 w.heap.size ⟨#[]⟩ 0 ⟨#[]⟩ (.pointer none) (.slice none 0 0):=by rw[←dY];exact Blk.far cC.out a3 _
  have lI:TT W2 (w.heap.size+1) (.pointer none) (nP xg) (.pointer none) (.pointer none):=by rw[←dY];exact Blk.set_ nj.out 1 _
  have aA:But [w.heap.size+1] W1 W2:=by rw[←dY];exact(((But.refl [w.heap.size+1] W1).set _ _ (.inl (by simp))).drewN 1)
  have aL:=qid (aX.out.trans aA (fun x hx=>hx) (fun x hx aD=>by have:=eA.out;simp at hx;omega))
  rw[dY];clear dY c2 c4 m1 t1 Es aA;have c4:W2.cell? ⟨g,4,none⟩=some (nT (w.heap.size+1)):=h2.cell 4;have m2:W2.cell? ⟨r,56,none⟩=some (.int .u8 2):=(ch.cell 56).trans (Gy tb 4 As 50 (by decide))
  have t2:W2.cell? ⟨w.heap.size+1,2,none⟩=some (.pointer none):=lI.cell 2;have Et:=lI.frozen 2;obtain⟨H2,dQ,nG⟩:=hZ3 h2 bK lI;clear h2 ch bK lI H1 eC cC nj aX;go_wp2
  go_region
  obtain⟨W3,fL⟩:∃W3,(W2.setCell ⟨w.heap.size+1,2,none⟩ (nP w.heap.size)).drew=W3:=⟨_,rfl⟩;have h3:ND W3 g ⟨#[]⟩ 0 ⟨#[49]⟩ (nP xg) (nT (w.heap.size+1)):=by rw[←fL];exact Blk.far H2.out a1 _
  have eV:ND W3 w.heap.size ⟨#[]⟩ 0 ⟨#[]⟩ (.pointer none) (.slice none 0 0):=by rw[←fL];exact Blk.far dQ.out a3 _
  have C8:TT W3 (w.heap.size+1) (.pointer none) (nP xg) (nP w.heap.size) (.pointer none):=by rw[←fL];exact Blk.set_ nG.out 2 _
  have aG:But [w.heap.size+1] W2 W3:=by rw[←fL];exact(((But.refl [w.heap.size+1] W2).set _ _ (.inl (by simp))).drewN 1)
  have aO:=qid (aL.out.trans aG (fun x hx=>hx) (fun x hx aD=>by have:=eA.out;simp at hx;omega))
  rw[fL];clear fL c4 m2 t2 Et aG H2 dQ nG aL;have c2:W3.cell? ⟨g,2,none⟩=some (.string ⟨#[49]⟩):=h3.cell 2;have c3:W3.cell? ⟨g,3,none⟩=some (nP xg):=h3.cell 3;have f2:=h3.frozen 2;have f3:=h3.frozen 3;obtain⟨W4,jZ⟩:∃W4,W4=(W3.setCell ⟨g,2,none⟩ (.string ⟨#[]⟩)).setCell ⟨g,3,none⟩ (.pointer none):=⟨_,rfl⟩;have h4:ND W4 g ⟨#[]⟩ 0 ⟨#[]⟩ (.pointer none) (nT (w.heap.size+1)):=by rw[jZ];exact(h3.set_ 2 _).set_ 3 _
  have sM:ND W4 w.heap.size ⟨#[]⟩ 0 ⟨#[]⟩ (.pointer none) (.slice none 0 0):=by rw[jZ];exact(eV.far n1.symm _).far n1.symm _
  have C9:TT W4 (w.heap.size+1) (.pointer none) (nP xg) (nP w.heap.size) (.pointer none):=by rw[jZ];exact(C8.far n2.symm _).far n2.symm _
  have ai:But [g] W3 W4:=by rw[jZ];exact((But.refl [g] W3).set _ _ (.inl (by simp))).set _ _ (.inl (by simp))
  have cH:=qid (aO.out.trans ai (fun x hx=>hx) (fun x hx aD=>hx))
  obtain⟨Eu,H4,Ev,Ew⟩:=hZ4 jZ.symm h4 sM C9;clear h4 sM C9 ai jZ h3 eV C8 aO;go_wp2_with (go_at_call 226;(rw[Eu.out]);(refine(qbq _ _ v p _ _ Ev.out).mono ?_);rintro e w' ⟨rfl,z1,z2⟩)
  go_end0
  rw[eA.out];exact⟨rfl,Blk.but H4.out z2 (by simpa using n1),Blk.but Ew.out z2 (by simp),z1,cH.out.trans z2 (fun x hx=>hx) (fun x hx eE=>by have:=eA.out;simp at hx;omega)⟩
theorem qcM(r tr:Nat)(v:ByteArray)(p:Int)(w0:World)(bJ:GR w0 r (nT tr))(ic:TT w0 tr (.pointer none) (.pointer none) (.pointer none) (.pointer none)):
  Calls Tryz.prog 226 #[nP r,.string ⟨#[36,49]⟩,.string v,.int .i64 p,nP r] w0 fun e w'=>e=.returned (.tuple #[])∧TT w' tr (nP w0.heap.size) (.pointer none) (.pointer none) (.pointer none)∧ND w' w0.heap.size ⟨#[]⟩ 0 ⟨#[49]⟩ (nP (w0.heap.size+1)) (.slice none 0 0)∧ND w' (w0.heap.size+1) v p ⟨#[]⟩ (.pointer none) (.slice none 0 0)∧But [tr] w0 w':=by
 have c2:w0.cell? ⟨r,2,none⟩=some (.string ⟨#[]⟩):=(bJ.cell 2).trans (lm _ 4 As 2 (by decide))
 have c4:w0.cell? ⟨r,4,none⟩=some (nT tr):=(bJ.cell 4).trans (lm _ 4 As 4 (by decide))
 have m0:w0.cell? ⟨r,42,none⟩=some (.int .u8 0):=(bJ.cell 42).trans (Gy _ 4 As 36 (by decide))
 have t0:w0.cell? ⟨tr,0,none⟩=some (.pointer none):=ic.cell 0;have aD:=ic.lt;have Ex:r≠tr:=Blk.ne_ bJ ic (by decide)
 have q1:=NG ⟨tr,0,none⟩ 4 4;have q2:=Wg;have q3:((⟨#[36,49]⟩:ByteArray)[0]'(by decide)).toNat=36:=rfl
 obtain⟨kA,xa⟩:=hZ2 bJ ic;clear bJ ic;go_enter Tryz.func226,Tryz.ntmps226;go_wp2
 go_quiet (fail)
 obtain⟨w,hw⟩:∃w,w0.drewN nq=w:=⟨_,rfl⟩;have bH:w0.heap.size=w.heap.size:=by rw[←hw];rfl
 have bD:But [tr] w0 w:=by rw[←hw];exact(But.refl [tr] w0).drewN nq
 have hr:GR w r (nT tr):=by rw[←hw];exact Blk.drewN kA.out nq
 have hT:TT w tr (.pointer none) (.pointer none) (.pointer none) (.pointer none):=by rw[←hw];exact Blk.drewN xa.out nq
 have eA:=qid bH;have xb:tr<w.heap.size:=by omega
 clear c2 c4 m0 t0;have c4:w.cell? ⟨r,4,none⟩=some (nT tr):=(hr.cell 4).trans (lm _ 4 As 4 (by decide))
 have t0:w.cell? ⟨tr,0,none⟩=some (.pointer none):=hT.cell 0;have f0:=hT.frozen 0;obtain⟨W,hW⟩:∃W,W=(w.setCell ⟨tr,0,none⟩ (nP w.heap.size)).alloc (.cells (nd ⟨#[]⟩ 0 ⟨#[]⟩ (.pointer none) (.slice none 0 0)) 263):=⟨_,rfl⟩;have hN:ND W w.heap.size ⟨#[]⟩ 0 ⟨#[]⟩ (.pointer none) (.slice none 0 0):=by rw[hW];exact Blk.newAt _ _ _ _ (by simp)
 have pX:TT W tr (nP w.heap.size) (.pointer none) (.pointer none) (.pointer none):=by rw[hW];exact(hT.set_ 0 _).alloc _
 have CA:W.heap.size=w.heap.size+1:=by rw[hW];simp
 have hB:But [tr] w W:=by rw[hW];exact((But.refl [tr] w).set _ _ (.inl (by simp))).alloc _
 have d4:W.cell? ⟨r,4,none⟩=some (nT tr):=by rw[hW];exact(((hr.far (p:=⟨tr,0,none⟩) Ex _).alloc _).cell 4).trans (lm _ 4 As 4 (by decide))
 have e0:W.cell? ⟨tr,0,none⟩=some (nP w.heap.size):=pX.cell 0;have HW:=qid hW.symm;have HN:Hid (ND W.drew w.heap.size ⟨#[]⟩ 0 ⟨#[]⟩ (.pointer none) (.slice none 0 0)):=qid hN;obtain⟨HT,HS⟩:=hZ2 pX CA;have HB:=qid (bD.trans hB (fun x hx=>hx) (fun x hx _=>hx))
 clear hr hT hN pX hB hW bD CA;rw[hw];clear hw bH;go_wp2;rw[HW.out]
 go_region_with (go_at_call 226;(refine(qcY _ v p _ _ HN.out).mono ?_);rintro e w' ⟨rfl,z1,z2,z3⟩)
 all_goals
  go_end0
  have hs:W.drew.heap.size=w.heap.size+1:=HS.out;rw[hs]at z1 z2;rw[eA.out];exact⟨rfl,Blk.but (w:=W.drew) HT.out z3 (by simp;omega),z1,z2,HB.out.trans ((But.refl [] W).drewN 1 |>.trans z3 (U:=[w.heap.size]) (by simp) (fun x hx _=>hx)) (fun x hx=>hx) (fun x hx eE=>by have:=eA.out;simp at hx;omega)⟩
theorem qcN(r tr N xg:Nat)(v:ByteArray)(p:Int)(w0:World)(bJ:GR w0 r (nT tr))(ic:TT w0 tr (nP N) (.pointer none) (.pointer none) (.pointer none))(tA:ND w0 N ⟨#[]⟩ 0 ⟨#[49]⟩ (nP xg) (.slice none 0 0)):
  Calls Tryz.prog 226 #[nP r,.string ⟨#[36,50]⟩,.string v,.int .i64 p,nP r] w0 fun e w'=>e=.returned (.tuple #[])∧ND w' N ⟨#[]⟩ 0 ⟨#[]⟩ (.pointer none) (nT (w0.heap.size+1))∧TT w' (w0.heap.size+1) (.pointer none) (nP xg) (nP w0.heap.size) (.pointer none)∧ND w' w0.heap.size v p ⟨#[]⟩ (.pointer none) (.slice none 0 0)∧But [N] w0 w':=by
 have c2:w0.cell? ⟨r,2,none⟩=some (.string ⟨#[]⟩):=(bJ.cell 2).trans (lm _ 4 As 2 (by decide))
 have c4:w0.cell? ⟨r,4,none⟩=some (nT tr):=(bJ.cell 4).trans (lm _ 4 As 4 (by decide))
 have m0:w0.cell? ⟨r,42,none⟩=some (.int .u8 0):=(bJ.cell 42).trans (Gy _ 4 As 36 (by decide))
 have t0:w0.cell? ⟨tr,0,none⟩=some (nP N):=ic.cell 0;have Ey:r≠N:=Blk.ne_ bJ tA (by decide)
 have q1:=NG ⟨tr,0,none⟩ 4 4;have q2:=Wh ⟨N,0,none⟩;have q3:((⟨#[36,50]⟩:ByteArray)[0]'(by decide)).toNat=36:=rfl
 have kA:Hid (GR w0 r (nT tr)):=qid bJ;have kV:=qid tA;clear bJ ic tA;go_enter Tryz.func226,Tryz.ntmps226;go_wp2
 go_quiet (fail)
 go_wp2;have eC:Hid (GR (w0.drewN nq).drew r (nT tr)):=kA;have cu:Hid (ND (w0.drewN nq).drew N ⟨#[]⟩ 0 ⟨#[49]⟩ (nP xg) (.slice none 0 0)):=kV
 go_region_with (go_at_call 226;(refine(qdq _ _ xg (nT tr) v p _ cu.out eC.out Ey).mono ?_);rintro e w' ⟨rfl,z1,z2,z3,z4⟩)
 all_goals
  go_end0
  exact⟨rfl,z1,z2,z3,⟨z4.os,z4.tape,z4.output,z4.size,z4.block⟩⟩
theorem qcO(r tr N T xg k:Nat)(v:ByteArray)(p:Int)(w0:World)(bJ:GR w0 r (nT tr))(ic:TT w0 tr (nP N) (.pointer none) (.pointer none) (.pointer none))(tA:ND w0 N ⟨#[]⟩ 0 ⟨#[]⟩ (.pointer none) (nT T))(CB:TT w0 T (.pointer none) (nP xg) (nP k) (.pointer none)):
  Calls Tryz.prog 226 #[nP r,.string ⟨#[36,51]⟩,.string v,.int .i64 p,nP r] w0 fun e w'=>e=.returned (.tuple #[])∧TT w' T (.pointer none) (nP xg) (nP k) (nP w0.heap.size)∧ND w' w0.heap.size v p ⟨#[]⟩ (.pointer none) (.slice none 0 0)∧But [T] w0 w':=by
 have c2:w0.cell? ⟨r,2,none⟩=some (.string ⟨#[]⟩):=(bJ.cell 2).trans (lm _ 4 As 2 (by decide))
 have c4:w0.cell? ⟨r,4,none⟩=some (nT tr):=(bJ.cell 4).trans (lm _ 4 As 4 (by decide))
 have m0:w0.cell? ⟨r,42,none⟩=some (.int .u8 0):=(bJ.cell 42).trans (Gy _ 4 As 36 (by decide))
 have t0:w0.cell? ⟨tr,0,none⟩=some (nP N):=ic.cell 0;have q1:=NG ⟨tr,0,none⟩ 4 4;have q2:=Wh ⟨N,0,none⟩;have q3:((⟨#[36,51]⟩:ByteArray)[0]'(by decide)).toNat=36:=rfl
 have kA:Hid (GR w0 r (nT tr)):=qid bJ;obtain⟨kV,Ez⟩:=hZ2 tA CB;clear bJ ic tA CB;go_enter Tryz.func226,Tryz.ntmps226;go_wp2
 go_quiet (fail)
 go_wp2;have eC:Hid (GR (w0.drewN nq).drew r (nT tr)):=kA;have cu:Hid (ND (w0.drewN nq).drew N ⟨#[]⟩ 0 ⟨#[]⟩ (.pointer none) (nT T)):=kV;have F0:Hid (TT (w0.drewN nq).drew T (.pointer none) (nP xg) (nP k) (.pointer none)):=Ez
 go_region_with (go_at_call 226;(refine(qcZ _ T r (nP xg) (nP k) (nT tr) v p _ cu.out F0.out eC.out).mono ?_);rintro e w' ⟨rfl,z1,z2,z3⟩)
 all_goals
  go_end0
  exact⟨rfl,z1,z2,⟨z3.os,z3.tape,z3.output,z3.size,z3.block⟩⟩
theorem TV(tb:Value)(ts:Int)(m:Nat→Int)(i:Nat)(h:i<256)(x:Int):(n9 tb ts m).setIfInBounds (6+i) (.int .u8 x)=n9 tb ts (fun j=>if j=i then x else m j):=by
 apply Array.ext
 ·simp[n9]
 ·intro k h1 h2
  rw[Array.getElem_setIfInBounds (by simpa[n9]using h2)]
  by_cases hk:k<6
  ·have e:¬(6+i=k):=by omega
   rw[if_neg e];simp only[n9];rw[Array.getElem_append_left (by simpa using hk),Array.getElem_append_left (by simpa using hk)]
  ·obtain⟨j,rfl⟩:∃j,k=6+j:=⟨k-6,by omega⟩
   have hj:j<256:=by simp[n9]at h2;omega
   have a1:(n9 tb ts (fun j=>if j=i then x else m j))[6+j]? =some (.int .u8 (if j=i then x else m j)):=Gy tb ts _ j hj
   have a2:=Gy tb ts m j hj;rw[(Array.getElem?_eq_some_iff.1 a1).2]
   by_cases CC:j=i
   ·subst CC;rw[if_pos rfl,if_pos rfl]
   ·rw[if_neg (by omega),if_neg CC,(Array.getElem?_eq_some_iff.1 a2).2]
theorem qdr(tb:Value)(ts t2:Int)(m:Nat→Int):(n9 tb ts m).setIfInBounds 5 (.int .i64 t2)=n9 tb t2 m:=by
 unfold n9;rw[Array.setIfInBounds_append_left (by simp)]
 rfl
theorem qds(tb t2:Value)(ts:Int)(m:Nat→Int):(n9 tb ts m).setIfInBounds 4 t2=n9 t2 ts m:=by
 unfold n9;rw[Array.setIfInBounds_append_left (by simp)]
 rfl
theorem qb0:(⟨Tryz.zeroCells265.toList⟩:Array Value)=n9 (.slice none 0 0) 0 (fun _=>0):=by kernel_rfl
def seen(l:List Nat)(i:Nat):Int:=if l.contains i=true then 1 else 0
theorem QD(l:List Nat)(i:Nat):(fun j=>if j=i then 1 else seen l j)=seen (i::l):=by
 funext j
 unfold seen
 by_cases h:j=i
 ·subst h;simp
 ·simp[h]
def Gv:Nat→List Nat
 |0=>[]
 |k+1=>(49+k)::36::Gv k
def J2(i:Nat):Nat:=((List.range i).filter fun j=>(Gv 3).contains j).length
theorem Oe:∀i,i<256→J2 (i+1)=J2 i+(seen (Gv 3) i).toNat∧(seen (Gv 3) i=0∧As i=4∨seen (Gv 3) i=1∧As i=(J2 i:Int))∧J2 i≤4:=by
 have h:((List.range 256).all fun i=>decide (J2 (i+1)=J2 i+(seen (Gv 3) i).toNat∧(seen (Gv 3) i=0∧As i=4∨seen (Gv 3) i=1∧As i=(J2 i:Int))∧J2 i≤4))=true:=by kernel_rfl
 intro i hi;exact of_decide_eq_true (List.all_eq_true.1 h i (List.mem_range.2 hi))
theorem qau:J2 256=4:=by kernel_rfl
def onV(a b c:ByteArray):Array Value:=#[.string ⟨#[36,49]⟩,.string a,.string ⟨#[36,50]⟩,.string b,.string ⟨#[36,51]⟩,.string c]
def QE(k:Nat):ByteArray:=if k=0 then⟨#[36,49]⟩else if k=1 then⟨#[36,50]⟩else⟨#[36,51]⟩
theorem VJ(a b c:ByteArray):∀k,k<3→(onV a b c)[2*k]? =some (.string (QE k))∧(QE k).size=2∧∃(h0:0<(QE k).size) (h1:1<(QE k).size),((QE k)[0]'h0).toNat=36∧((QE k)[1]'h1).toNat=49+k:=by
 intro k hk
 match k,hk with
 |0,_=>exact⟨rfl,rfl,by decide,by decide,rfl,rfl⟩
 |1,_=>exact⟨rfl,rfl,by decide,by decide,rfl,rfl⟩
 |2,_=>exact⟨rfl,rfl,by decide,by decide,rfl,rfl⟩
def G0(w:World)(r:Nat)(tb:Value)(ts:Int)(m:Nat→Int):Prop:=Blk w r 265 (n9 tb ts m)
theorem qav(w:World):G0 (w.alloc (.cells Tryz.zeroCells265 265)) w.heap.size (.slice none 0 0) 0 (seen (Gv 0)):=by
 have:(seen (Gv 0))=fun _=>0:=by funext i;rfl
 rw[this];unfold G0;rw[←qb0];exact Blk.newAt _ _ _ _ rfl
theorem VK(r tr:Nat)(t:Bool)(w:World)(hr:GR w r (nT tr)):
  Calls Tryz.prog 307 #[nP r,.string ⟨#[]⟩,.bool t] w fun e w'=>e=.returned (.tuple #[.string ⟨#[]⟩,.int .i64 0,.bool false])∧∃n,w'=w.drewN n:=by
 have c1:w.cell? ⟨r,1,none⟩=some (.int .i64 0):=(hr.cell 1).trans (lm _ 4 As 1 (by decide))
 have q1:=SS ⟨r,0,none⟩;clear hr;go_enter Tryz.func307,Tryz.ntmps307;go_wp2
 go_loopg [1,6,7,8,9,10,11] 1 (fun gk u1 u6 u7 u8 u9 iW nS wx=>u1=.string ⟨#[]⟩∧u6=.string ⟨#[]⟩∧u7=.int .i64 0∧u8=.bool false∧u9=.int .i64 0∧iW=nP r∧∃n,wx=w.drewN n)
 case atStart=>exact⟨rfl,rfl,rfl,rfl,rfl,rfl,0,rfl⟩
 case round=>
  obtain⟨rfl,rfl,rfl,rfl,rfl,rfl,n,rfl⟩:=hrel;go_wp2
  go_ret3
  exact⟨rfl,n,rfl⟩
theorem JH(s:ByteArray):(s.toList.isEmpty=true∧s=⟨#[]⟩)∨(s.toList.isEmpty=false∧0<s.size):=by
 rw[Lib.toList_data]
 cases h:s.data.toList with
 |nil=>exact .inl ⟨rfl,by apply ByteArray.ext;exact Array.ext' h⟩
 |cons c r=>exact .inr ⟨rfl,by
   have e:s.size=s.data.toList.length:=rfl;rw[e,h];simp⟩
theorem LI(r tr N T leaf d:Nat)(x k l:Value)(v:ByteArray)(p:Nat)(s:ByteArray)(w:World)(hr:GR w r (nT tr))(hT:TT w tr (nP N) (.pointer none) (.pointer none) (.pointer none))(hN:ND w N ⟨#[]⟩ 0 ⟨#[]⟩ (.pointer none) (nT T))(hL:w.cell? ⟨T,d,none⟩=some (nP leaf))(hv:ND w leaf v (p:Int) ⟨#[]⟩ (.pointer none) (.slice none 0 0))(hp:0<p)(hd:d<4)(h0:0<s.size)(h1:1<s.size)(e0:(s[0]'h0).toNat=36)(e1:As (s[1]'h1).toNat=(d:Int)):
  Calls Tryz.prog 307 #[nP r,.string s,.bool false] w fun e w'=>e=.returned (.tuple #[.string v,.int .i64 2,.bool true])∧∃n,w'=w.drewN n:=by
 have r1:w.cell? ⟨r,1,none⟩=some (.int .i64 0):=(hr.cell 1).trans (lm _ 4 As 1 (by decide))
 have r4:w.cell? ⟨r,4,none⟩=some (nT tr):=(hr.cell 4).trans (lm _ 4 As 4 (by decide))
 have r5:w.cell? ⟨r,5,none⟩=some (.int .i64 4):=(hr.cell 5).trans (lm _ 4 As 5 (by decide))
 have m0:w.cell? ⟨r,42,none⟩=some (.int .u8 0):=(hr.cell 42).trans (Gy _ 4 As 36 (by decide))
 have t0:w.cell? ⟨tr,0,none⟩=some (nP N):=hT.cell 0;have n1:w.cell? ⟨N,1,none⟩=some (.int .i64 0):=hN.cell 1;have n4:w.cell? ⟨N,4,none⟩=some (nT T):=hN.cell 4;have l0:w.cell? ⟨leaf,0,none⟩=some (.string v):=hv.cell 0;have l1:w.cell? ⟨leaf,1,none⟩=some (.int .i64 (p:Int)):=hv.cell 1;have l2:w.cell? ⟨leaf,2,none⟩=some (.string ⟨#[]⟩):=hv.cell 2;have l4:w.cell? ⟨leaf,4,none⟩=some (.slice none 0 0):=hv.cell 4;obtain⟨s1,az⟩:∃s1,s.extract 1 s.size=s1:=⟨_,rfl⟩;have dD:0<s1.size:=by rw[←az,ByteArray.size_extract];omega
 obtain⟨b,hb⟩:∃b,(s[1]'h1).toNat=b:=⟨_,rfl⟩;have aU:(s1[0]'dD).toNat=b:=by
  rw[←hb];congr 1;subst az;exact ByteArray.getElem_extract dD
 have cr:b<256:=by rw[←hb];exact(s[1]'h1).toNat_lt
 rw[hb]at e1;have m1:w.cell? ⟨r,6+b,none⟩=some (.int .u8 (d:Int)):=by rw[←e1];exact(hr.cell (6+b)).trans (Gy _ 4 As b cr)
 obtain⟨s2,bC⟩:∃s2,s1.extract 1 s1.size=s2:=⟨_,rfl⟩;have GV:s.toList.isEmpty=false:=by rcases JH s with⟨_,h⟩|⟨h,_⟩;exact absurd h0 (by rw[h];decide);exact h
 have GW:s1.toList.isEmpty=false:=by rcases JH s1 with⟨_,h⟩|⟨h,_⟩;exact absurd dD (by rw[h];decide);exact h
 have GX:(0:Int)<(p:Int):=by omega
 have GY:(d:Int)<4:=by omega
 have ma:(0:Int)≤(d:Int):=by omega
 have F4:(b:Int)<256:=by omega
 have uZ:decide ((d:Int)=4)=false:=by rw[decide_eq_false_iff_not];omega
 have F5:((d:Int)==4)=false:=by rw[beq_eq_false_iff_ne];omega
 have wd:IntKind.i64.wrap (d:Int)=(d:Int):=IntWalk.i64_in _ (by omega)
 have q1:=SS ⟨r,0,none⟩;have q2:=SS ⟨N,0,none⟩;have q3:=SS ⟨leaf,0,none⟩;have q4:=NG ⟨tr,0,none⟩ 4 4;have q5:=NG ⟨T,0,none⟩ 4 4;have q6:=qa0;have s6:(1:Int)≤(s.size:Int):=by omega
 have F6:(1:Int)≤(s1.size:Int):=by omega
 clear hr hT hN hv e1 hb hp hd cr;go_enter Tryz.func307,Tryz.ntmps307;go_wp2
 go_loopg [1,6,7,8,9,10,11] 3 (fun gk u1 u6 u7 u8 u9 iW nS wx=>u6=.string ⟨#[]⟩∧u7=.int .i64 0∧u8=.bool false∧u9=.int .i64 0∧(∃n,wx=w.drewN n)∧
  ((gk=3∧u1=.string s∧iW=nP r∧nS=.int .i64 0)∨(gk=2∧u1=.string s1∧iW=nP N∧nS=.int .i64 1)∨(gk=1∧u1=.string s2∧iW=nP leaf∧nS=.int .i64 2)))
 case atStart=>exact⟨rfl,rfl,rfl,rfl,⟨0,rfl⟩,.inl ⟨rfl,rfl,rfl,rfl⟩⟩
 case round=>
  obtain⟨rfl,rfl,rfl,rfl,⟨n,rfl⟩,⟨rfl,rfl,rfl,rfl⟩|⟨rfl,rfl,rfl,rfl⟩|⟨rfl,rfl,rfl,rfl⟩⟩:=hrel
  ·clear bC aU
   go_wp2
   go_quiet (fail)
   go_wp2;go_roundg 2
   case measure=>exact Nat.lt_succ_self _
   case rel=>exact⟨rfl,rfl,rfl,rfl,⟨_,rfl⟩,.inr (.inl ⟨rfl,rfl,rfl,rfl⟩)⟩
  ·clear az e0
   go_wp2
   go_quiet (fail)
   go_wp2;go_roundg 1
   case measure=>exact Nat.lt_succ_self _
   case rel=>exact⟨rfl,rfl,rfl,rfl,⟨_,rfl⟩,.inr (.inr ⟨rfl,rfl,rfl,rfl⟩)⟩
  ·clear az bC e0 aU
   rcases JH s2 with⟨h2,rfl⟩|⟨h2,h3⟩
   ·go_wp2
    go_ret3
    exact⟨rfl,_,rfl⟩
   ·clear h3
    go_wp2
    go_ret3
    exact⟨rfl,_,rfl⟩
structure AW(B b:Nat)(l:Tx)(w:World):Prop where
 base:B≤b
 ex:∃v,Blk w b 335 #[v]∧w.ownsRow B 5 1 v l.length (Lib.byteCells l)∧v.ownBlock≠some b
theorem TW:(Tryz.prog.info? 5).map (fun i=>(i.zero,i.size,i.bytes))=some (some (.int .u8 0),1,1):=by kernel_rfl
theorem Ym{w:World}{B n z:Nat}{e:TypeId}{v:Value}{xs:List Value}(h:w.ownsRow B e z v n xs)(p:Addr)(u:Value)(hp:v.ownBlock≠some p.block):(w.setCell p u).ownsRow B e z v n xs:=by
 refine⟨h.1,?_⟩;rcases h.2 with h4|⟨g,cap,cur,rfl,h6,h7,h8⟩
 ·exact .inl h4
 ·refine .inr ⟨g,cap,cur,rfl,h6,?_,h8⟩
  rw[Below.heap_setCell w p u g (fun e=>hp (by subst e;rfl))]
  exact h7
theorem AW.below{B b:Nat}{l:Tx}{w w':World}(h:AW B b l w)(hb:Below w.heap.size w w'):AW B b l w':=by
 obtain⟨hB,v,h1,h2,h3⟩:=h;refine⟨hB,v,Blk.below h1 hb h1.lt,?_,h3⟩;refine⟨h2.1,?_⟩;rcases h2.2 with h4|⟨g,cap,cur,h5,h6,h7,h8⟩
 ·exact .inl h4
 ·refine .inr ⟨g,cap,cur,h5,h6,?_,h8⟩
  rw[hb.block g (Array.getElem?_eq_some_iff.1 h7).1];exact h7
theorem KJ(B b:Nat)(l:Tx)(s:ByteArray)(w:World)(h:AW B b l w)(hlen:l.length+s.size≤140737488355328)(lW:B≤w.heap.size):
  Calls Tryz.prog 323 #[.pointer (some ⟨b,0,none⟩),.string s] w fun e w'=>e=.returned (.tuple #[.int .i64 s.size,.nilIface])∧(AW B b (l++s.data.toList) w'∧Below B w w'):=by
 obtain⟨i0,hi,eK,dD,bg⟩:=info_parts TW;have nO:=qid hlen;clear hlen;obtain⟨hB,v,mx,aE,b7⟩:=h;have c1:w.cell? ⟨b,0,none⟩=some v:=mx.cell 0;have aD:b<w.heap.size:=mx.lt;go_enter Tryz.func323,Tryz.ntmps323;go_wp2_with (at_builtin;refine Lib.wpList_append_own_string _ rfl _ _ 335 9 rfl B 5 i0 Tryz.underlying335 Tryz.underlying9 hi eK dD bg _ _ _ rfl aE s rfl ?c3 ?c4 ?c5 ?_)
 case c3=>have:=nO.out;unfold maxLen;omega
 case c4=>have:=nO.out;have cr:=Lib.byteCells_length l;omega
 case c5=>omega
 intro v' w2 gx aj _;have aA:Blk w2 b 335 #[v]:=Blk.grown mx aj (fun e=>b7 e.symm)
 have d1:w2.cell? ⟨b,0,none⟩=some v:=aA.cell 0;have f1:=aA.frozen 0;obtain⟨ao,n',cap,rfl⟩:∃ao n' cap,v'=.slice ao n' cap:=by
  rcases gx.2 with⟨hv,_⟩|⟨g,cap,cur,hv,_⟩
  ·exact⟨_,_,_,hv⟩
  ·exact⟨_,_,_,hv⟩
 have oI:(Value.slice ao n' cap).ownBlock≠some b:=by
  intro e;rcases gx.2 with⟨hv,_⟩|⟨g,kh,cur,hv,hg,gn,_⟩
  ·rw[hv]at e;simp[Value.ownBlock]at e
  ·rw[hv]at e;simp[Value.ownBlock]at e
   subst e;have hx:w2.heap[g]? =some (.cells #[v] 335 (0,0)):=aA;rw[hx]at gn;injection gn with gn;injection gn with _ ez;exact absurd ez (by decide)
 go_wp2
 go_ret2
 have e2:Lib.byteCells (l++s.data.toList)=Lib.byteCells l++Lib.strCells s:=by simp[Lib.byteCells,Lib.strCells]
 refine⟨rfl,⟨hB,_,Blk.set_ aA 0 _,?_,oI⟩,?_⟩
 ·have:=Ym gx ⟨b,0,none⟩ (.slice ao n' cap) oI
  rw[e2];simpa[Lib.strCells_length]using this
 ·exact((Below.refl B w).grown aj lW (fun k hk=>(aE.lt k hk).1)).setCell (p:=⟨b,0,none⟩) hB _
abbrev aI(b:Nat):Value:=.iface 336 (.pointer (some ⟨b,0,none⟩))
theorem qb1(b:Nat)(w:World):(Instr.typeAssert (aI b) 338 340 true).run Tryz.prog w=.ok (.tuple #[aI b,.bool true]) w:=by kernel_rfl
theorem qaw(b:Nat)(w:World):
  Calls Tryz.prog 306 #[aI b] w fun e w'=>e=.returned (aI b)∧w'=w:=by
 have q1:=qb1 b w;go_enter Tryz.func306,Tryz.ntmps306;go_wp2;go_ret;exact⟨rfl,rfl⟩
theorem qb2(b m : Nat)(w : World): (nilAhead (m + 1) 336 (.pointer (some ⟨b, 0, none⟩)) "WriteString").run Tryz.prog w = .ok (some false) w := by kernel_rfl
theorem qb3(b : Nat)(n : Nat)(h : 0 < n)(w : World): (nilAhead n 336 (.pointer (some ⟨b, 0, none⟩)) "WriteString").run Tryz.prog w = .ok (some false) w := by
 obtain⟨m,rfl⟩:∃m,n=m+1:=⟨n-1,by omega⟩
 exact qb2 b m w
theorem qb4(b m : Nat)(w : World): (method (m + 1) 336 (.pointer (some ⟨b, 0, none⟩)) "WriteString").run Tryz.prog w = .ok (323, .pointer (some ⟨b, 0, none⟩)) w := by kernel_rfl
theorem qb5(b : Nat)(n : Nat)(h : 0 < n)(w : World): (method n 336 (.pointer (some ⟨b, 0, none⟩)) "WriteString").run Tryz.prog w = .ok (323, .pointer (some ⟨b, 0, none⟩)) w := by
 obtain⟨m,rfl⟩:∃m,n=m+1:=⟨n-1,by omega⟩
 exact qb4 b m w
def AT(a b d:Tx):Tx→Tx
 |36::49::r=>a++AT a b d r
 |36::50::r=>b++AT a b d r
 |36::51::r=>d++AT a b d r
 |x::r=>x::AT a b d r
 | []=>[]
def wfT:Tx→Bool
 |36::49::r=>wfT r
 |36::50::r=>wfT r
 |36::51::r=>wfT r
 |36::_=>false
 |_::r=>wfT r
 | []=>true
theorem qb6(a b d:Tx)(x:UInt8)(r:Tx)(h:x≠36):AT a b d (x::r)=x::AT a b d r∧wfT (x::r)=wfT r:=by
 constructor
 ·rw[AT.eq_4]
  ·intro r2 h2;exact absurd h2 h
  ·intro r2 h2;exact absurd h2 h
  ·intro r2 h2;exact absurd h2 h
 ·rw[wfT.eq_5]
  all_goals first|(intro r2 h2;exact absurd h2 h)|(intro h2;exact absurd h2 h)
theorem qax(r:Tx)(h:wfT (36::r)=true):∃(k:Nat) (t:Tx),k<3∧r=UInt8.ofNat (49+k)::t∧wfT t=true:=by
 match r,h with
 | [],h=>cases h
 |x::t,h=>
  by_cases h1:x=49
  ·subst h1;exact⟨0,t,by decide,rfl,h⟩
  ·by_cases h2:x=50
   ·subst h2;exact⟨1,t,by decide,rfl,h⟩
   ·by_cases h3:x=51
    ·subst h3;exact⟨2,t,by decide,rfl,h⟩
    ·exfalso
     rw[wfT.eq_4]at h
     ·cases h
     ·intro r2 h4;injection h4 with h4 _;exact h1 h4
     ·intro r2 h4;injection h4 with h4 _;exact h2 h4
     ·intro r2 h4;injection h4 with h4 _;exact h3 h4
def QF(a b d:Tx)(k:Nat):Tx:=if k=0 then a else if k=1 then b else d
theorem Yn(a b d:Tx)(k:Nat)(hk:k<3)(t:Tx):AT a b d (36::UInt8.ofNat (49+k)::t)=QF a b d k++AT a b d t:=by
 match k,hk with
 |0,_=>rfl
 |1,_=>rfl
 |2,_=>rfl
def QG(m:Nat→Int):List Value:=(List.range 256).map fun i=>.int .u8 (m i)
theorem O8(m:Nat→Int):(QG m).length=256:=by simp[QG]
theorem So(m:Nat→Int)(i:Nat)(h:i<256):(QG m)[i]? =some (.int .u8 (m i)):=by simp[QG,h]
theorem QH(w:World)(r:Nat)(tb:Value)(ts:Int)(m:Nat→Int)(h:G0 w r tb ts m):Sem.run Tryz.prog (loadCells ⟨r,6,none⟩ 256) w=.ok (QG m).toArray w:=by
 rw[←O8 m];exact run_loadCells_list (P:=Tryz.prog) w ⟨r,6,none⟩ (QG m) (fun i v hi=>by
  have hl:i<256:=by have:=(List.getElem?_eq_some_iff.1 hi).1;rwa[O8]at this
  rw[So m i hl]at hi
  cases hi
  rw[Addr.add_lit];exact(Blk.cell h (6+i)).trans (Gy tb ts m i hl))
theorem qb7:(Tryz.prog.info? 5).map (fun i=>i.size)=some 1:=by kernel_rfl
theorem TY(A:Array Value)(k:Nat)(v:Int)(w:World)(hk:k<256)(h:A[k]? =some (.int .u8 v)):
  (Instr.index 232 (.agg A) (.int .i64 (k:Int))).run Tryz.prog w=.ok (.int .u8 v) w:=by
 obtain⟨q,hq,hs⟩:=Option.map_eq_some_iff.1 qb7;have h0:(0:Int)≤(k:Int):=by omega
 have h1:(k:Int)<256:=by omega
 have rV:(isAgg 5).run Tryz.prog w=.ok false w:=by
  unfold isAgg;rw[Sem.run_bind,run_underlying Tryz.underlying5 w];simp
 have bK:¬(k≥256):=by omega
 simp[Instr.index,asIntOf,Sem.run_bind,run_underlying Tryz.underlying232,part,rV,sizeOf,typeInfo,hq,hs,h,h0,h1,hk]
theorem Yo:(Tryz.prog.info? 232).map (fun i=>(i.size,0,0))=some (256,0,0):=by kernel_rfl
theorem LV{o:Oper}{a:Act}{w:World}{K:Act→World→Prop}{Q:Exit→Act→World→Prop}(x:Operand)(ho:o.op=.load 232 x)(g:Nat)(hx:a.eval x=.pointer (some ⟨g,6,none⟩))(A:Array Value)(hl:Sem.run Tryz.prog (loadCells ⟨g,6,none⟩ 256) w=.ok A w)(h:K (a.put o.dst (.agg A)) w):o.wp Tryz.prog a w K Q:=by
 have hv:Sem.run Tryz.prog (loadVar 232 ⟨g,6,none⟩) w=.ok (.agg A) w:=by
  obtain⟨q,hq,hs⟩:=Option.map_eq_some_iff.1 Yo;have bC:q.size=256:=by injection hs
  have rV:(isAgg 232).run Tryz.prog w=.ok true w:=by
   unfold isAgg;rw[Sem.run_bind,run_underlying Tryz.underlying232 w];simp
  simp[loadVar,Sem.run_bind,rV,sizeOf,typeInfo,hq,bC,hl]
 unfold Oper.wp execOp;simp only[ho,hx,Instr.loadAt,Instr.sureAddr,Sem.run_bind,Sem.run_pure,Result.andThen_ok,hv];exact h
def NA(k j:Nat):Int:=if j<k then As j else seen (Gv 3) j
theorem QI(k:Nat)(x:Int)(h:As k=x):(fun j=>if j=k then x else NA k j)=NA (k+1):=by
 funext j
 unfold NA
 by_cases hj:j=k
 ·subst hj;rw[if_pos rfl,if_pos (by omega),h]
 ·rw[if_neg hj]
  by_cases hl:j<k
  ·rw[if_pos hl,if_pos (by omega)]
  ·rw[if_neg hl,if_neg (by omega)]
theorem Yp:NA 0=seen (Gv 3):=by funext j;unfold NA;rw[if_neg (by omega)]
theorem qay(tb:Value)(ts:Int):n9 tb ts (NA 256)=n9 tb ts As:=by
 have h:(List.range 256).map (fun i=>Value.int .u8 (NA 256 i))=(List.range 256).map (fun i=>Value.int .u8 (As i)):=by
  apply List.map_congr_left
  intro j hj;unfold NA;rw[if_pos (List.mem_range.1 hj)]
 unfold n9;rw[h]
def ON(w:World)(o:Nat)(a b c:ByteArray):Prop:=o<w.heap.size∧∀i,i<6→w.cell? ⟨o,i,none⟩=(onV a b c)[i]?
theorem ON.but{w w':World}{o:Nat}{a b c:ByteArray}{S:List Nat}(h:ON w o a b c)(hb:But S w w')(hs:o∉S):ON w' o a b c:=
 ⟨Nat.lt_of_lt_of_le h.1 hb.size,fun i hi=>by
  have e:=hb.block o h.1 hs;have:w'.cell? ⟨o,i,none⟩=w.cell? ⟨o,i,none⟩:=by unfold World.cell?;rw[show(⟨o,i,none⟩:Addr).block=o from rfl,e]
  rw[this];exact h.2 i hi⟩
def GS(w:World)(r tr:Nat)(a b c:ByteArray):Nat→Prop
 |3=>TT w tr (.pointer none) (.pointer none) (.pointer none) (.pointer none)
 |2=>∃N x,x≠N∧TT w tr (nP N) (.pointer none) (.pointer none) (.pointer none)∧ND w N ⟨#[]⟩ 0 ⟨#[49]⟩ (nP x) (.slice none 0 0)∧ND w x a 6 ⟨#[]⟩ (.pointer none) (.slice none 0 0)∧r<N
 |1=>∃N T x k,T≠tr∧TT w tr (nP N) (.pointer none) (.pointer none) (.pointer none)∧ND w N ⟨#[]⟩ 0 ⟨#[]⟩ (.pointer none) (nT T)∧TT w T (.pointer none) (nP x) (nP k) (.pointer none)∧ND w x a 6 ⟨#[]⟩ (.pointer none) (.slice none 0 0)∧ND w k b 4 ⟨#[]⟩ (.pointer none) (.slice none 0 0)∧r<T
 |0=>∃N T x k l,TT w tr (nP N) (.pointer none) (.pointer none) (.pointer none)∧ND w N ⟨#[]⟩ 0 ⟨#[]⟩ (.pointer none) (nT T)∧TT w T (.pointer none) (nP x) (nP k) (nP l)∧ND w x a 6 ⟨#[]⟩ (.pointer none) (.slice none 0 0)∧ND w k b 4 ⟨#[]⟩ (.pointer none) (.slice none 0 0)∧ND w l c 2 ⟨#[]⟩ (.pointer none) (.slice none 0 0)
 |_=>False
theorem qcP(w w':World)(r tr:Nat)(a b c:ByteArray)(hr:GR w r (nT tr))(hT:TT w tr (.pointer none) (.pointer none) (.pointer none) (.pointer none))(h1:TT w' tr (nP w.heap.size) (.pointer none) (.pointer none) (.pointer none))(h2:ND w' w.heap.size ⟨#[]⟩ 0 ⟨#[49]⟩ (nP (w.heap.size+1)) (.slice none 0 0))(h3:ND w' (w.heap.size+1) a 6 ⟨#[]⟩ (.pointer none) (.slice none 0 0))(hb:But [tr] w w'):GR w' r (nT tr)∧GS w' r tr a b c 2:=
 ⟨Blk.but hr hb (by simpa using Blk.ne_ hr hT (by decide)),_,_,by omega,h1,h2,h3,hr.lt⟩
theorem qcQ(w w':World)(r tr N x:Nat)(a b c:ByteArray)(hr:GR w r (nT tr))(hx:x≠N)(hT:TT w tr (nP N) (.pointer none) (.pointer none) (.pointer none))(hN:ND w N ⟨#[]⟩ 0 ⟨#[49]⟩ (nP x) (.slice none 0 0))(hX:ND w x a 6 ⟨#[]⟩ (.pointer none) (.slice none 0 0))(h1:ND w' N ⟨#[]⟩ 0 ⟨#[]⟩ (.pointer none) (nT (w.heap.size+1)))(h2:TT w' (w.heap.size+1) (.pointer none) (nP x) (nP w.heap.size) (.pointer none))(h3:ND w' w.heap.size b 4 ⟨#[]⟩ (.pointer none) (.slice none 0 0))(hb:But [N] w w'):GR w' r (nT tr)∧GS w' r tr a b c 1:=
 ⟨Blk.but hr hb (by simpa using Blk.ne_ hr hN (by decide)),N,w.heap.size+1,x,w.heap.size,by have:=hT.lt;omega,Blk.but hT hb (by simpa using Blk.ne_ hT hN (by decide)),h1,h2,Blk.but hX hb (by simpa using hx),h3,by have:=hr.lt;omega⟩
theorem qcR(w w':World)(r tr N T x k:Nat)(a b c:ByteArray)(hr:GR w r (nT tr))(hx:T≠tr)(hT:TT w tr (nP N) (.pointer none) (.pointer none) (.pointer none))(hN:ND w N ⟨#[]⟩ 0 ⟨#[]⟩ (.pointer none) (nT T))(hU:TT w T (.pointer none) (nP x) (nP k) (.pointer none))(hX:ND w x a 6 ⟨#[]⟩ (.pointer none) (.slice none 0 0))(hK:ND w k b 4 ⟨#[]⟩ (.pointer none) (.slice none 0 0))(h1:TT w' T (.pointer none) (nP x) (nP k) (nP w.heap.size))(h2:ND w' w.heap.size c 2 ⟨#[]⟩ (.pointer none) (.slice none 0 0))(hb:But [T] w w'):GR w' r (nT tr)∧GS w' r tr a b c 0:=
 ⟨Blk.but hr hb (by simpa using Blk.ne_ hr hU (by decide)),N,T,x,k,w.heap.size,Blk.but hT hb (by simpa using hx.symm),Blk.but hN hb (by simpa using Blk.ne_ hN hU (by decide)),h1,Blk.but hX hb (by simpa using Blk.ne_ hX hU (by decide)),Blk.but hK hb (by simpa using Blk.ne_ hK hU (by decide)),h2⟩
def GP(w:World)(r:Nat)(a b c:ByteArray):Prop:=∃tr,GR w r (nT tr)∧GS w r tr a b c 0
theorem But.drew1{S:List Nat}{a w:World}(h:But S a w):But S a w.drew:=⟨h.os,h.tape,h.output,h.size,h.block⟩
theorem Yq(o cap:Nat)(a b c:ByteArray)(w:World)(h:ON w o a b c):
  Calls Tryz.prog 198 #[.slice (some ⟨o,0,none⟩) 6 cap] w fun e w'=>e=.returned (nP w.heap.size)∧GP w' w.heap.size a b c∧But [] w w':=by
 have jB:=h.1;have HO:=qid h;have hS:=qav w;have bD:But [] w (w.alloc (.cells Tryz.zeroCells265 265)):=(But.refl [] w).alloc _;obtain⟨HS,bG,GZ⟩:=hZ3 hS bD jB;clear h hS bD;go_enter Tryz.func198,Tryz.ntmps198;go_wp2
 go_loopg [4] 3 (fun gk u4 wx=>∃k n:Nat,u4=.int .i64 (n:Int)∧n=2*k∧k+gk=3∧G0 wx w.heap.size (.slice none 0 0) 0 (seen (Gv k))∧But [] w wx)
 case atStart=>exact⟨0,0,rfl,rfl,rfl,HS.out,bG.out⟩
 case round=>
  obtain⟨k,n,rfl,hn,hk,hG,hB⟩:=hrel;obtain⟨HG,HB⟩:=hZ2 hG hB;clear hG hB
  cases gk with
  |zero=>
   have eV:k=3:=by omega
   subst eV;have F7:n=6:=hn;subst F7;clear hn;have q1:=QH wr _ _ _ _ HG.out;go_wp2;refine LV _ rfl w.heap.size (by rfl) _ q1 ?_
   obtain⟨A,hA⟩:∃A,(QG (seen (Gv 3))).toArray=A:=⟨_,rfl⟩;rw[hA];have wL:∀i,i<256→A[i]? =some (.int .u8 (seen (Gv 3) i)):=fun i hi=>by rw[←hA,List.getElem?_toArray];exact So _ i hi
   have HA:=qid wL;have Ga:A.size=256:=by rw[←hA];simp[O8]
   clear hA q1 wL;go_wp2
   go_loopg [41] 256 (fun gk F8 wx=>∃k:Nat,F8=.int .i64 (k:Int)∧k+gk=256∧G0 wx w.heap.size (.slice none 0 0) (J2 k:Int) (seen (Gv 3))∧But [] w wx)
   case atStart=>exact⟨0,rfl,rfl,HG.out,HB.out⟩
   case round=>
    obtain⟨k,rfl,hk,hG,hB⟩:=hrel;obtain⟨HG,HB⟩:=hZ2 hG hB;clear hB
    cases gk with
    |zero=>
     have eV:k=256:=by omega
     rw[eV]at hG HG;rw[qau]at HG;have l1:¬((k:Int)<256):=by omega
     clear hk eV;have q1:=QH wr _ _ _ _ HG.out;clear hG;go_wp2;refine LV _ rfl w.heap.size (by rfl) _ q1 ?_
     obtain⟨A2,zV⟩:∃A2,(QG (seen (Gv 3))).toArray=A2:=⟨_,rfl⟩;rw[zV];have wL:∀i,i<256→A2[i]? =some (.int .u8 (seen (Gv 3) i)):=fun i hi=>by rw[←zV,List.getElem?_toArray];exact So _ i hi
     have lB:=qid wL;clear zV q1 wL HA;go_wp2
     go_loopg [9,58] 256 (fun gk u9 F9 wx=>∃k:Nat,F9=.int .i64 (k:Int)∧u9=.int .u8 (J2 k:Int)∧k+gk=256∧G0 wx w.heap.size (.slice none 0 0) 4 (NA k)∧But [] w wx)
     case atStart=>exact⟨0,rfl,rfl,rfl,by rw[Yp];exact HG.out,HB.out⟩
     case round=>
      obtain⟨k,rfl,rfl,hk,hG,hB⟩:=hrel;obtain⟨HG,HB⟩:=hZ2 hG hB;clear hB
      cases gk with
      |zero=>
       have eV:k=256:=by omega
       rw[eV]at hG HG;have l1:¬((k:Int)<256):=by omega
       obtain⟨cn,ou⟩:∃cn,J2 k=cn:=⟨_,rfl⟩;rw[ou];clear hk eV ou;have tB:G0 wr w.heap.size (.slice none 0 0) 4 As:=by
        have:=HG.out;unfold G0 at this⊢
        rwa[qay]at this
       have c5:wr.cell? ⟨w.heap.size,5,none⟩=some (.int .i64 4):=(Blk.cell tB 5).trans (lm _ _ _ 5 (by decide))
       have c4:∀o',(wr.alloc o').cell? ⟨w.heap.size,4,none⟩=some (.slice none 0 0):=fun o'=>(Blk.cell (tB.alloc o') 4).trans (lm _ _ _ 4 (by decide))
       have f4:∀o',(wr.alloc o').frozen? ⟨w.heap.size,4,none⟩=false:=fun o'=>Blk.frozen (tB.alloc o') 4
       have q5:=mk4 wr;have fw:w.heap.size<wr.heap.size:=tB.lt;have CE:=qid tB;clear hG HG tB;go_wp2;obtain⟨W,hW⟩:∃W,(wr.setCell ⟨w.heap.size,4,none⟩ (nT wr.heap.size)).alloc (.cells #[.pointer none,.pointer none,.pointer none,.pointer none] 260)=W:=⟨_,rfl⟩;have rX:GR W w.heap.size (nT wr.heap.size):=by
        rw[←hW];have:=Blk.set_ CE.out 4 (nT wr.heap.size);rw[qds]at this;exact this.alloc _
       have nM:TT W wr.heap.size (.pointer none) (.pointer none) (.pointer none) (.pointer none):=by
        rw[←hW];exact Blk.newAt _ _ _ _ (by simp)
       have xh:But [] w W:=by rw[←hW];exact(HB.out.set _ _ (.inr (Nat.le_refl _))).alloc _
       rw[hW];obtain⟨tr,oO⟩:∃tr,wr.heap.size=tr:=⟨_,rfl⟩;rw[oO]at rX nM fw⊢;obtain⟨iD,xO,kv,F'⟩:=hZ4 rX nM xh fw;clear hW rX nM xh CE c5 c4 f4 q5 oO
       go_loopg [12] 3 (fun gk qN wx=>qN=.int .i64 (((3-gk)*2:Nat):Int)∧GR wx w.heap.size (nT tr)∧GS wx w.heap.size tr a b c gk∧But [] w wx)
       case atStart=>exact⟨rfl,iD.out,xO.out,kv.out⟩
       case round=>
        obtain⟨rfl,rX,CF,hB⟩:=hrel;have dB:Hid (ON wr o a b c):=ON.but HO.out hB (by simp)
        obtain⟨iD,kN,HB⟩:=hZ3 rX CF hB;have fw:=rX.lt;clear rX CF hB xO kv
        match gk with
        |0=>
         go_wp2;go_ret;exact⟨rfl,⟨tr,iD.out,kN.out⟩,HB.out⟩
        |1=>
         obtain⟨N,T,x,k,g1,g2,g3,g4,g5,g6,g7⟩:=kN.out;have cj:=qid g7;have o0:wr.cell? ⟨o,4,none⟩=some (.string ⟨#[36,51]⟩):=dB.out.2 4 (by decide)
         have o1:wr.cell? ⟨o,5,none⟩=some (.string c):=dB.out.2 5 (by decide)
         have HR:=qid (qcO w.heap.size tr N T x k c 2 wr.drew iD.out g2 g3 g4);have aY:=qid (fun w' h1 h2 hb=>qcR wr.drew w' w.heap.size tr N T x k a b c iD.out g1 g2 g3 g4 g5 g6 h1 h2 hb)
         clear g1 g2 g3 g4 g5 g6 g7;go_wp2
         go_region_with (go_at_call 226;(refine HR.out.mono ?_);rintro e w' ⟨rfl,z1,z2,z3⟩;obtain⟨pU,jX,ly⟩:=hZ3 z1 z2 z3;clear z1 z2 z3)
         all_goals
          go_wp2;go_roundg 0
          case measure=>exact Nat.lt_succ_self _
          case rel=>exact⟨rfl,(aY.out _ pU.out jX.out ly.out).1,(aY.out _ pU.out jX.out ly.out).2,HB.out.drew1.trans ly.out (by simp) (fun y hy hl=>by have:=cj.out;simp only[List.mem_singleton]at hy;omega)⟩
        |2=>
         obtain⟨N,x,g1,g2,g3,g4,g5⟩:=kN.out;have cj:=qid g5;have o0:wr.cell? ⟨o,2,none⟩=some (.string ⟨#[36,50]⟩):=dB.out.2 2 (by decide)
         have o1:wr.cell? ⟨o,3,none⟩=some (.string b):=dB.out.2 3 (by decide)
         have HR:=qid (qcN w.heap.size tr N x b 4 wr.drew iD.out g2 g3);have aY:=qid (fun w' h1 h2 h3 hb=>qcQ wr.drew w' w.heap.size tr N x a b c iD.out g1 g2 g3 g4 h1 h2 h3 hb)
         clear g1 g2 g3 g4 g5;go_wp2
         go_region_with (go_at_call 226;(refine HR.out.mono ?_);rintro e w' ⟨rfl,z1,z2,z3,z4⟩;obtain⟨pU,jX,ly,rY⟩:=hZ4 z1 z2 z3 z4;clear z1 z2 z3 z4)
         all_goals
          go_wp2;go_roundg 1
          case measure=>exact Nat.lt_succ_self _
          case rel=>exact⟨rfl,(aY.out _ pU.out jX.out ly.out rY.out).1,(aY.out _ pU.out jX.out ly.out rY.out).2,HB.out.drew1.trans rY.out (by simp) (fun y hy hl=>by have:=cj.out;simp only[List.mem_singleton]at hy;omega)⟩
        |3=>
         have o0:wr.cell? ⟨o,0,none⟩=some (.string ⟨#[36,49]⟩):=dB.out.2 0 (by decide)
         have o1:wr.cell? ⟨o,1,none⟩=some (.string a):=dB.out.2 1 (by decide)
         have HR:=qid (qcM w.heap.size tr a 6 wr.drew iD.out kN.out);have aY:=qid (fun w' h1 h2 h3 hb=>qcP wr.drew w' w.heap.size tr a b c iD.out kN.out h1 h2 h3 hb)
         go_wp2
         go_region_with (go_at_call 226;(refine HR.out.mono ?_);rintro e w' ⟨rfl,z1,z2,z3,z4⟩;obtain⟨pU,jX,ly,rY⟩:=hZ4 z1 z2 z3 z4;clear z1 z2 z3 z4)
         all_goals
          go_wp2;go_roundg 2
          case measure=>exact Nat.lt_succ_self _
          case rel=>exact⟨rfl,(aY.out _ pU.out jX.out ly.out rY.out).1,(aY.out _ pU.out jX.out ly.out rY.out).2,HB.out.drew1.trans rY.out (by simp) (fun y hy hl=>by have:=F'.out;simp only[List.mem_singleton]at hy;omega)⟩
        |g+4=>exact absurd kN.out (by simp[GS])
      |succ g=>
       have eV:k<256:=by omega
       have q2:=TY A2 k _ wr eV (lB.out k eV);obtain⟨fe,ey,oM⟩:=Oe k eV;have c5:wr.cell? ⟨w.heap.size,5,none⟩=some (.int .i64 4):=(Blk.cell hG 5).trans (lm _ _ _ 5 (by decide))
       have cm:wr.cell? ⟨w.heap.size,6+k,none⟩=some (.int .u8 (NA k k)):=(Blk.cell hG (6+k)).trans (Gy _ _ _ k eV);have fm:=Blk.frozen hG (6+k);obtain⟨n,hn⟩:∃n,J2 k=n:=⟨_,rfl⟩;obtain⟨n1,dj⟩:∃n1,J2 (k+1)=n1:=⟨_,rfl⟩;rw[hn,dj]at fe;rw[hn]at ey oM⊢;have cu:=qid dj;have l1:(k:Int)<256:=by omega
       have l0:(0:Int)≤(k:Int):=by omega
       obtain⟨k1,bq⟩:∃k1,k+1=k1:=⟨_,rfl⟩;have wk:IntKind.i64.wrap ((k:Int)+1)=(k1:Int):=by rw[show(k:Int)+1=(k1:Int) by omega];exact IntWalk.i64_in _ (by omega)
       obtain⟨cC,jO⟩:=hZ2 bq hk;rcases ey with⟨hs,hm⟩|⟨hs,hm⟩
       ·rw[hs]at q2 fe
        have e1:n1=n:=by simpa using fe
        subst e1;have bZ:=Blk.set_ HG.out (6+k) (.int .u8 4);rw[TV _ _ _ k eV,QI k 4 hm,bq]at bZ;have lC:=qid bZ;clear hG hn dj fe oM bq hk bZ hs HG hm;go_wp2
        go_region
        go_wp2;go_roundg g
        case measure=>exact Nat.lt_succ_self _
        case rel=>exact⟨k1,rfl,by rw[←cC.out,cu.out],by have:=cC.out;have:=jO.out;omega,lC.out,(HB.out.set _ _ (.inr (Nat.le_refl _))).drewN 1⟩
       ·rw[hs]at q2 fe
        have e1:n1=n+1:=by simpa using fe
        have FA:IntKind.u8.wrap ((n:Int)+1)=(n1:Int):=by
         have:n=0∨n=1∨n=2∨n=3∨n=4:=by omega
         rcases this with rfl|rfl|rfl|rfl|rfl<;>(subst e1;rfl)
        have bZ:=Blk.set_ HG.out (6+k) (.int .u8 (n:Int));rw[TV _ _ _ k eV,QI k n hm,bq]at bZ;have lC:=qid bZ;clear hG hn dj fe oM bq hk bZ hs HG hm e1;go_wp2;go_roundg g
        case measure=>exact Nat.lt_succ_self _
        case rel=>exact⟨k1,rfl,by rw[←cC.out,cu.out],by have:=cC.out;have:=jO.out;omega,lC.out,HB.out.set _ _ (.inr (Nat.le_refl _))⟩
    |succ g=>
     have eV:k<256:=by omega
     have zW:=HA.out k eV;obtain⟨fe,ey,oM⟩:=Oe k eV;have c5:wr.cell? ⟨w.heap.size,5,none⟩=some (.int .i64 (J2 k:Int)):=(Blk.cell hG 5).trans (lm _ _ _ 5 (by decide))
     have f5:=Blk.frozen hG 5;have q2:=TY A k _ wr eV zW;obtain⟨n,hn⟩:∃n,J2 k=n:=⟨_,rfl⟩;obtain⟨n1,dj⟩:∃n1,J2 (k+1)=n1:=⟨_,rfl⟩;rw[hn,dj]at fe;rw[hn]at ey oM c5 HG;have cu:=qid dj;have l1:(k:Int)<256:=by omega
     have l0:(0:Int)≤(k:Int):=by omega
     obtain⟨k1,bq⟩:∃k1,k+1=k1:=⟨_,rfl⟩;have wk:IntKind.i64.wrap ((k:Int)+1)=(k1:Int):=by rw[show(k:Int)+1=(k1:Int) by omega];exact IntWalk.i64_in _ (by omega)
     obtain⟨cC,jO⟩:=hZ2 bq hk;have bZ:=Blk.set_ HG.out 5 (.int .i64 (n1:Int));rw[qdr]at bZ;have lC:=qid bZ;have wn:IntKind.i64.wrap (n:Int)=(n:Int):=IntWalk.i64_in _ (by omega)
     rcases ey with⟨hs,_⟩|⟨hs,_⟩
     ·rw[hs]at q2 fe
      have e1:n1=n:=by simpa using fe
      subst e1;clear hG hn dj fe oM bq hk bZ zW hs HG;go_wp2;go_roundg g
      case measure=>exact Nat.lt_succ_self _
      case rel=>exact⟨k1,rfl,by have:=cC.out;have:=jO.out;omega,by rw[←cC.out,cu.out];exact lC.out,HB.out.set _ _ (.inr (Nat.le_refl _))⟩
     ·rw[hs]at q2 fe
      have e1:n1=n+1:=by simpa using fe
      have FA:IntKind.i64.wrap ((n:Int)+1)=(n1:Int):=by rw[show(n:Int)+1=(n1:Int) by omega];exact IntWalk.i64_in _ (by omega)
      clear hG hn dj fe oM bq hk bZ zW hs HG e1;go_wp2;go_roundg g
      case measure=>exact Nat.lt_succ_self _
      case rel=>exact⟨k1,rfl,by have:=cC.out;have:=jO.out;omega,by rw[←cC.out,cu.out];exact lC.out,HB.out.set _ _ (.inr (Nat.le_refl _))⟩
  |succ g=>
   have eV:k<3:=by omega
   obtain⟨k1,k2,k3,k4,k5,k6⟩:=VJ a b c k eV;have ho:ON wr o a b c:=ON.but HO.out HB.out (by simp)
   have cK:wr.cell? ⟨o,n,none⟩=some (.string (QE k)):=by rw[hn];exact(ho.2 (2*k) (by omega)).trans k1
   generalize QE k=D at*
   have l1:(n:Int)<6:=by omega
   have l0:(0:Int)≤(n:Int):=by omega
   obtain⟨n2,iP⟩:∃n2,n+2=n2:=⟨_,rfl⟩;have wk:IntKind.i64.wrap ((n:Int)+2)=(n2:Int):=by rw[show(n:Int)+2=(n2:Int) by omega];exact IntWalk.i64_in _ (by omega)
   have kI:Hid (n2=2*(k+1)):=qid (by omega)
   clear hn iP;have K5:=qid k5;clear k1 ho;have A8:(D.size:Int)=2:=by omega
   obtain⟨x,hx⟩:∃x,49+k=x:=⟨_,rfl⟩;have pV:x<256:=by omega
   have wW:Gv (k+1)=x::36::Gv k:=by rw[←hx];rfl
   obtain⟨FB,jO⟩:=hZ2 wW hk;rw[hx]at k6;clear hx wW;go_wp2
   go_loopg [6] 2 (fun gj u6 wx=>∃(j:Nat) (L:List Nat),u6=.int .i64 (j:Int)∧j+gj=2∧L=(if j=0 then Gv k else if j=1 then 36::Gv k else x::36::Gv k)∧G0 wx w.heap.size (.slice none 0 0) 0 (seen L)∧But [] w wx)
   case atStart=>exact⟨0,_,rfl,rfl,rfl,HG.out,HB.out⟩
   case round=>
    obtain⟨j,L,rfl,hj,hL,hG,hB⟩:=hrel;obtain⟨HG,HB,HL⟩:=hZ3 hG hB hL;clear hL
    cases gk with
    |zero=>
     have dI:j=2:=by omega
     subst dI;have hL:L=Gv (k+1):=by rw[FB.out];exact HL.out
     go_wp2;go_roundg g
     case measure=>exact Nat.lt_succ_self _
     case rel=>exact⟨k+1,n2,rfl,kI.out,by have:=jO.out;omega,hL▸HG.out,HB.out⟩
    |succ g2=>
     cases g2 with
     |zero=>
      have dI:j=1:=by omega
      subst dI;have c1:wr.cell? ⟨w.heap.size,6+x,none⟩=some (.int .u8 (seen L x)):=(Blk.cell hG (6+x)).trans (Gy _ _ _ x pV);have f1:=Blk.frozen hG (6+x);clear hG hB;go_wp2
      go_region
      go_wp2;go_roundg 0
      case measure=>exact Nat.lt_succ_self _
      case rel=>
       refine⟨2,x::L,rfl,rfl,?_,?_,?_⟩
       ·rw[HL.out];rfl
       ·have:=Blk.set_ HG.out (6+x) (.int .u8 1)
        rw[TV _ _ _ x pV,QD]at this;exact this
       ·exact(HB.out.set _ _ (.inr (Nat.le_refl _))).drewN 1
     |succ g3=>
      have dI:j=0:=by omega
      subst dI;have c1:wr.cell? ⟨w.heap.size,42,none⟩=some (.int .u8 (seen L 36)):=(Blk.cell hG (6+36)).trans (Gy _ _ _ 36 (by decide))
      have f1:=Blk.frozen hG 42;clear hG hB;go_wp2
      go_region
      go_wp2;go_roundg (g3+1)
      case measure=>omega
      case rel=>
       refine⟨1,36::L,rfl,by omega,?_,?_,?_⟩
       ·rw[HL.out];rfl
       ·have:=Blk.set_ HG.out (6+36) (.int .u8 1)
        rw[TV _ _ _ 36 (by decide),QD]at this
        exact this
       ·exact(HB.out.set _ _ (.inr (Nat.le_refl _))).drewN 1
theorem GP.below{w w':World}{r:Nat}{a b c:ByteArray}(h:GP w r a b c)(hb:Below w.heap.size w w'):GP w' r a b c:=by
 obtain⟨tr,h1,N,T,x,k,l,h2,h3,h4,h5,h6,h7⟩:=h;exact⟨tr,Blk.below h1 hb h1.lt,N,T,x,k,l,Blk.below h2 hb h2.lt,Blk.below h3 hb h3.lt,Blk.below h4 hb h4.lt,Blk.below h5 hb h5.lt,Blk.below h6 hb h6.lt,Blk.below h7 hb h7.lt⟩
def M8(a b c:ByteArray)(k:Nat):ByteArray:=if k=0 then a else if k=1 then b else c
theorem TZ(a b c:ByteArray)(k:Nat):(M8 a b c k).data.toList=QF a.data.toList b.data.toList c.data.toList k:=by
 unfold M8 QF
 split
 ·rfl
 ·split<;>rfl
theorem qaz(w:World)(r:Nat)(a b c:ByteArray)(h:GP w r a b c)(s:ByteArray)(k:Nat)(hk:k<3)(h0:0<s.size)(h1:1<s.size)(e0:(s[0]'h0).toNat=36)(e1:(s[1]'h1).toNat=49+k):
  Calls Tryz.prog 307 #[nP r,.string s,.bool false] w fun e w'=>e=.returned (.tuple #[.string (M8 a b c k),.int .i64 2,.bool true])∧∃n,w'=w.drewN n:=by
 obtain⟨tr,g1,N,T,x,y,z,g2,g3,g4,g5,g6,g7⟩:=h
 match k,hk with
 |0,_=>exact LI r tr N T x 1 (.pointer none) (.pointer none) (.pointer none) a 6 s w g1 g2 g3 (g4.cell 1) g5 (by decide) (by decide) h0 h1 e0 (by rw[e1];rfl)
 |1,_=>exact LI r tr N T y 2 (.pointer none) (.pointer none) (.pointer none) b 4 s w g1 g2 g3 (g4.cell 2) g6 (by decide) (by decide) h0 h1 e0 (by rw[e1];rfl)
 |2,_=>exact LI r tr N T z 3 (.pointer none) (.pointer none) (.pointer none) c 2 s w g1 g2 g3 (g4.cell 3) g7 (by decide) (by decide) h0 h1 e0 (by rw[e1];rfl)
theorem Of(s:ByteArray)(i j:Nat):(s.extract i j).data.toList=(s.data.toList.drop i).take (j-i):=by
 rw[ByteArray.data_extract,Array.toList_extract,List.extract_eq_take_drop]
theorem el(B:Nat)(w:World)(n:Nat):Below B w (w.drewN n):=⟨(But.drewN (But.refl [] w) n).os,(But.drewN (But.refl [] w) n).tape,(But.drewN (But.refl [] w) n).output,Nat.le_refl _,fun _ _=>rfl⟩
structure WJ(A B C D R:Tx)(i last:Nat)(o:Tx):Prop where
 le:last≤i
 ls:last≤D.length
 most:i≤D.length+1
 mid:i≤D.length→o++(D.drop last).take (i-last)++AT A B C (D.drop i)=R∧wfT (D.drop i)=true
 fin:i=D.length+1→o++D.drop last=R
theorem WJ.start(A B C D:Tx)(h:wfT D=true):WJ A B C D (AT A B C D) 0 0 []:=
 ⟨Nat.le_refl _,Nat.zero_le _,Nat.zero_le _,fun _=>⟨by simp,by simpa using h⟩,fun h=>by omega⟩
theorem VL(D:Tx)(i last:Nat)(h:i<D.length)(hl:last≤i):(D.drop last).take (i+1-last)=(D.drop last).take (i-last)++[D[i]]:=by
 rw[show i+1-last=(i-last)+1 by omega,List.take_add_one]
 congr 1
 rw[List.getElem?_drop,show last+(i-last)=i by omega,List.getElem?_eq_getElem h];rfl
theorem WJ.skip{A B C D R:Tx}{i last:Nat}{o:Tx}(h:WJ A B C D R i last o)(hi:i<D.length)(hx:D[i]≠36):WJ A B C D R (i+1) last o:=by
 obtain⟨m1,m2⟩:=h.mid (by omega)
 rw[List.drop_eq_getElem_cons hi]at m1 m2;obtain⟨e1,e2⟩:=qb6 A B C D[i] (D.drop (i+1)) hx;rw[e1]at m1;rw[e2]at m2;refine⟨by have:=h.le;omega,h.ls,by omega,fun _=>⟨?_,m2⟩,fun h2=>by omega⟩
 rw[VL D i last hi h.le,←m1];simp
theorem WJ.last{A B C D R:Tx}{last:Nat}{o:Tx}(h:WJ A B C D R D.length last o):WJ A B C D R (D.length+1) last o:=by
 obtain⟨m1,m2⟩:=h.mid (Nat.le_refl _);refine⟨by have:=h.le;omega,h.ls,Nat.le_refl _,fun h2=>by omega,fun _=>?_⟩
 rw[←m1,List.drop_length,List.take_of_length_le (by simp)]
 simp[AT]
theorem WJ.hole{A B C D R:Tx}{i last:Nat}{o:Tx}(h:WJ A B C D R i last o)(hi:i<D.length)(hx:D[i]=36):
  ∃k,∃(h1:i+1<D.length),k<3∧(D[i+1]'h1).toNat=49+k∧WJ A B C D R (i+2) (i+2) (o++(D.drop last).take (i-last)++QF A B C k)∧o.length+(i-last)+(QF A B C k).length≤R.length:=by
 obtain⟨m1,m2⟩:=h.mid (by omega)
 rw[List.drop_eq_getElem_cons hi,hx]at m1 m2;obtain⟨k,t,hk,e,hw⟩:=qax _ m2;rw[e]at m1;rw[Yn A B C k hk]at m1;have h1:i+1<D.length:=by
  rcases Nat.lt_or_ge (i+1) D.length with h1|h1
  ·exact h1
  ·rw[List.drop_eq_nil_of_le h1]at e;cases e
 rw[List.drop_eq_getElem_cons h1]at e;injection e with e1 e2;have hl:((D.drop last).take (i-last)).length=i-last:=by rw[List.length_take,List.length_drop];have:=h.le;omega
 refine⟨k,h1,hk,?_,⟨Nat.le_refl _,by omega,by omega,fun _=>⟨?_,?_⟩,fun h2=>by omega⟩,?_⟩
 ·rw[e1]
  match k,hk with
  |0,_=>rfl
  |1,_=>rfl
  |2,_=>rfl
 ·have e3:D.drop (i+2)=t:=e2
  rw[e3,←m1];simp
 ·have e3:D.drop (i+2)=t:=e2
  rw[e3];exact hw
 ·rw[←m1];simp only[List.length_append,hl];omega
theorem QJ(a b c s:ByteArray)(r buf:Nat)(w0 w:World)(hG:GP w0 r a b c)(hb:Below w0.heap.size w0 w)(hA:AW w0.heap.size buf [] w)(ie:wfT s.data.toList=true)(bH:s.size≤1000)(R:Tx)(hR:AT a.data.toList b.data.toList c.data.toList s.data.toList=R)(oX:R.length≤1000000):
  Calls Tryz.prog 305 #[nP r,aI buf,.string s] w fun e w'=>(∃v,e=.returned v)∧AW w0.heap.size buf R w'∧Below w0.heap.size w0 w':=by
 have hW:=WJ.start a.data.toList b.data.toList c.data.toList s.data.toList ie;rw[hR]at hW;have HW:=qid hW;have q0:=qb3 buf;have Gb:=qb5 buf;obtain⟨HG,HB,HA,HR⟩:=hZ4 hG hb hA oX;clear hW hG hb hA ie hR oX;go_enter Tryz.func305,Tryz.ntmps305;go_wp2_with (go_at_call 306;(with_reducible refine(qaw buf _).mono ?_);rintro e w1 ⟨rfl,hw⟩;obtain rfl:=hw.symm)
 go_loopg [6,7,9,11,12] (s.size+1) (fun gk u6 u7 u9 nS qN wx=>∃(z:Int) (i last:Nat) (o:Tx),u6=.int .i64 z∧u7=.nilIface∧u9=.int .i64 (last:Int)∧nS=.bool false∧qN=.int .i64 (i:Int)∧s.size+1-i≤gk∧WJ a.data.toList b.data.toList c.data.toList s.data.toList R i last o∧AW w0.heap.size buf o wx∧Below w0.heap.size w0 wx)
 case atStart=>exact⟨0,0,0,[],rfl,rfl,rfl,rfl,rfl,by omega,HW.out,HA.out,HB.out⟩
 case round=>
  obtain⟨z,i,last,o,rfl,rfl,rfl,rfl,rfl,CG,hW,hA,hB⟩:=hrel;have hG:=HG.out.below hB;obtain⟨iD,lh,pW,jg,eD⟩:=hZ5 hG hW hA hB CG;have hle:=hW.le;have iJ:last≤s.size:=hW.ls;have fT:i≤s.size+1:=hW.most;clear CG hW hA hB;obtain⟨tr,g1,N,T,x,y,zz,g2,g3,g4,g5,g6,g7⟩:=hG;have r1:wr.cell? ⟨r,1,none⟩=some (.int .i64 0):=(g1.cell 1).trans (lm _ 4 As 1 (by decide))
  have r4:wr.cell? ⟨r,4,none⟩=some (nT tr):=(g1.cell 4).trans (lm _ 4 As 4 (by decide))
  have r5:wr.cell? ⟨r,5,none⟩=some (.int .i64 4):=(g1.cell 5).trans (lm _ 4 As 5 (by decide))
  have t0:wr.cell? ⟨tr,0,none⟩=some (nP N):=g2.cell 0;have t1:wr.cell? ⟨tr,1,none⟩=some (.pointer none):=g2.cell 1;have t2:wr.cell? ⟨tr,2,none⟩=some (.pointer none):=g2.cell 2;have t3:wr.cell? ⟨tr,3,none⟩=some (.pointer none):=g2.cell 3;have p1:=Wh ⟨N,0,none⟩;have p2:=Wg;have sL:=qid g1;have CH:=Nat.le_trans (Nat.le_refl _) jg.out.size;rcases Nat.lt_or_ge i s.size with aD|hge
  ·have b0:(0:Int)≤(i:Int):=by omega
   have b1:(i:Int)≤(s.size:Int):=by omega
   have b2:(i:Int)<(s.size:Int):=by omega
   have b3:((i:Int) != (s.size:Int))=true:=by rw[bne_iff_ne];omega
   have hx:(s[i]'aD).toNat<256:=(s[i]'aD).toNat_lt;have m0:wr.cell? ⟨r,6+(s[i]'aD).toNat,none⟩=some (.int .u8 (As (s[i]'aD).toNat)):=(g1.cell _).trans (Gy _ 4 As _ hx);obtain⟨i1,aN⟩:∃i1,i+1=i1:=⟨_,rfl⟩;have wk:IntKind.i64.wrap ((i:Int)+1)=(i1:Int):=by rw[show(i:Int)+1=(i1:Int) by omega];exact IntWalk.i64_in _ (by omega)
   have aQ:=qid aN;obtain⟨be,fX⟩:∃be,(s[i]'aD).toNat=be:=⟨_,rfl⟩;have dx:be≠36→WJ a.data.toList b.data.toList c.data.toList s.data.toList R i1 last o:=fun h=>by
    rw[←aN];exact lh.out.skip aD (fun h2=>h (by rw[←fX];show(s.data.toList[i]).toNat=36;rw[h2];rfl))
   have pG:=qid dx;rw[fX]at m0 hx;have F4:(be:Int)<256:=by omega
   by_cases cA:be=36
   ·subst cA
    have m1:wr.cell? ⟨r,42,none⟩=some (.int .u8 0):=m0;obtain⟨k,h1,hk,e1,dY,iH⟩:=lh.out.hole aD (by
     have e:(s[i]'aD)=36:=UInt8.toNat_inj.1 fX;exact e)
    have iK:i+1<s.size:=h1;have z0:0<(s.extract i s.size).size:=by rw[ByteArray.size_extract];omega
    have z1:1<(s.extract i s.size).size:=by rw[ByteArray.size_extract];omega
    have f0:((s.extract i s.size)[0]'z0).toNat=36:=by
     rw[ByteArray.getElem_extract];exact fX
    have f1:((s.extract i s.size)[1]'z1).toNat=49+k:=by
     rw[ByteArray.getElem_extract];exact e1
    have vG:(s.data.toList.drop last).take (i-last)=(s.extract last i).data.toList:=(Of s last i).symm;rw[vG,←TZ]at dY;rw[←TZ]at iH;have nC:(s.extract last i).size=i-last:=by rw[ByteArray.size_extract];omega
    have FC:(M8 a b c k).size=(M8 a b c k).data.toList.length:=rfl;have fy:Hid (o.length+(s.extract last i).size+(M8 a b c k).size≤1000000):=qid (by have:=HR.out;omega)
    obtain⟨val,di⟩:∃val,M8 a b c k=val:=⟨_,rfl⟩;obtain⟨i2,gi⟩:∃i2,i+2=i2:=⟨_,rfl⟩;have sJ:IntKind.i64.wrap ((i:Int)+2)=(i2:Int):=by rw[show(i:Int)+2=(i2:Int) by omega];exact IntWalk.i64_in _ (by omega)
    have sY:=qid (fun W FD=>qaz W r a b c FD (s.extract i s.size) k hk z0 z1 f0 f1)
    rw[di]at dY fy sY;rw[gi]at dY;obtain⟨oq,kT⟩:=hZ2 dY gi;have l4:(last:Int)≤(i:Int):=by omega
    have l5:(0:Int)≤(last:Int):=by omega
    clear m0 g1 g2 g3 g4 g5 g6 g7 dx aN hx hle iJ fT dY iH z0 z1 f0 f1 vG nC FC di gi h1 iK e1 hk pG;go_wp2
    go_quiet (fail)
    go_wp2_with (go_at_call 307;(refine(sY.out _ (iD.out.below (el _ _ _))).mono ?_);rintro e w2 ⟨rfl,nn,rfl⟩);have fJ:=qid (KJ w0.heap.size buf o (s.extract last i) (wr.drewN (nq+nn+1)) (pW.out.below (el _ _ _)) (by have:=fy.out;omega) CH)
    go_region_with (go_at_call 323;(refine fJ.out.mono ?_);rintro e w2 ⟨rfl,h2,aA⟩;obtain⟨H2,aL⟩:=hZ2 h2 aA;clear h2 aA)
    all_goals
     have nc:=qid ((jg.out.trans (el _ _ (nq+nn+1))).trans aL.out);have lB:=qid (fun W (e:W=w2)=>KJ w0.heap.size buf (o++(s.extract last i).data.toList) val W (e▸H2.out) (by have:=fy.out;have e2:(s.extract last i).size=(s.extract last i).data.toList.length:=rfl;rw[List.length_append];omega) (by rw[e];exact Nat.le_trans (Nat.le_refl _) nc.out.size))
     go_wp2_with (go_at_call 323;(refine(lB.out _ rfl).mono ?_);rintro e w3 ⟨rfl,h3,aG⟩;obtain⟨H3,aO⟩:=hZ2 h3 aG;clear h3 aG);go_roundg (gk-1)
     case measure=>have:=eD.out;omega
     case rel=>exact⟨_,i2,i2,_,rfl,rfl,rfl,rfl,rfl,by have:=eD.out;have:=kT.out;omega,oq.out,H3.out,nc.out.trans aO.out⟩
   ·have lD:=qid cA
    by_cases zX:be=49
    ·subst zX
     have m1:wr.cell? ⟨r,55,none⟩=some (.int .u8 1):=m0;clear m0 g1 g2 g3 g4 g5 g6 g7 dx aN hx hle iJ fT cA;go_wp2
     go_quiet (fail)
     go_wp2;go_roundg (gk-1)
     case measure=>have:=eD.out;omega
     case rel=>exact⟨z,i1,last,o,rfl,rfl,rfl,rfl,rfl,by have:=eD.out;have:=aQ.out;omega,pG.out lD.out,pW.out.below (el _ _ _),jg.out.trans (el _ _ _)⟩
    ·by_cases zY:be=50
     ·subst zY
      have m1:wr.cell? ⟨r,56,none⟩=some (.int .u8 2):=m0;clear m0 g1 g2 g3 g4 g5 g6 g7 dx aN hx hle iJ fT cA;go_wp2
      go_quiet (fail)
      go_wp2;go_roundg (gk-1)
      case measure=>have:=eD.out;omega
      case rel=>exact⟨z,i1,last,o,rfl,rfl,rfl,rfl,rfl,by have:=eD.out;have:=aQ.out;omega,pG.out lD.out,pW.out.below (el _ _ _),jg.out.trans (el _ _ _)⟩
     ·by_cases zZ:be=51
      ·subst zZ
       have m1:wr.cell? ⟨r,57,none⟩=some (.int .u8 3):=m0;clear m0 g1 g2 g3 g4 g5 g6 g7 dx aN hx hle iJ fT cA;go_wp2
       go_quiet (fail)
       go_wp2;go_roundg (gk-1)
       case measure=>have:=eD.out;omega
       case rel=>exact⟨z,i1,last,o,rfl,rfl,rfl,rfl,rfl,by have:=eD.out;have:=aQ.out;omega,pG.out lD.out,pW.out.below (el _ _ _),jg.out.trans (el _ _ _)⟩
      ·skip
       have m1:wr.cell? ⟨r,6+be,none⟩=some (.int .u8 4):=by rw[m0];unfold As;rw[if_neg cA,if_neg zX,if_neg zY,if_neg zZ]
       have lD:=lD;clear m0 zX zY zZ g1 g2 g3 g4 g5 g6 g7 dx aN hx hle iJ fT cA;go_wp2
       go_quiet (fail)
       go_wp2;go_roundg (gk-1)
       case measure=>have:=eD.out;omega
       case rel=>exact⟨z,i1,last,o,rfl,rfl,rfl,rfl,rfl,by have:=eD.out;have:=aQ.out;omega,pG.out lD.out,pW.out.below (el _ _ _),jg.out.trans (el _ _ _)⟩
  ·rcases Nat.eq_or_lt_of_le hge with heq|hgt
   ·have b1:(i:Int)≤(s.size:Int):=by omega
    have b0:(0:Int)≤(i:Int):=by omega
    have b3:((i:Int) != (s.size:Int))=false:=by rw[bne_eq_false_iff_eq];omega
    have he:s.extract i s.size=⟨#[]⟩:=by apply ByteArray.ext;rw[ByteArray.data_extract];apply Array.eq_empty_of_size_eq_zero;simp;omega
    obtain⟨i1,aN⟩:∃i1,i+1=i1:=⟨_,rfl⟩;have wk:IntKind.i64.wrap ((i:Int)+1)=(i1:Int):=by rw[show(i:Int)+1=(i1:Int) by omega];exact IntWalk.i64_in _ (by omega)
    have dY:WJ a.data.toList b.data.toList c.data.toList s.data.toList R i1 last o:=by
     have:=lh.out;rw[show i=s.data.toList.length from heq.symm]at this;rw[show i1=s.data.toList.length+1 by rw[←aN,←heq];rfl]
     exact this.last
    obtain⟨oq,aQ⟩:=hZ2 dY aN;clear g1 g2 g3 g4 g5 g6 g7 aN hle iJ fT hge heq dY;go_wp2_with (go_at_call 307;(refine(VK r tr false _ sL.out).mono ?_);rintro e w2 ⟨rfl,nn,rfl⟩);go_roundg (gk-1)
    case measure=>have:=eD.out;omega
    case rel=>exact⟨z,i1,last,o,rfl,rfl,rfl,rfl,rfl,by have:=eD.out;have:=aQ.out;omega,oq.out,pW.out.below (el _ _ _),jg.out.trans (el _ _ _)⟩
   ·have l1:¬((i:Int)≤(s.size:Int)):=by omega
    have bP:=lh.out.fin (by show i=s.size+1;omega)
    have HF:=qid bP
    by_cases eY:last=s.size
    ·have l2:decide ((last:Int)=(s.size:Int))=true:=by rw[decide_eq_true_iff];omega
     have l3:((last:Int) != (s.size:Int))=false:=by rw[bne_eq_false_iff_eq];omega
     have tC:o=R:=by rw[←HF.out,eY,show s.data.toList.drop s.size=[]from List.drop_length,List.append_nil]
     have HO:=qid tC;clear g1 g2 g3 g4 g5 g6 g7 hle iJ fT hge hgt eY bP tC;go_wp2
     go_ret2
     exact⟨⟨_,rfl⟩,HO.out▸pW.out,jg.out⟩
    ·have l2:((last:Int) != (s.size:Int))=true:=by rw[bne_iff_ne];omega
     have l4:(last:Int)≤(s.size:Int):=by omega
     have l5:(0:Int)≤(last:Int):=by omega
     have tC:o++(s.extract last s.size).data.toList=R:=by
      rw[←HF.out,Of]
      congr 1
      apply List.take_of_length_le
      rw[List.length_drop];exact Nat.le_refl _
     have FE:o.length+(s.extract last s.size).size≤1000000:=by
      have h1:(s.extract last s.size).size=(s.extract last s.size).data.toList.length:=rfl;have h2:=HR.out;rw[←tC,List.length_append]at h2;rw[h1];exact h2
     have HO:=qid tC;have fJ:=qid (KJ w0.heap.size buf o (s.extract last s.size) wr.drew (pW.out.below ((Below.refl _ _).drew)) (by omega) CH)
     clear g1 g2 g3 g4 g5 g6 g7 hle iJ fT hge hgt eY bP tC FE;go_wp2
     go_region_with (go_at_call 323;(refine fJ.out.mono ?_);rintro e w2 ⟨rfl,h2,aA⟩;obtain⟨H2,aL⟩:=hZ2 h2 aA;clear h2 aA)
     all_goals
      go_wp2
      go_ret2
      exact⟨⟨_,rfl⟩,HO.out▸H2.out,(jg.out.drew).trans aL.out⟩
end Go.Proofs.YtpgddamhdfmdjaaGreatDoor
