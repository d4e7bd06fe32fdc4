/- Ted Tee Tef Teg Teh Tei -/
import Derived.Test.YtpgddamhdfmdjaaGreatDoorG10
import Derived.Test.YtpgddamhdfmdjaaGreatDoorG11
import Derived.Test.YtpgddamhdfmdjaaGreatDoorG12
import Derived.Test.YtpgddamhdfmdjaaGreatDoorG13
import Derived.Test.YtpgddamhdfmdjaaGreatDoorG8
import Derived.Deep.RegionWith
import Derived.Deep.RegionHeld
import Derived.Test.YtpgddamhdfmdjaaGreatDoorG1
set_option linter.unusedSimpArgs false
set_option linter.unusedVariables false
set_option maxRecDepth 100000
set_option maxHeartbeats 16000000
namespace Go.Proofs.YtpgddamhdfmdjaaGreatDoor
open Go.ChangeShapes Go.WideShapes Go.ChangeAt Go.RowKit
def S6(f:Fm):List Value:=[.int .i64 f.1,.bool f.2.1,.string f.2.2]
def ms:Array Value:=(dl.flatMap S6).toArray
structure Wq(m:Int)(w:World):Prop where
 wd:Wd m w
 tab : Lib.TabIs Tryz.prog w "internal/strconv.uint64pow10" .u64 Lib.pow10Tab
 frm:∃t fr,w.heap[0]? =some (.cells ms t fr)
 err:∃ev,w.cell? ⟨3,0,none⟩=some ev∧(ev=.nilIface∨∃te pe,ev=.iface te pe)
theorem UI{w w':World}{name:String}{k:IntKind}{zs:List Int}(h:Lib.TabIs Tryz.prog w name k zs)(b:Below w.heap.size w w'):Lib.TabIs Tryz.prog w' name k zs:=by
 unfold Lib.TabIs World.var? at*
 cases hg:Tryz.prog.globalNamed name with
 |none=>simp[hg]at h
 |some g=>
  simp only[hg,Option.bind_some]at h⊢;have aD:g<w.heap.size:=by
   rcases Nat.lt_or_ge g w.heap.size with h'|h'
   ·exact h'
   ·rw[Array.getElem?_eq_none h']at h;simp at h
  rw[b.block g aD];exact h
theorem Wq.below{m:Int}{w w':World}(h:Wq m w)(b:Below w.heap.size w w'):Wq m w':=by
 obtain⟨t,fr,hf⟩:=h.frm;obtain⟨ev,h1,h2⟩:=h.err;exact⟨h.wd.below b,UI h.tab b,⟨t,fr,(b.block _ (Array.getElem?_eq_some_iff.1 hf).1).trans hf⟩,ev,(b.cell (p:=⟨3,0,none⟩) (World.block_lt_of_cell? w _ h1)).trans h1,h2⟩
theorem Rm(w:World)(k:Nat)(os:Array Obj):Below w.heap.size w (Go.Sort.grow (w.drewN k) os):=by
 refine⟨rfl,rfl,rfl,?_,fun i hi=>?_⟩
 ·show w.heap.size≤(w.heap++os).size
  rw[Array.size_append];omega
 ·show(w.heap++os)[i]? =_
  rw[Array.getElem?_append_left hi]
theorem PE(n:Int)(m:Int)(w:World)(h0: -9223372036854775808≤n)(h1:n≤9223372036854775807)(h:Wq m w):
  Calls Tryz.prog 94 #[.int .i64 n] w fun e w'=>e=.returned (.string (bb (Lib.itoa n)))∧Below w.heap.size w w':=
 (Tryz.strconv_Itoa n h0 h1 w h.tab).mono fun e w' ⟨he,k,os,hw⟩=>⟨he,by rw[hw];exact Rm w k os⟩
abbrev fmV(f:Fm):Value:=.agg #[.int .i64 f.1,.bool f.2.1,.string f.2.2]
abbrev cmV(c:Cm):Value:=.agg #[.int .i64 c.1,.string c.2.1,.int .i64 c.2.2.1,.int .i64 c.2.2.2.1,.bool c.2.2.2.2]
abbrev tkV(t:Tok):Value:=.agg #[.int .i64 t.1,.string t.2.1,.int .i64 t.2.2]
def f7(n:Int):Prop:= -9223372036854775808≤n∧n≤9223372036854775807
theorem Kf{g:Nat}{T:ByteArray}{K V:Int}{m:Int}{W w w':World}(hS:w.cell? ⟨g,1,none⟩=some (.string T)∧w.cell? ⟨g,2,none⟩=some (.int .i64 K)∧w.cell? ⟨g,3,none⟩=some (.int .i64 V)∧Below W.heap.size W w∧Wq m w)(b:Below w.heap.size w w'):
  w'.cell? ⟨g,1,none⟩=some (.string T)∧w'.cell? ⟨g,2,none⟩=some (.int .i64 K)∧w'.cell? ⟨g,3,none⟩=some (.int .i64 V)∧Below W.heap.size W w'∧Wq m w':=by
 obtain⟨h1,h2,h3,h4,h5⟩:=hS;have hl:g<w.heap.size:=World.block_lt_of_cell? w _ h1;exact⟨(b.cell (p:=⟨g,1,none⟩) hl).trans h1,(b.cell (p:=⟨g,2,none⟩) hl).trans h2,(b.cell (p:=⟨g,3,none⟩) hl).trans h3,h4.trans (b.mono h4.size),h5.below b⟩
theorem WM(f:Fm)(c:Cm)(m:Int)(w:World)(hw:Wq m w)(hk:f7 c.2.2.1)(hv:f7 c.2.2.2.1)(ie:wfT f.2.2.data.toList=true)(bH:f.2.2.size≤100)(hR:(Ih f c).length≤1000000):
  Calls Tryz.prog 71 #[fmV f,cmV c] w fun e w'=>e=.returned (.string (bb (Ih f c)))∧Below w.heap.size w w':=by
 obtain⟨fk,fb,ft⟩:=f;obtain⟨ck,T,K0,V0,kd⟩:=c;have HW:=qid hw;have HI:Hid (∀W,Wq m W→Calls Tryz.prog 94 #[.int .i64 K0] W fun e w'=>e=.returned (.string (bb (Lib.itoa K0)))∧Below W.heap.size W w'):=qid (fun W hW=>PE K0 m W hk.1 hk.2 hW)
 have HJ:Hid (∀W,Wq m W→Calls Tryz.prog 94 #[.int .i64 V0] W fun e w'=>e=.returned (.string (bb (Lib.itoa V0)))∧Below W.heap.size W w'):=qid (fun W hW=>PE V0 m W hv.1 hv.2 hW)
 have dV:=qid (fun p o cap W h ho b7 B hB=>Ow p o cap T (bb (Lib.itoa K0)) (bb (Lib.itoa V0)) ft W h ho b7 B hB ie (Nat.le_trans bH (by decide)) _ (by rw[Mg,Mg];rfl) hR)
 clear hw hk hv ie bH hR;go_enter Tryz.func71,Tryz.ntmps71;go_wp2;obtain⟨W1,cF⟩:∃W1,(w.alloc (.cells #[.int .i64 fk,.bool fb,.string ft] 102)).alloc (.cells #[.int .i64 ck,.string T,.int .i64 K0,.int .i64 V0,.bool kd] 34)=W1:=⟨_,rfl⟩;have cr:Blk W1 (w.heap.size+1) 34 #[.int .i64 ck,.string T,.int .i64 K0,.int .i64 V0,.bool kd]:=by rw[←cF];exact Blk.newAt _ _ _ _ (by simp)
 have nD:Blk W1 w.heap.size 102 #[.int .i64 fk,.bool fb,.string ft]:=by rw[←cF];exact(Blk.new _ _ _).alloc _
 have aU:Below w.heap.size w W1:=by rw[←cF];exact((Below.refl _ _).alloc (Nat.le_refl _) _).alloc (by simp) _
 rw[cF];have c1:W1.cell? ⟨w.heap.size+1,1,none⟩=some (.string T):=cr.cell 1;have c2:W1.cell? ⟨w.heap.size+1,2,none⟩=some (.int .i64 K0):=cr.cell 2;have c3:W1.cell? ⟨w.heap.size+1,3,none⟩=some (.int .i64 V0):=cr.cell 3;obtain⟨lF,oo,aX⟩:=hZ3 cr nD aU;have xn:Hid (Wq m W1.drew):=qid ((HW.out.below aU).below ((Below.refl _ _).drew));clear cF cr nD aU;refine wp_region_held_drew (S:=fun w'=>w'.cell? ⟨w.heap.size+1,1,none⟩=some (.string T)∧w'.cell? ⟨w.heap.size+1,2,none⟩=some (.int .i64 K0)∧w'.cell? ⟨w.heap.size+1,3,none⟩=some (.int .i64 V0)∧Below W1.heap.size W1 w'∧Wq m w') (by kernel_rfl) ?_ (fun hS=>?_)
 ·exact⟨c1,c2,c3,(Below.refl _ _).drew,xn.out⟩
 try dsimp only at hS
 refine tkY 0 ?_ rfl hS ?_ ?_;rotate_left
 ·intro wz a8;obtain⟨dD,bg,kk,nF,jW⟩:=a8;go_simp;all_goals with_reducible rfl
 iterate 3 ((try simp only[Act.put,pu]);refine tkM ?_ rfl hS ?_ ?_;rotate_left;(·intro wz a8;obtain⟨dD,bg,kk,nF,jW⟩:=a8;go_simp;all_goals with_reducible rfl))
 (try simp only[Act.put,pu]);refine tkY 5 ?_ rfl hS ?_ ?_;rotate_left
 ·intro wz a8;obtain⟨dD,bg,kk,nF,jW⟩:=a8;go_simp;all_goals with_reducible rfl
 (try simp only[Act.put,pu]);refine tkY 6 ?_ rfl hS ?_ ?_;rotate_left
 ·intro wz a8;obtain⟨dD,bg,kk,nF,jW⟩:=a8;go_simp;all_goals with_reducible rfl
 try simp only[Act.put,pu]
 refine wpAnyH_ready (rs:=[4]) (by kernel_rfl) (by simp) (AllReadyH.cons rfl (fun K hK=>?_) AllReadyH.nil)
 go_simp
 (go_at_call 94;refine(HI.out _ hS.2.2.2.2).mono ?_;rintro e w2 ⟨rfl,hb⟩)
 refine hK.out _ _ ?_ (fun aF=>?_)
 ·exact Kf hS hb
 clear hK K hS;have hS:=aF;clear aF
 try dsimp only at hS
 try simp only[Act.put,pu]
 refine wpAnyH_ready (rs:=[7]) (by kernel_rfl) (by simp) (AllReadyH.cons rfl (fun K hK=>?_) AllReadyH.nil)
 go_simp
 (go_at_call 94;refine(HJ.out _ hS.2.2.2.2).mono ?_;rintro e w2 ⟨rfl,hb⟩)
 refine hK.out _ _ ?_ (fun aF=>?_)
 ·exact Kf hS hb
 clear hK K hS;have hS:=aF;clear aF
 try dsimp only at hS
 try simp only[Act.put,pu]
 refine wpAnyH_ready (rs:=[8]) (by kernel_rfl) (by simp) (AllReadyH.cons rfl (fun K hK=>?_) AllReadyH.nil)
 go_simp
 skip
 refine hK.out _ _ ?_ (fun aF=>?_)
 ·exact Kf hS ((Below.refl _ _).alloc (Nat.le_refl _) _)
 clear hK K hS;have hS:=aF;clear aF
 try dsimp only at hS
 try simp only[Act.put,pu]
 refine wpAnyH_ready (rs:=[9]) (by kernel_rfl) (by simp) (AllReadyH.cons rfl (fun K hK=>?_) AllReadyH.nil)
 go_simp
 (go_at_call 93;refine(Zb _ T (bb (Lib.itoa K0)) (bb (Lib.itoa V0)) _ (Blk.new _ _ _)).mono ?_;rintro e w4 ⟨p,o,cap,rfl,h4,eM,km,AN,hb⟩;have AO:=hS.2.2.2.1.size)
 refine hK.out _ _ ?_ (fun aF=>?_)
 ·exact Kf hS hb
 clear hK K hS;have hS:=aF;clear aF
 try dsimp only at hS
 (try simp only[Act.put,pu]);refine tkY 10 ?_ rfl hS ?_ ?_;rotate_left
 ·intro wz a8;obtain⟨dD,bg,kk,nF,jW⟩:=a8;go_simp;all_goals with_reducible rfl
 try simp only[Act.put,pu]
 refine wpAnyH_done (by kernel_rfl) ?_ _
 have tR:=oo.out.below hS.2.2.2.1 (Blk.lt oo.out);have cf:w4.cell? ⟨w.heap.size,2,none⟩=some (.string ft):=tR.cell 2;have nc:=qid (aX.out.trans (hS.2.2.2.1.mono aX.out.size));have Cy:=qid (dV.out p o cap w4 h4 eM km w.heap.size (by have:=aX.out.size;first|omega|(simp at AN AO;omega)))
 clear tR h4 eM km AN AO hS;go_wp2_with (go_at_call 95;(refine Cy.out.mono ?_);rintro e w5 ⟨rfl,bh⟩;have cZ:=qid bh;clear bh);go_ret;exact⟨rfl,nc.out.trans cZ.out⟩
def kwL(s:ByteArray):List Tok:=[(1,⟨#[102,114,111,109]⟩,0),(1,s,0)]
theorem S7(s:ByteArray):li (kwL s) 1= !kwB s:=by
 show((1:Int)==2||(1:Int)==1&& !Is.contains s.toList)=_
 unfold kwB;rw[Lib.toList_data];rfl
theorem S8(s:ByteArray)(i:Nat)(h:2≤i):(kwL s)[i]? =none:=List.getElem?_eq_none (by simpa[kwL]using h)
theorem NN(s:ByteArray)(i:Nat)(h:2≤i):li (kwL s) i=false:=by unfold li;rw[S8 s i h]
theorem OE(s:ByteArray)(k:Int)(ss:List Tx)(i:Nat)(h:2≤i):bi k ss (kwL s) i=false:=by unfold bi;rw[S8 s i h]
theorem UJ(s:ByteArray)(i:Nat)(h:2≤i):Hc (kwL s) i=[]:=by
 have hs:fd (kwL s) i=i:=by unfold fd;rw[OE s 1 _ i h];rfl
 rw[Jt,hs,if_pos];unfold bY;rw[NN s i h,if_pos rfl]
theorem qbx(s:ByteArray)(ss:List Tx):bi 1 ss (kwL s) 1=ss.contains s.data.toList:=by
 show((1:Int)==1&&ss.contains s.toList)=_;rw[Lib.toList_data];rfl
theorem Zk(s:ByteArray)(ss:List Tx)(h:ss.all (fun x=>Is.contains x)=true)(hk:kwB s=false):ss.contains s.data.toList=false:=by
 cases hc:ss.contains s.data.toList with
 |false=>rfl
 |true=>
  have:=List.all_eq_true.1 h _ (List.contains_iff_mem.1 hc);unfold kwB at hk;rw[this]at hk;cases hk
theorem Zl(s:ByteArray):Hc (kwL s) 1=if kwB s=true then []else [(s.data.toList,1)]:=by
 rw[Jt]
 by_cases hk:kwB s=true
 ·rw[if_pos hk,if_pos]
  have hp:li (kwL s) 1=false:=by rw[S7,hk];rfl
  by_cases h1:bi 1 [JJ,Fd] (kwL s) 1=true
  ·have hs:fd (kwL s) 1=2:=by unfold fd;rw[if_pos h1]
   rw[hs];unfold bY;rw[NN s 2 (by omega),if_pos rfl]
  ·have hs:fd (kwL s) 1=1:=by unfold fd;rw[if_neg h1]
   rw[hs];unfold bY;rw[hp,if_pos rfl]
 ·have bK:kwB s=false:=by simpa using hk
  have hp:li (kwL s) 1=true:=by rw[S7,bK];rfl
  have hs:fd (kwL s) 1=1:=by
   unfold fd;rw[qbx,Zk s _ (by decide) bK,if_neg (by decide)]
  have hn:bY (kwL s) 1=1:=by
   unfold bY;rw[hp,if_neg (by decide),OE s 5 _ 2 (by omega)];rfl
  have hx:rt (kwL s) 1=s.data.toList:=by
   unfold rt;rw[hn,if_neg (by decide)]
   show s.toList=_;rw[Lib.toList_data]
  rw[if_neg hk,hs,hn,if_neg (by decide),hx]
  have hc:rd (kwL s) (Fn (kwL s) (1+1))=false:=by
   unfold rd;exact OE s 5 _ _ (Js (kwL s) 2).1
  rw[hc,if_neg (by decide)]
theorem Ms(s:ByteArray):JK (kwL s)=if kwB s=true then []else [s.data.toList]:=by
 have h0:ci (kwL s) 0=if kwB s=true then []else [s.data.toList]:=by
  unfold ci;have:Iq (kwL s) 0=true:=by
   unfold Iq;have e1:bi 1 [KO] (kwL s) 0=true:=by kernel_rfl
   rw[e1];simp
  rw[this,if_pos rfl,Zl]
  by_cases hk:kwB s=true
  ·rw[if_pos hk,if_pos hk];rfl
  ·rw[if_neg hk,if_neg hk];rfl
 have h1:ci (kwL s) 1=[]:=by
  unfold ci;rw[UJ s (1+1) (by omega)]
  split<;>rfl
 show Gw ((([]:List Tx)++ci (kwL s) 0)++ci (kwL s) 1)=_;rw[h0,h1]
 by_cases hk:kwB s=true
 ·rw[if_pos hk];rfl
 ·rw[if_neg hk];rfl
theorem UK{w:World}{B z n:Nat}{e:TypeId}{v:Value}{xs:List Value}(h:w.ownsRow B e z v n xs):∃a m c,v=.slice a m c∧m=n:=by
 rcases h.2 with⟨rfl,h0⟩|⟨g,cap,cur,rfl,_⟩
 ·exact⟨_,_,_,rfl,h0.symm⟩
 ·exact⟨_,_,_,rfl,rfl⟩
theorem qby(s:ByteArray)(w:World)(hs:s.size≤1000000000):
  Calls Tryz.prog 181 #[.string s] w fun e w'=>e=.returned (.bool (kwB s))∧Below w.heap.size w w':=by
 have cr:(w.alloc (.cells #[.int .i64 1,.string ⟨#[102,114,111,109]⟩,.int .i64 0,.int .i64 1,.string s,.int .i64 0] 120)).heap[w.heap.size]? =some (.cells (sm (kwL s)).toArray 120 (0,0)):=by
  show(w.heap.push _)[w.heap.size]? =_;rw[Array.getElem?_push_size]
  rfl
 have AP:=TR.block cr;have HR:=qid (UH _ (kwL s) _ AP (by simp[kwL]) (by
  intro t ht;simp only[kwL,List.mem_cons,List.not_mem_nil,or_false]at ht;rcases ht with rfl|rfl
  ·show(⟨#[102,114,111,109]⟩:ByteArray).size≤_;decide
  ·exact hs))
 have HB:=qid ((Below.refl w.heap.size w).alloc (Nat.le_refl _) (.cells #[.int .i64 1,.string ⟨#[102,114,111,109]⟩,.int .i64 0,.int .i64 1,.string s,.int .i64 0] 120));have j3:=Ms s;obtain⟨Q,hQ⟩:∃Q,kwB s=Q:=⟨_,rfl⟩;rw[hQ]at j3⊢;have xo:=qid j3;clear cr AP j3 hs;go_enter Tryz.func181,Tryz.ntmps181;go_wp2_with (go_at_call 205;(refine HR.out.mono ?_);rintro e w2 ⟨v2,rfl,ho,hb⟩;rw[xo.out]at ho;have aL:=qid (HB.out.trans (hb.mono HB.out.size));clear hb;obtain⟨a2,n2,c2,rfl,iP⟩:=UK ho;have gG:decide ((n2:Int)=0)=Q:=(by rw[iP];cases Q<;>rfl);have js:((n2:Int)==0)=Q:=(by rw[iP];cases Q<;>rfl);clear ho iP)
 go_ret;exact⟨rfl,aL.out⟩
theorem UL(w:World):Calls Tryz.prog 183 #[.string ⟨#[]⟩,.string ⟨#[48,49,50,51,52,53,54,55,56,57]⟩] w fun e w'=>e=.returned (.string ⟨#[]⟩)∧w'=w:=by
 go_enter Tryz.func183,Tryz.ntmps183;go_wp2;go_ret;exact⟨rfl,rfl⟩
theorem UM(m:Int)(w:World)(h:Wq m w):Calls Tryz.prog 184 #[.string ⟨#[]⟩] w fun e w'=>(∃te pe,e=.returned (.tuple #[.int .i64 0,.iface te pe]))∧Below w.heap.size w w':=by
 obtain⟨ev,h1,h2⟩:=h.err;exact(Tryz.strconv_Atoi_err ⟨#[]⟩ (by decide) rfl ev w h1 h2).mono fun e w' ⟨N,he,_,_,hb⟩=>⟨⟨_,_,he⟩,hb⟩
def UN(t:Tok)(w:World)(e:Ending)(w':World):Prop:=∃n:Int,e=.returned (.tuple #[.int .i64 n,.bool (Kr t).isSome])∧(∀k,Kr t=some k→n=(k:Int))∧Below w.heap.size w w'
theorem KT(t:Tok)(h:t.1≠4∨6<t.2.1.size∨t.2.1.size=0∨t.2.1.data.toList.all a9=false):Kr t=none:=by
 unfold Kr;refine if_neg fun hh=>?_
 obtain⟨h1,h2,h3,h4⟩:=hh;rcases h with h|h|h|h
 ·exact h h1
 ·omega
 ·exact h3 h
 ·rw[h]at h4;cases h4
theorem Mt(t:Tok)(m:Int)(w:World)(hw:Wq m w):Calls Tryz.prog 136 #[tkV t] w (UN t w):=by
 obtain⟨k,s,p⟩:=t;have HB:=qid ((Below.refl w.heap.size w).alloc (Nat.le_refl _) (.cells #[.int .i64 k,.string s,.int .i64 p] 120));have j4:=qid (hw.below HB.out)
 by_cases h4:k=4
 ·subst h4
  by_cases h6:6<s.size
  ·have hn:=KT (4,s,p) (.inr (.inl h6))
   have l6:(6:Int)<(s.size:Int):=by omega
   unfold UN;rw[hn];clear hn h6 hw;go_enter Tryz.func136,Tryz.ntmps136;go_wp2
   go_ret2
   exact⟨_,rfl,(fun k h=>by cases h),HB.out⟩
  ·have l6:¬((6:Int)<(s.size:Int)):=by omega
   by_cases h0:s.size=0
   ·have hs:s=⟨#[]⟩:=Mj s h0
    have hn:=KT (4,s,p) (.inr (.inr (.inl h0)));subst hs;unfold UN;rw[hn];have HT:=qid (UL (w.alloc (.cells #[.int .i64 4,.string ⟨#[]⟩,.int .i64 p] 120)));have HA:=qid (UM m _ j4.out);clear hn hw h0 h6 l6;go_enter Tryz.func136,Tryz.ntmps136;go_wp2_with (first
     |(go_at_call 183;(refine HT.out.mono ?_);rintro e w2 ⟨rfl,iO⟩;obtain rfl:=iO)
     |(go_at_call 184;(refine HA.out.mono ?_);rintro e w3 ⟨⟨te,pe,rfl⟩,aG⟩;have aO:=qid (HB.out.trans (aG.mono HB.out.size));clear aG))
    go_quiet (fail)
    go_wp2
    go_ret2
    exact⟨_,rfl,(fun k h=>by cases h),aO.out.trans (el _ _ _)⟩
   ·have xp:0<s.size:=by omega
    cases ha:s.data.toList.all a9 with
    |false=>
     have hn:=KT (4,s,p) (.inr (.inr (.inr ha)));unfold UN;rw[hn];have HT:=qid (Zd s (w.alloc (.cells #[.int .i64 4,.string s,.int .i64 p] 120)) (by omega) xp ha)
     clear hn hw h0 h6 ha;go_enter Tryz.func136,Tryz.ntmps136;go_wp2_with (go_at_call 183;(refine HT.out.mono ?_);rintro e w2 ⟨t2,rfl,fK,aA⟩;have lg:(!(t2.toList.isEmpty))=true:=(by rw[fK];rfl);have aL:=qid (HB.out.trans (aA.mono HB.out.size));clear aA)
     go_ret2
     exact⟨_,rfl,(fun k h=>by cases h),aL.out⟩
    |true=>
     have hn:Kr (4,s,p)=some (L5 s.data.toList):=if_pos ⟨rfl,by show s.size≤6;omega,h0,ha⟩
     unfold UN;rw[hn];have HT:=qid (WE s (w.alloc (.cells #[.int .i64 4,.string s,.int .i64 p] 120)) (by omega) xp ha)
     have HA:=qid (fun W=>WF s W xp (by omega) ha)
     generalize L5 s.data.toList=q at*
     clear hn hw h0 h6 ha;go_enter Tryz.func136,Tryz.ntmps136;go_wp2_with (first
      |(go_at_call 183;(refine HT.out.mono ?_);rintro e w2 ⟨rfl,aA⟩;have c1:w2.cell? ⟨w.heap.size,1,none⟩=some (.string s):=(aA.cell (p:=⟨w.heap.size,1,none⟩) (by simp)).trans (by rw[World.cell?_alloc_new];rfl);have aL:=qid (HB.out.trans (aA.mono HB.out.size));clear aA)
      |(go_at_call 184;(refine(HA.out _).mono ?_);rintro e w3 ⟨rfl,aG⟩;have aO:=qid (aL.out.trans (aG.mono aL.out.size));clear aG))
     go_quiet (fail)
     go_wp2
     go_ret2
     exact⟨_,rfl,(fun k h=>by injection h with h;rw[h]),aO.out.trans (el _ _ _)⟩
 ·have hn:=KT (k,s,p) (.inl h4)
  have l4:(k != 4)=true:=by rw[bne_iff_ne];exact h4
  unfold UN;rw[hn];clear hn h4 hw;go_enter Tryz.func136,Tryz.ntmps136;go_wp2
  go_ret2
  exact⟨_,rfl,(fun k h=>by cases h),HB.out⟩
theorem WN(s:ByteArray)(m:Int)(w:World)(hw:Wq m w):
  Calls Tryz.prog 180 #[.string s] w fun e w'=>e=.returned (.bool (Kv s))∧Below w.heap.size w w':=by
 have HS:=qid (Nn s _ rfl m w hw.wd);have hq:Kv s=match(io s).1 with| [t]=>t.1==1&&t.2.1.data.toList==s.data.toList|_=>false:=rfl
 generalize (io s)=r at*
 obtain⟨l,er,at_⟩:=r;simp only at HS hq;rw[hq];clear hq hw
 match l,HS with
 | [],HS=>
   go_enter Tryz.func180,Tryz.ntmps180;go_wp2_with (go_at_call 72;(refine HS.out.mono ?_);rintro e w2 ⟨v,rfl,hT,hb⟩;have HB:=qid hb;clear hb;obtain⟨a,cap,rfl⟩:=hT.form;clear hT);go_ret;exact⟨rfl,HB.out⟩
 | [t],HS=>
   obtain⟨k,u,p⟩:=t;obtain⟨Q,hQ⟩:∃Q,((k==1)&&u.data.toList==s.data.toList)=Q:=⟨_,rfl⟩;simp only;rw[hQ];go_enter Tryz.func180,Tryz.ntmps180;go_wp2_with (go_at_call 72;(refine HS.out.mono ?_);rintro e w2 ⟨v,rfl,hT,hb⟩;have HB:=qid hb;clear hb;obtain⟨g,off,cap,rfl,bn,hx⟩:=hT.inv 1 rfl (by omega);have j5:=hx 0 _ rfl;rw[Nat.zero_mul,Nat.add_zero]at j5;obtain⟨x0,x1,x2⟩:=j5;have cL:(0:Int)<(cap:Int):=(by omega);clear hT hx)
   all_goals
    go_ret;refine⟨?_,HB.out⟩;rw[←hQ];simp[*,Lib.toList_data]
 |t::u::l2,HS=>
  have hn:((t::u::l2).length:Int)≠1:=by simp;omega
  go_enter Tryz.func180,Tryz.ntmps180;go_wp2_with (go_at_call 72;(refine HS.out.mono ?_);rintro e w2 ⟨v,rfl,hT,hb⟩;have HB:=qid hb;clear hb;obtain⟨a,cap,rfl⟩:=hT.form;clear hT;obtain⟨z,hz⟩:∃z,(t::u::l2).length=z:=⟨_,rfl⟩;rw[hz];rw[hz]at hn;have iP:decide ((z:Int)=1)=false:=(by rw[decide_eq_false_iff_not];exact hn);have A7:((z:Int)==1)=false:=(by rw[beq_eq_false_iff_ne];exact hn);clear hz)
  go_ret;exact⟨rfl,HB.out⟩
def NO:List ByteArray:=[⟨#[105,110,115,101,114,116]⟩,⟨#[117,112,100,97,116,101]⟩,⟨#[100,101,108,101,116,101]⟩,⟨#[109,101,114,103,101]⟩]
theorem WO(s:ByteArray):Lib.containsS (NO.take 4) s=IB.contains s.data.toList:=by
 have h:=qcq NO s;rw[show NO.length=4 from rfl]at h;rw[h,Lib.toList_data];have e:NO.map (·.toList)=IB:=by
  simp only[NO,IB,List.map_cons,List.map_nil,Lib.toList_data]
 rw[e]
theorem Zm(t:Tok)(m:Int)(w:World)(hw:Wq m w):
  Calls Tryz.prog 135 #[tkV t] w fun e w'=>e=.returned (.bool (Wi t))∧Below w.heap.size w w':=by
 obtain⟨k,s,p⟩:=t;have HB:=qid ((Below.refl w.heap.size w).alloc (Nat.le_refl _) (.cells #[.int .i64 k,.string s,.int .i64 p] 120));have j4:=qid (hw.below HB.out);have AQ:(w.alloc (.cells #[.int .i64 k,.string s,.int .i64 p] 120)).cell? ⟨w.heap.size,1,none⟩=some (.string s):=by rw[World.cell?_alloc_new];rfl
 have AR:=qid AQ;clear hw AQ;show Calls Tryz.prog 135 #[tkV (k,s,p)] w fun e w'=>e=.returned (.bool (k==1&&(decide (s.size≤30)&&Kv s&& !kwB s&& !IB.contains s.data.toList)))∧Below w.heap.size w w'
 by_cases hk:k=1
 ·subst hk
  by_cases eX:s.size≤30
  ·rw[decide_eq_true eX]
   have pj:¬((30:Int)<(s.size:Int)):=by omega
   have HS:=qid (WN s m _ j4.out)
   cases hq:Kv s with
   |false=>
    rw[hq]at HS;clear eX hq;go_enter Tryz.func135,Tryz.ntmps135;go_wp2_with (go_at_call 180;(refine HS.out.mono ?_);rintro e w2 ⟨rfl,hb⟩;have aL:=qid (HB.out.trans (hb.mono HB.out.size));clear hb);go_ret;exact⟨rfl,aL.out⟩
   |true=>
    rw[hq]at HS;have HK:=qid (fun W=>qby s W (by omega))
    cases we:kwB s with
    |true=>
     rw[we]at HK;clear eX hq we;go_enter Tryz.func135,Tryz.ntmps135;go_wp2_with (first
      |(go_at_call 180;(refine HS.out.mono ?_);rintro e w2 ⟨rfl,hb⟩;have c1:w2.cell? ⟨w.heap.size,1,none⟩=some (.string s):=(hb.cell (p:=⟨w.heap.size,1,none⟩) (by simp)).trans AR.out;have aL:=qid (HB.out.trans (hb.mono HB.out.size));clear hb)
      |(go_at_call 181;(refine(HK.out _).mono ?_);rintro e w3 ⟨rfl,hb⟩;have aO:=qid (aL.out.trans (hb.mono aL.out.size));clear hb))
     go_ret;exact⟨rfl,aO.out⟩
    |false=>
     rw[we]at HK;have HF:=qid (fun b W hc=>(Tryz.slices_Contains_string b 0 4 4 NO s W (by decide) (by omega) hc))
     simp only[WO]at HF;obtain⟨Q,hQ⟩:∃Q,IB.contains s.data.toList=Q:=⟨_,rfl⟩;rw[hQ]at HF⊢;clear eX hq we hQ;go_enter Tryz.func135,Tryz.ntmps135;go_wp2_with (first
      |(go_at_call 180;(refine HS.out.mono ?_);rintro e w2 ⟨rfl,hb⟩;have c1:w2.cell? ⟨w.heap.size,1,none⟩=some (.string s):=(hb.cell (p:=⟨w.heap.size,1,none⟩) (by simp)).trans AR.out;have aL:=qid (HB.out.trans (hb.mono HB.out.size));have gy:w.heap.size<w2.heap.size:=(Nat.lt_of_lt_of_le (by simp) hb.size);clear hb)
      |(go_at_call 181;(refine(HK.out _).mono ?_);rintro e w3 ⟨rfl,hb⟩;have wg:w.heap.size<w3.heap.size:=(Nat.lt_of_lt_of_le gy hb.size);have c2:∀o,(w3.alloc o).cell? ⟨w.heap.size,1,none⟩=some (.string s):=(fun o=>(World.cell?_of_block (a:=⟨w.heap.size,1,none⟩) (Below.heap_alloc w3 o w.heap.size wg)).trans ((hb.cell (p:=⟨w.heap.size,1,none⟩) gy).trans c1));have aO:=qid (aL.out.trans (hb.mono aL.out.size));clear hb)
      |(go_at_call 182;(refine(HF.out w3.heap.size _ (by
        intro j hj;rw[Nat.zero_add,World.cell?_alloc_new];have wh:j<4:=hj
        match j,wh with
        |0,_=>rfl
        |1,_=>rfl
        |2,_=>rfl
        |3,_=>rfl)).mono ?_);rintro e w4 ⟨rfl,Cz⟩;obtain rfl:=Cz))
     go_ret;exact⟨by simp,aO.out.alloc aO.out.size _⟩
  ·rw[decide_eq_false eX]
   have pj:(30:Int)<(s.size:Int):=by omega
   clear eX;go_enter Tryz.func135,Tryz.ntmps135;go_wp2;go_ret;exact⟨rfl,HB.out⟩
 ·have l1:(k != 1)=true:=by rw[bne_iff_ne];exact hk
  have l2:(k==1)=false:=by rw[beq_eq_false_iff_ne];exact hk
  rw[l2];clear hk;go_enter Tryz.func135,Tryz.ntmps135;go_wp2;go_ret;exact⟨rfl,HB.out⟩
abbrev go(c:Cm):Array Value:=#[.int .i64 c.1,.string c.2.1,.int .i64 c.2.2.1,.int .i64 c.2.2.2.1,.bool c.2.2.2.2]
def PF(c:Cm)(p t:Tok)(g:Nat)(w:World)(e:Ending)(w':World):Prop:=e=.returned (.bool (AS c p t).2)∧∃c',Blk w' g 34 (go c')∧((AS c p t).2=true→c'=(AS c p t).1)∧But [g] w w'
theorem NP{g n:Nat}{s:ByteArray}{k p:Int}{W w w':World}(hS:w.cell? ⟨n,0,none⟩=some (.int .i64 k)∧w.cell? ⟨n,1,none⟩=some (.string s)∧w.cell? ⟨n,2,none⟩=some (.int .i64 p)∧But [g] W w)(b:Below w.heap.size w w'):
  w'.cell? ⟨n,0,none⟩=some (.int .i64 k)∧w'.cell? ⟨n,1,none⟩=some (.string s)∧w'.cell? ⟨n,2,none⟩=some (.int .i64 p)∧But [g] W w':=by
 obtain⟨h1,h2,h3,h4⟩:=hS;have hl:n<w.heap.size:=World.block_lt_of_cell? w _ h1;exact⟨(b.cell (p:=⟨n,0,none⟩) hl).trans h1,(b.cell (p:=⟨n,1,none⟩) hl).trans h2,(b.cell (p:=⟨n,2,none⟩) hl).trans h3,h4.trans ⟨b.os,b.tape,b.output,b.size,fun k hk _=>b.block k hk⟩ (fun x hx=>hx) (fun x hx _=>hx)⟩
theorem WP(g:Nat)(c:Cm)(q t:Tok)(m:Int)(w:World)(hw:Wq m w)(h:Blk w g 34 (go c))(hs:t.2.1.size≤1048576):
  Calls Tryz.prog 97 #[nP g,tkV q,tkV t] w (PF c q t g w):=by
 obtain⟨qk,qs,qp⟩:=q;obtain⟨k,s,p⟩:=t;obtain⟨c0,c1,c2,c3,c4⟩:=c;have eA:Hid (s.size≤1048576):=qid hs;have aD:=h.lt;obtain⟨W1,cF⟩:∃W1,(w.alloc (.cells #[.int .i64 qk,.string qs,.int .i64 qp] 120)).alloc (.cells #[.int .i64 k,.string s,.int .i64 p] 120)=W1:=⟨_,rfl⟩;have hQ:Blk W1 w.heap.size 120 #[.int .i64 qk,.string qs,.int .i64 qp]:=by rw[←cF];exact(Blk.new _ _ _).alloc _
 have hT:Blk W1 (w.heap.size+1) 120 #[.int .i64 k,.string s,.int .i64 p]:=by rw[←cF];exact Blk.newAt _ _ _ _ (by simp)
 have hG:Blk W1 g 34 (go (c0,c1,c2,c3,c4)):=by rw[←cF];exact(h.alloc _).alloc _
 have aU:Below w.heap.size w W1:=by rw[←cF];exact((Below.refl _ _).alloc (Nat.le_refl _) _).alloc (by simp) _
 have gH:But [g] w W1:=by rw[←cF];exact((But.refl _ _).alloc _).alloc _
 have j4:=qid (hw.below aU);have q1:W1.cell? ⟨w.heap.size,1,none⟩=some (.string qs):=hQ.cell 1;have q0:W1.cell? ⟨w.heap.size,0,none⟩=some (.int .i64 qk):=hQ.cell 0;have x0:W1.cell? ⟨w.heap.size+1,0,none⟩=some (.int .i64 k):=hT.cell 0;have x1:W1.cell? ⟨w.heap.size+1,1,none⟩=some (.string s):=hT.cell 1;have x2:W1.cell? ⟨w.heap.size+1,2,none⟩=some (.int .i64 p):=hT.cell 2;obtain⟨aX,HG⟩:=hZ2 gH hG;have ng:w.heap.size+1≠g:=by omega
 clear h hw hs aD hQ hT hG aU gH
 by_cases h1:qs.data.toList=[36,49]
 ·have e1:qs=⟨#[36,49]⟩:=by apply ByteArray.ext;exact Array.ext' h1
  subst e1;have fA:AS (c0,c1,c2,c3,c4) (qk,⟨#[36,49]⟩,qp) (k,s,p)=((c0,s,c2,c3,c4),Wi (k,s,p)):=rfl;unfold PF;rw[fA];have D3:∀(W:World) (u:ByteArray),W.cell? ⟨w.heap.size+1,0,none⟩=some (.int .i64 k)→W.cell? ⟨w.heap.size+1,1,none⟩=some (.string s)→W.cell? ⟨w.heap.size+1,2,none⟩=some (.int .i64 p)→(W.setCell ⟨g,1,none⟩ (.string u)).cell? ⟨w.heap.size+1,0,none⟩=some (.int .i64 k)∧(W.setCell ⟨g,1,none⟩ (.string u)).cell? ⟨w.heap.size+1,1,none⟩=some (.string s)∧(W.setCell ⟨g,1,none⟩ (.string u)).cell? ⟨w.heap.size+1,2,none⟩=some (.int .i64 p):=by
   intro W u y0 y1 y2;have hn:∀i j:Nat,(⟨g,i,none⟩:Addr)≠⟨w.heap.size+1,j,none⟩:=fun i j e=>ng (by injection e with e _ _;exact e.symm)
   exact⟨(World.cell?_setCell_other _ _ _ _ (hn 1 0)).trans y0,(World.cell?_setCell_other _ _ _ _ (hn 1 1)).trans y1,(World.cell?_setCell_other _ _ _ _ (hn 1 2)).trans y2⟩
  have xn:Hid (Wq m W1.drew):=qid (j4.out.below ((Below.refl _ _).drew));have wo:Blk W1.drew g 34 (go (c0,c1,c2,c3,c4)):=HG.out;clear h1 fA;go_enter Tryz.func97,Tryz.ntmps97;go_wp2;refine wp_region_held_drew (S:=fun w'=>w'.cell? ⟨w.heap.size+1,0,none⟩=some (.int .i64 k)∧w'.cell? ⟨w.heap.size+1,1,none⟩=some (.string s)∧w'.cell? ⟨w.heap.size+1,2,none⟩=some (.int .i64 p)∧But [g] W1 w') (by kernel_rfl) ?_ (fun hS=>?_)
  ·exact⟨x0,x1,x2,(But.refl [g] W1).drewN 1⟩
  try dsimp only at hS
  refine tkY 0 ?_ rfl hS ?_ ?_;rotate_left
  ·intro wz a8;obtain⟨dD,bg,kk,nF⟩:=a8;go_simp;all_goals with_reducible rfl
  iterate 2 ((try simp only[Act.put,pu]);refine tkM ?_ rfl hS ?_ ?_;rotate_left;(·intro wz a8;obtain⟨dD,bg,kk,nF⟩:=a8;go_simp;all_goals with_reducible rfl))
  (try simp only[Act.put,pu]);refine tkY 4 ?_ rfl hS ?_ ?_;rotate_left
  ·intro wz a8;obtain⟨dD,bg,kk,nF⟩:=a8;go_simp;all_goals with_reducible rfl
  try simp only[Act.put,pu]
  refine wpAnyH_ready (rs:=[3]) (by kernel_rfl) (by simp) (AllReadyH.cons rfl (fun K hK=>?_) AllReadyH.nil)
  go_simp
  (go_at_call 48;refine(Hp s _ (Nat.le_trans eA.out (by decide))).mono ?_;rintro e w2 ⟨rfl,hb⟩)
  have po:=hb;have oq:=qid (xn.out.below hb);refine hK.out _ _ ?_ (fun aF=>?_)
  ·exact NP hS hb
  clear hK K hS;have hS:=aF;clear aF
  try dsimp only at hS
  try simp only[Act.put,pu]
  refine wpAnyH_ready (rs:=[5]) (by kernel_rfl) (by simp) (AllReadyH.cons rfl (fun K hK=>?_) AllReadyH.nil)
  go_simp
  (go_at_call 135;refine(Zm (k,s,p) m _ oq.out).mono ?_;rintro e w3 ⟨rfl,hb⟩)
  have tS:=hb;refine hK.out _ _ ?_ (fun aF=>?_)
  ·exact NP hS hb
  clear hK K hS;have hS:=aF;clear aF
  try dsimp only at hS
  (try simp only[Act.put,pu]);refine tkY 6 ?_ rfl hS ?_ ?_;rotate_left
  ·intro wz a8;obtain⟨dD,bg,kk,nF⟩:=a8;go_simp;all_goals with_reducible rfl
  (try simp only[Act.put,pu]);refine tkY 7 ?_ rfl hS ?_ ?_;rotate_left
  ·intro wz a8;obtain⟨dD,bg,kk,nF⟩:=a8;go_simp;all_goals with_reducible rfl
  try simp only[Act.put,pu]
  have kM:=Blk.below (wo.below po (Blk.lt wo)) tS (Blk.lt (wo.below po (Blk.lt wo)));have xq:w3.cell? ⟨g,1,none⟩=some (.string c1):=kM.cell 1;have xr:=kM.frozen 1;refine wpAnyH_ready (rs:=[8]) (by kernel_rfl) (by simp) (AllReadyH.cons rfl (fun K hK=>?_) AllReadyH.nil)
  go_simp;obtain⟨W9,nf⟩:∃W9,w3.setCell ⟨g,1,none⟩ (.string s)=W9:=⟨_,rfl⟩;have AU:Blk W9 g 34 (go (c0,s,c2,c3,c4)):=by rw[←nf];exact kM.set_ 1 _
  have AV:But [g] w3 W9:=by rw[←nf];exact(But.refl [g] w3).set _ _ (.inl (by simp))
  have tT:=D3 w3 s hS.1 hS.2.1 hS.2.2.1;rw[nf];rw[nf]at tT;refine hK.out _ _ ?_ (fun aF=>?_)
  ·exact⟨tT.1,tT.2.1,tT.2.2,hS.2.2.2.trans AV (fun x hx=>hx) (fun x hx _=>hx)⟩
  clear hK K hS;have hS:=aF;clear aF
  try dsimp only at hS
  (try simp only[Act.put,pu]);refine tkY 9 ?_ rfl hS ?_ ?_;rotate_left
  ·intro wz a8;obtain⟨dD,bg,kk,nF⟩:=a8;go_simp;all_goals with_reducible rfl
  try simp only[Act.put,pu]
  refine wpAnyH_done (by kernel_rfl) ?_ _
  obtain⟨s',nh⟩:=hZ2 hS.2.2.2 AU;clear hS AU kM xq xr po tS tT AV;go_wp2;go_ret;exact⟨rfl,(c0,s,c2,c3,c4),nh.out,(fun _=>rfl),aX.out.trans s'.out (fun x hx=>hx) (fun x hx _=>hx)⟩
 ·by_cases h2:qs.data.toList=[36,50]
  ·have e1:qs=⟨#[36,50]⟩:=by apply ByteArray.ext;exact Array.ext' h2
   subst e1;have fA:AS (c0,c1,c2,c3,c4) (qk,⟨#[36,50]⟩,qp) (k,s,p)=((c0,c1,(((Kr (k,s,p)).getD 0:Nat):Int),c3,c4),(Kr (k,s,p)).isSome):=rfl;unfold PF;rw[fA];have HN:=qid (Mt (k,s,p) m W1 j4.out);clear h1 h2 fA;go_enter Tryz.func97,Tryz.ntmps97;go_wp2_with (go_at_call 136;(refine HN.out.mono ?_);rintro e w3 ⟨n,rfl,hn,hb⟩;have kM:=HG.out.below hb (Blk.lt HG.out);have xq:w3.cell? ⟨g,2,none⟩=some (.int .i64 c2):=kM.cell 2;have xr:=kM.frozen 2;obtain⟨tU,xt,aO⟩:=hZ3 kM hn hb;clear kM hn hb);go_ret;refine⟨rfl,(c0,c1,n,c3,c4),tU.out.set_ 2 _,fun h=>?_,(aX.out.trans ⟨aO.out.os,aO.out.tape,aO.out.output,aO.out.size,fun k hk _=>aO.out.block k hk⟩ (T:=[g]) (fun x hx=>hx) (fun x hx _=>hx)).set _ _ (.inl (by simp))⟩
   obtain⟨z,hz⟩:=Option.isSome_iff_exists.1 h;rw[xt.out z hz,hz];rfl
  ·by_cases h3:qs.data.toList=[36,51]
   ·have e1:qs=⟨#[36,51]⟩:=by apply ByteArray.ext;exact Array.ext' h3
    subst e1;have fA:AS (c0,c1,c2,c3,c4) (qk,⟨#[36,51]⟩,qp) (k,s,p)=((c0,c1,c2,(((Kr (k,s,p)).getD 0:Nat):Int),c4),(Kr (k,s,p)).isSome):=rfl;unfold PF;rw[fA];have HN:=qid (Mt (k,s,p) m W1 j4.out);clear h1 h2 h3 fA;go_enter Tryz.func97,Tryz.ntmps97;go_wp2_with (go_at_call 136;(refine HN.out.mono ?_);rintro e w3 ⟨n,rfl,hn,hb⟩;have kM:=HG.out.below hb (Blk.lt HG.out);have xq:w3.cell? ⟨g,3,none⟩=some (.int .i64 c3):=kM.cell 3;have xr:=kM.frozen 3;obtain⟨tU,xt,aO⟩:=hZ3 kM hn hb;clear kM hn hb);go_ret;refine⟨rfl,(c0,c1,c2,n,c4),tU.out.set_ 3 _,fun h=>?_,(aX.out.trans ⟨aO.out.os,aO.out.tape,aO.out.output,aO.out.size,fun k hk _=>aO.out.block k hk⟩ (T:=[g]) (fun x hx=>hx) (fun x hx _=>hx)).set _ _ (.inl (by simp))⟩
    obtain⟨z,hz⟩:=Option.isSome_iff_exists.1 h;rw[xt.out z hz,hz];rfl
   ·have fA:AS (c0,c1,c2,c3,c4) (qk,qs,qp) (k,s,p)=((c0,c1,c2,c3,c4),k==qk&&s.data.toList==qs.data.toList):=by
     unfold AS;rw[if_neg h1,if_neg h2,if_neg h3]
    unfold PF;rw[fA];have n1:(qs.toList==[36,49])=false:=by rw[Lib.toList_data,beq_eq_false_iff_ne];exact h1
    have n2:(qs.toList==[36,50])=false:=by rw[Lib.toList_data,beq_eq_false_iff_ne];exact h2
    have n3:(qs.toList==[36,51])=false:=by rw[Lib.toList_data,beq_eq_false_iff_ne];exact h3
    have z1:(⟨#[36,49]⟩:ByteArray).toList=[36,49]:=by rw[Lib.toList_data]
    have z2:(⟨#[36,50]⟩:ByteArray).toList=[36,50]:=by rw[Lib.toList_data]
    have z3:(⟨#[36,51]⟩:ByteArray).toList=[36,51]:=by rw[Lib.toList_data]
    obtain⟨Q,hQ⟩:∃Q,(k==qk&&s.data.toList==qs.data.toList)=Q:=⟨_,rfl⟩;have HQ:=qid hQ;rw[hQ];clear h1 h2 h3 fA hQ;go_enter Tryz.func97,Tryz.ntmps97;go_wp2
    all_goals
     go_ret;refine⟨?_,(c0,c1,c2,c3,c4),HG.out,fun _=>rfl,aX.out⟩
     rw[←HQ.out];simp[*,Lib.toList_data]
def qba(R:Cm×Bool)(w:World)(e:Ending)(w':World):Prop:=e=.returned (.tuple #[cmV R.1,.bool R.2])∧Below w.heap.size w w'
theorem KU{l:List Tok}{i:Nat}(h:i<l.length):l.drop i=l[i]::l.drop (i+1):=List.drop_eq_getElem_cons h
theorem S9{g:Nat}{a b c:World}(h:Below g a b)(k:But [g] b c)(hg:g≤b.heap.size):Below g a c:=h.trans (k.below hg (by simp))
theorem aC{w:World}{r:Nat}(c:Cm)(h:Blk w r 34 (go c)):w.cell? ⟨r,0,none⟩=some (.int .i64 c.1)∧w.cell? ⟨r,1,none⟩=some (.string c.2.1)∧w.cell? ⟨r,2,none⟩=some (.int .i64 c.2.2.1)∧w.cell? ⟨r,3,none⟩=some (.int .i64 c.2.2.2.1)∧w.cell? ⟨r,4,none⟩=some (.bool c.2.2.2.2):=
 ⟨h.cell 0,h.cell 1,h.cell 2,h.cell 3,h.cell 4⟩
theorem OF{w:World}{r:Nat}{c:Cm}(c0:Int)(c1:ByteArray)(c2 c3:Int)(c4:Bool)(h:Blk w r 34 (go c)):
  Blk (((((w.setCell ⟨r,0,none⟩ (.int .i64 c0)).setCell ⟨r,1,none⟩ (.string c1)).setCell ⟨r,2,none⟩ (.int .i64 c2)).setCell ⟨r,3,none⟩ (.int .i64 c3)).setCell ⟨r,4,none⟩ (.bool c4)) r 34 (go (c0,c1,c2,c3,c4)):=
 ((((h.set_ 0 _).set_ 1 _).set_ 2 _).set_ 3 _).set_ 4 _
theorem Mu{B:Nat}{a w:World}{r:Nat}(c0:Int)(c1:ByteArray)(c2 c3:Int)(c4:Bool)(h:Below B a w)(hr:B≤r):
  Below B a (((((w.setCell ⟨r,0,none⟩ (.int .i64 c0)).setCell ⟨r,1,none⟩ (.string c1)).setCell ⟨r,2,none⟩ (.int .i64 c2)).setCell ⟨r,3,none⟩ (.int .i64 c3)).setCell ⟨r,4,none⟩ (.bool c4)):=
 ((((h.setCell (p:=⟨r,0,none⟩) hr _).setCell (p:=⟨r,1,none⟩) hr _).setCell (p:=⟨r,2,none⟩) hr _).setCell (p:=⟨r,3,none⟩) hr _).setCell (p:=⟨r,4,none⟩) hr _
theorem WQ(f:Fm)(ps l:List Tok)(pe:Int×Int)(v:Value)(m:Int)(w:World)(hw:Wq m w)(hT:TR w v l)(hz:∀t∈l,t.2.1.size≤1048576)(ni:io f.2.2=(ps,pe))(hlen:ps.length≤1000):
  Calls Tryz.prog 73 #[fmV f,v] w (qba (IC f l) w):=by
 obtain⟨fk,fb,ft⟩:=f;have AX:rx (fk,fb,ft)=ps:=by unfold rx;rw[ni]
 have hR:IC (fk,fb,ft) l=if l.length=ps.length then m8 (fk,⟨#[]⟩,0,0,fb) ps l else(Lp,false):=by unfold IC;rw[AX]
 rw[hR];obtain⟨R,dP⟩:∃R,(if l.length=ps.length then m8 (fk,⟨#[]⟩,0,0,fb) ps l else(Lp,false))=R:=⟨_,rfl⟩
 rw[dP];have dV:=qid dP;have aU:Below w.heap.size w ((w.alloc (.cells #[.int .i64 fk,.bool fb,.string ft] 102)).alloc (.cells #[.int .i64 0,.string ⟨#[]⟩,.int .i64 0,.int .i64 0,.bool false] 34)):=((Below.refl _ _).alloc (Nat.le_refl _) _).alloc (by simp) _
 obtain⟨W1,cF⟩:∃W1,(w.alloc (.cells #[.int .i64 fk,.bool fb,.string ft] 102)).alloc (.cells #[.int .i64 0,.string ⟨#[]⟩,.int .i64 0,.int .i64 0,.bool false] 34)=W1:=⟨_,rfl⟩;have hF:Blk W1 w.heap.size 102 #[.int .i64 fk,.bool fb,.string ft]:=by rw[←cF];exact(Blk.new _ _ _).alloc _
 have hZ:Blk W1 (w.heap.size+1) 34 (go Lp):=by rw[←cF];exact Blk.newAt _ _ _ _ (by simp)
 rw[cF]at aU;have f2:W1.cell? ⟨w.heap.size,2,none⟩=some (.string ft):=hF.cell 2;have HS:=qid (Nn ft _ ni m W1 (hw.below aU).wd);have j4:=qid (hw.below aU);have nj:=qid (hT.below aU);obtain⟨HF,HZ,aX,D4⟩:=hZ4 hF hZ aU hz;obtain⟨a,cap,rfl⟩:=hT.form;clear hw hT hz ni AX hR hF hZ aU dP
 by_cases eY:l.length=ps.length
 ·have dC:=dV.out
  rw[if_pos eY]at dC;have ne:((l.length:Int) != (ps.length:Int))=false:=by rw[bne_eq_false_iff_eq];omega
  obtain⟨iR,cM⟩:=hZ2 eY dC;clear eY dC;go_enter Tryz.func73,Tryz.ntmps73;go_wp2_with (go_at_call 72;(refine HS.out.mono ?_);rintro e w2 ⟨v2,rfl,lI,hb⟩;have nG:=qid lI;have iT:=HF.out.below hb (Blk.lt HF.out);have bg:=HZ.out.below hb (Blk.lt HZ.out);obtain⟨pq,jX⟩:=hZ2 iT bg;have aL:=qid (aX.out.trans (hb.mono aX.out.size));have oq:=qid (j4.out.below hb);have tV:=qid (nj.out.below hb);obtain⟨a2,kh,rfl⟩:=lI.form;have g0:w2.cell? ⟨w.heap.size,0,none⟩=some (.int .i64 fk):=iT.cell 0;have g1:w2.cell? ⟨w.heap.size,1,none⟩=some (.bool fb):=iT.cell 1;obtain⟨z0,z1,z2,z3,z4⟩:=aC Lp bg;have tW:=bg.frozen 0;have tX:=bg.frozen 1;have tY:=bg.frozen 2;have tZ:=bg.frozen 3;have td:=bg.frozen 4;clear lI hb iT bg);obtain⟨g,hg⟩:∃g,w2.heap.size=g:=⟨_,rfl⟩;obtain⟨W3,fL⟩:∃W3,w2.alloc (.cells #[.int .i64 fk,.string ⟨#[]⟩,.int .i64 0,.int .i64 0,.bool fb] 34)=W3:=⟨_,rfl⟩;have hC:Blk W3 g 34 (go (fk,⟨#[]⟩,0,0,fb)):=by rw[←fL,←hg];exact Blk.new _ _ _
  have aG:Below g w2 W3:=by rw[←fL,←hg];exact(Below.refl _ _).alloc (Nat.le_refl _) _
  obtain⟨HC,aO,kN⟩:=hZ3 hC aG hg;rw[fL,hg];clear fL hC aG hg g0 g1 z0 z1 z2 z3 z4 tW tX tY tZ td f2 cF
  go_loopg [32] ps.length (fun gk u32 wx=>∃(i:Nat) (c:Cm),u32=.int .i64 (i:Int)∧i+gk=ps.length∧Blk wx g 34 (go c)∧Below g w2 wx∧m8 c (ps.drop i) (l.drop i)=R)
  case atStart=>exact⟨0,_,rfl,by omega,HC.out,aO.out,cM.out⟩
  case round=>
   obtain⟨i,c,rfl,hi,hG,hB,hr⟩:=hrel;have ot:=kN.out;have lW:Below w2.heap.size w2 wr:=by rw[ot];exact hB
   obtain⟨HG,HB⟩:=hZ2 hG hB;have lh:=qid (oq.out.below lW);have iU:=jX.out.below lW (Blk.lt jX.out);have AY:=qid iU;have jY:=qid (nG.out.below lW);have kK:=qid (tV.out.below lW);obtain⟨HR,HI⟩:=hZ2 hr hi;have cx:g<wr.heap.size:=hG.lt;obtain⟨z0,z1,z2,z3,z4⟩:=aC Lp iU;have tW:=iU.frozen 0;have tX:=iU.frozen 1;have tY:=iU.frozen 2;have tZ:=iU.frozen 3;have td:=iU.frozen 4
   cases gk with
   |zero=>
    have l1:¬((i:Int)<(ps.length:Int)):=by omega
    obtain⟨c0,c1,c2,c3,c4⟩:=c;obtain⟨y0,y1,y2,y3,y4⟩:=aC _ hG;clear hG hB hr hi ot lW iU cx;go_wp2;have bP:=OF c0 c1 c2 c3 c4 AY.out;have j6:=Mu c0 c1 c2 c3 c4 (aL.out.trans ((HB.out.mono (by rw[←kN.out];exact aL.out.size)))) (by omega:w.heap.size≤w.heap.size+1)
    obtain⟨k0,k1,k2,k3,k4⟩:=aC _ bP;refine bodyPost_ret (v:=.tuple #[cmV (c0,c1,c2,c3,c4),.bool true]) (by simp[results,Tryz.results73,go_sem,k0,k1,k2,k3,k4]) rfl ?_
    refine⟨?_,j6⟩;have hr:=HR.out;rw[List.drop_of_length_le (by have:=HI.out;omega)]at hr
    rw[←hr];rfl
   |succ gk=>
    have aD:i<ps.length:=by omega
    have dW:i<l.length:=by have:=iR.out;omega
    obtain⟨b1,o1,AZ,nk,tf,ct⟩:=jY.out.inv ps.length rfl (by omega)
    obtain⟨b2,o2,Aa,np,pw,dX⟩:=kK.out.inv l.length rfl (by omega)
    injection nk with th _ ti;injection np with tj _ tl;subst th ti tj tl;obtain⟨p,hp⟩:∃p,ps[i]=p:=⟨_,rfl⟩;obtain⟨t,ht⟩:∃t,l[i]=t:=⟨_,rfl⟩;have dq:t.2.1.size≤1048576:=by rw[←ht];exact D4.out _ (List.getElem_mem dW)
    obtain⟨x0,x1,x2⟩:=ct i p (by rw[List.getElem?_eq_getElem aD,hp])
    obtain⟨y0,y1,y2⟩:=dX i t (by rw[List.getElem?_eq_getElem dW,ht])
    have tm:b2<wr.heap.size:=World.block_lt_of_cell? wr _ y0;have wu:∀(o:Obj) (j:Nat),(wr.alloc o).cell? ⟨b2,j,none⟩=wr.cell? ⟨b2,j,none⟩:=fun o j=>World.cell?_of_block (a:=⟨b2,j,none⟩) (Below.heap_alloc wr o b2 tm)
    have w0:∀o,(wr.alloc o).cell? ⟨b2,o2+i*3,none⟩=some (.int .i64 t.1):=fun o=>(wu o _).trans y0
    have w1:∀o,(wr.alloc o).cell? ⟨b2,o2+i*3+1,none⟩=some (.string t.2.1):=fun o=>(wu o _).trans y1
    have wv:∀o,(wr.alloc o).cell? ⟨b2,o2+i*3+2,none⟩=some (.int .i64 t.2.2):=fun o=>(wu o _).trans y2
    have ch:=hr;rw[KU aD,KU dW,hp,ht,m8]at ch;obtain⟨px,eP⟩:=hZ2 ch dq;have l0:(0:Int)≤(i:Int):=by omega
    have l1:(i:Int)<(ps.length:Int):=by omega
    have l2:(i:Int)<(l.length:Int):=by omega
    obtain⟨i1,aN⟩:∃i1,i+1=i1:=⟨_,rfl⟩;have wk:IntKind.i64.wrap ((i:Int)+1)=(i1:Int):=by rw[show(i:Int)+1=(i1:Int) by omega];exact IntWalk.i64_in _ (by omega)
    have aQ:=qid aN;have xu:Hid (∀W,Wq m W→Blk W g 34 (go c)→Calls Tryz.prog 97 #[nP g,tkV p,tkV t] W fun e w'=>e=.returned (.bool (AS c p t).2)∧∃c',Blk w' g 34 (go c')∧((AS c p t).2=true→c'=(AS c p t).1)∧But [g] W w'):=qid (fun W hW hG=>WP g c p t m W hW hG dq)
    obtain⟨F,hF⟩:∃F,(AS c p t).2=F:=⟨_,rfl⟩;obtain⟨cn,ou⟩:∃cn,(AS c p t).1=cn:=⟨_,rfl⟩;rw[hF,ou]at xu px;obtain⟨pk,pt,pa⟩:=p;obtain⟨tk,tt,ta⟩:=t;clear hF ou hG hB hr ch hi ot lW iU ct dX hp ht dq y0 y1 y2 wu aN tm z0 z1 z2 z3 z4 tW tX tY tZ td
    cases F with
    |true=>
     go_wp2;obtain⟨W4,jZ⟩:∃W4,wr.alloc (.cells #[.int .i64 pk,.string pt,.int .i64 pa] 120)=W4:=⟨_,rfl⟩;have pb:Blk W4 wr.heap.size 120 #[.int .i64 pk,.string pt,.int .i64 pa]:=by rw[←jZ];exact Blk.new _ _ _
     have ai:Below wr.heap.size wr W4:=by rw[←jZ];exact(Below.refl _ _).alloc (Nat.le_refl _) _
     have p0:W4.cell? ⟨wr.heap.size,0,none⟩=some (.int .i64 pk):=pb.cell 0;have p1:W4.cell? ⟨wr.heap.size,1,none⟩=some (.string pt):=pb.cell 1;have p2:W4.cell? ⟨wr.heap.size,2,none⟩=some (.int .i64 pa):=pb.cell 2;have v0:=w0 (.cells #[.int .i64 pk,.string pt,.int .i64 pa] 120);have v1:=w1 (.cells #[.int .i64 pk,.string pt,.int .i64 pa] 120);have v2:=wv (.cells #[.int .i64 pk,.string pt,.int .i64 pa] 120);rw[jZ]at v0 v1 v2⊢;have cH:=qid ai;have j2:=qid (xu.out W4.drew ((lh.out.below ai).below ((Below.refl _ _).drew)) (HG.out.below ai.drew cx));clear jZ pb ai w0 w1 wv
     go_region_with (go_at_call 97;(refine j2.out.mono ?_);rintro e w5 ⟨rfl,c',h5,nr,bh⟩;obtain⟨H5,Ab,cZ⟩:=hZ3 h5 nr bh;clear h5 nr bh)
     all_goals
      have nr:c'=cn:=Ab.out trivial;subst nr;have jt:g≤W4.drew.heap.size:=Nat.le_trans (Nat.le_of_lt cx) cH.out.size;have fX:=qid (S9 ((HB.out.trans (cH.out.mono (Nat.le_of_lt cx))).drew) cZ.out jt);go_wp2;go_roundg gk
      case measure=>exact Nat.lt_succ_self _
      case rel=>exact⟨i1,c',rfl,by have:=HI.out;have:=aQ.out;omega,H5.out,fX.out,by have:=px.out;simp only[if_true]at this;rw[aQ.out]at this;exact this⟩
    |false=>
     go_wp2;obtain⟨W4,jZ⟩:∃W4,wr.alloc (.cells #[.int .i64 pk,.string pt,.int .i64 pa] 120)=W4:=⟨_,rfl⟩;have pb:Blk W4 wr.heap.size 120 #[.int .i64 pk,.string pt,.int .i64 pa]:=by rw[←jZ];exact Blk.new _ _ _
     have ai:Below wr.heap.size wr W4:=by rw[←jZ];exact(Below.refl _ _).alloc (Nat.le_refl _) _
     have p0:W4.cell? ⟨wr.heap.size,0,none⟩=some (.int .i64 pk):=pb.cell 0;have p1:W4.cell? ⟨wr.heap.size,1,none⟩=some (.string pt):=pb.cell 1;have p2:W4.cell? ⟨wr.heap.size,2,none⟩=some (.int .i64 pa):=pb.cell 2;have v0:=w0 (.cells #[.int .i64 pk,.string pt,.int .i64 pa] 120);have v1:=w1 (.cells #[.int .i64 pk,.string pt,.int .i64 pa] 120);have v2:=wv (.cells #[.int .i64 pk,.string pt,.int .i64 pa] 120);rw[jZ]at v0 v1 v2⊢;have cH:=qid ai;have j2:=qid (xu.out W4.drew ((lh.out.below ai).below ((Below.refl _ _).drew)) (HG.out.below ai.drew cx));clear jZ pb ai w0 w1 wv
     go_region_with (go_at_call 97;(refine j2.out.mono ?_);rintro e w5 ⟨rfl,c',h5,nr,bh⟩;obtain⟨H5,Ab,cZ⟩:=hZ3 h5 nr bh;clear h5 nr bh)
     all_goals
      have jt:g≤W4.drew.heap.size:=Nat.le_trans (Nat.le_of_lt cx) cH.out.size;have fX:=S9 ((HB.out.trans (cH.out.mono (Nat.le_of_lt cx))).drew) cZ.out jt;have gn:=kN.out;have jW:=jX.out.below (by rw[gn];exact fX:Below w2.heap.size w2 w5) (Blk.lt jX.out)
      obtain⟨fY,nH⟩:=hZ2 fX jW;obtain⟨z0,z1,z2,z3,z4⟩:=aC Lp jW;have tW:=jW.frozen 0;have tX:=jW.frozen 1;have tY:=jW.frozen 2;have tZ:=jW.frozen 3;have td:=jW.frozen 4;clear fX jW gn jt;go_wp2;have bP:=OF 0 ⟨#[]⟩ 0 0 false nH.out;have j6:=Mu 0 ⟨#[]⟩ 0 0 false (aL.out.trans ((fY.out.mono (by rw[←kN.out];exact aL.out.size)))) (by omega:w.heap.size≤w.heap.size+1)
      obtain⟨k0,k1,k2,k3,k4⟩:=aC _ bP;refine bodyPost_ret (v:=.tuple #[cmV Lp,.bool false]) (by simp[results,Tryz.results73,go_sem,k0,k1,k2,k3,k4,Lp]) rfl ?_
      exact⟨by rw[←px.out];rfl,j6⟩
 ·have dC:=dV.out
  rw[if_neg eY]at dC;have ne:((l.length:Int) != (ps.length:Int))=true:=by rw[bne_iff_ne];omega
  have cM:=qid dC;clear eY dC;go_enter Tryz.func73,Tryz.ntmps73;go_wp2_with (go_at_call 72;(refine HS.out.mono ?_);rintro e w2 ⟨v2,rfl,lI,hb⟩;have nG:=qid lI;have iT:=HF.out.below hb (Blk.lt HF.out);have bg:=HZ.out.below hb (Blk.lt HZ.out);obtain⟨pq,jX⟩:=hZ2 iT bg;have aL:=qid (aX.out.trans (hb.mono aX.out.size));have oq:=qid (j4.out.below hb);have tV:=qid (nj.out.below hb);obtain⟨a2,kh,rfl⟩:=lI.form;have g0:w2.cell? ⟨w.heap.size,0,none⟩=some (.int .i64 fk):=iT.cell 0;have g1:w2.cell? ⟨w.heap.size,1,none⟩=some (.bool fb):=iT.cell 1;obtain⟨z0,z1,z2,z3,z4⟩:=aC Lp bg;have tW:=bg.frozen 0;have tX:=bg.frozen 1;have tY:=bg.frozen 2;have tZ:=bg.frozen 3;have td:=bg.frozen 4;clear lI hb iT bg);have bP:=OF 0 ⟨#[]⟩ 0 0 false jX.out;have j6:=Mu 0 ⟨#[]⟩ 0 0 false aL.out (by omega:w.heap.size≤w.heap.size+1)
  obtain⟨k0,k1,k2,k3,k4⟩:=aC _ bP;refine bodyPost_ret (v:=.tuple #[cmV Lp,.bool false]) (by simp[results,Tryz.results73,go_sem,k0,k1,k2,k3,k4,Lp]) rfl ?_
  exact⟨by rw[←cM.out],j6⟩
end Go.Proofs.YtpgddamhdfmdjaaGreatDoor
