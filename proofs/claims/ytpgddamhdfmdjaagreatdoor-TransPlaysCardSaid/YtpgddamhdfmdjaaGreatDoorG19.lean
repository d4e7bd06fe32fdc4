/- Tej Tek Dh Dn Tel -/
import Derived.Test.YtpgddamhdfmdjaaGreatDoorG14
import Derived.Laws.Rows
import Derived.Lib.ItoaLen
import Derived.Test.YtpgddamhdfmdjaaGreatDoorG2
import Derived.Test.YtpgddamhdfmdjaaGreatDoorG16
import Derived.Test.YtpgddamhdfmdjaaGreatDoorG3
import Derived.Test.YtpgddamhdfmdjaaGreatDoorG1
set_option linter.unusedSimpArgs false
set_option linter.unusedVariables false
set_option maxRecDepth 100000
set_option maxHeartbeats 16000000
namespace Go.Proofs.YtpgddamhdfmdjaaGreatDoor
open Go.ChangeShapes Go.WideShapes Go.ChangeAt Go.RowKit
theorem UY:∀f∈dl,(rx f).length≤1000:=by
 intro f hf;obtain⟨q,hq,rfl,hp⟩:=LR f hf;rw[hp];have:=(SY q hq).2.2.2;omega
theorem qc8(w:World):(Instr.index 103 (.agg ms) (.int .i64 0)).run Tryz.prog w=.ok (fmV (dl[0]'(by decide))) w:=by kernel_rfl
theorem qc9(w:World):(Instr.index 103 (.agg ms) (.int .i64 1)).run Tryz.prog w=.ok (fmV (dl[1]'(by decide))) w:=by kernel_rfl
theorem qda(w:World):(Instr.index 103 (.agg ms) (.int .i64 2)).run Tryz.prog w=.ok (fmV (dl[2]'(by decide))) w:=by kernel_rfl
theorem qdb(w:World):(Instr.index 103 (.agg ms) (.int .i64 3)).run Tryz.prog w=.ok (fmV (dl[3]'(by decide))) w:=by kernel_rfl
theorem qdc(w:World):(Instr.index 103 (.agg ms) (.int .i64 4)).run Tryz.prog w=.ok (fmV (dl[4]'(by decide))) w:=by kernel_rfl
theorem qdd(w:World):(Instr.index 103 (.agg ms) (.int .i64 5)).run Tryz.prog w=.ok (fmV (dl[5]'(by decide))) w:=by kernel_rfl
theorem qde(w:World):(Instr.index 103 (.agg ms) (.int .i64 6)).run Tryz.prog w=.ok (fmV (dl[6]'(by decide))) w:=by kernel_rfl
theorem WZ(i:Nat)(h:i<dl.length)(w:World):(Instr.index 103 (.agg ms) (.int .i64 (i:Int))).run Tryz.prog w=.ok (fmV dl[i]) w:=by
 match i,h with
 |0,_=>exact qc8 w
 |1,_=>exact qc9 w
 |2,_=>exact qda w
 |3,_=>exact qdb w
 |4,_=>exact qdc w
 |5,_=>exact qdd w
 |6,_=>exact qde w
theorem Rv:(Tryz.prog.info? 103).map (·.size)=some ms.size:=by kernel_rfl
def eqC(a b:Cm):Bool:=a.1==b.1&&(a.2.1.toList==b.2.1.toList&&(a.2.2.1==b.2.2.1&&(a.2.2.2.1==b.2.2.2.1&&a.2.2.2.2==b.2.2.2.2)))
theorem Tl(a b:Cm):eqC a b=true↔a=b:=by
 obtain⟨a0,a1,a2,a3,a4⟩:=a;obtain⟨b0,b1,b2,b3,b4⟩:=b;unfold eqC;simp only[Bool.and_eq_true,beq_iff_eq,Prod.mk.injEq,Lib.toList_data];constructor
 ·rintro⟨h1,h2,h3,h4,h5⟩
  exact⟨h1,by apply ByteArray.ext;exact Array.ext' h2,h3,h4,h5⟩
 ·rintro⟨h1,h2,h3,h4,h5⟩
  exact⟨h1,by rw[h2],h3,h4,h5⟩
theorem qcx(a b:Cm)(w:World):(binOp .eql 34 (cmV a) (cmV b)).run Tryz.prog w=.ok (.bool (eqC a b)) w:=by
 obtain⟨a0,a1,a2,a3,a4⟩:=a;obtain⟨b0,b1,b2,b3,b4⟩:=b;unfold eqC;go_simp
 by_cases h0:a0=b0
 ·by_cases h1:a1.toList=b1.toList
  ·by_cases h2:a2=b2
   ·by_cases h3:a3=b3
    ·by_cases h4:a4=b4
     ·simp[h0,h1,h2,h3,h4]
     ·simp[h0,h1,h2,h3,h4]
    ·simp[h0,h1,h2,h3]
   ·simp[h0,h1,h2]
  ·simp[h0,h1]
 ·simp[h0]
theorem Zx(a b d:Tx):∀s:Tx,(AT a b d s).length≤s.length*(a.length+b.length+d.length+1):=by
 intro s
 induction s using AT.induct with
 |case1 r ih=>rw[AT,List.length_append,List.length_cons,List.length_cons,Nat.succ_mul,Nat.succ_mul];omega
 |case2 r ih=>rw[AT,List.length_append,List.length_cons,List.length_cons,Nat.succ_mul,Nat.succ_mul];omega
 |case3 r ih=>rw[AT,List.length_append,List.length_cons,List.length_cons,Nat.succ_mul,Nat.succ_mul];omega
 |case4 x r h1 h2 h3 ih=>
  rw[AT.eq_4 a b d x r h1 h2 h3,List.length_cons,List.length_cons,Nat.succ_mul];omega
 |case5=>simp[AT]
theorem KA:∀f∈dl,wfT f.2.2.data.toList=true∧f.2.2.size≤50:=by
 have h:(dl.all fun f=>wfT f.2.2.data.toList&&decide (f.2.2.size≤50))=true:=by kernel_rfl
 intro f hf;have:=List.all_eq_true.1 h f hf;rw[Bool.and_eq_true,decide_eq_true_eq]at this;exact this
theorem W7(f:Fm)(c:Cm)(hf:f∈dl)(ht:c.2.1.size≤1000)(hk:f7 c.2.2.1)(hv:f7 c.2.2.2.1):(Ih f c).length≤1000000:=by
 have h1:=Zx c.2.1.data.toList (Lib.itoa c.2.2.1) (Lib.itoa c.2.2.2.1) f.2.2.data.toList;have h2:=Lib.itoa_length_le c.2.2.1 hk.1 hk.2;have h3:=Lib.itoa_length_le c.2.2.2.1 hv.1 hv.2;have h4:f.2.2.data.toList.length≤50:=(KA f hf).2;have h5:c.2.1.data.toList.length≤1000:=ht;have h6:f.2.2.data.toList.length*(c.2.1.data.toList.length+(Lib.itoa c.2.2.1).length+(Lib.itoa c.2.2.2.1).length+1)≤50*1043:=Nat.mul_le_mul h4 (by omega)
 show(AT _ _ _ _).length≤_;omega
theorem Ha{B:Nat}{a b c:World}(hB:B≤a.heap.size)(h:Below B a b)(k:Below b.heap.size b c):Below B a c:=h.trans (k.mono (Nat.le_trans hB h.size))
theorem Xa(c:Cm)(m:Int)(w:World)(hw:Wq m w)(ht:c.2.1.size≤1000)(hk:f7 c.2.2.1)(hv:f7 c.2.2.2.1):
  Calls Tryz.prog 52 #[cmV c] w fun e w'=>e=.returned (.string (bb (Ho c)))∧Below w.heap.size w w':=by
 obtain⟨R,dP⟩:∃R,Ho c=R:=⟨_,rfl⟩;rw[dP];have Ax:Ir (dl.drop 0) c=R:=dP;have qM:=qid (fun f (hf:f∈dl) W hW=>WM f c m W hW hk hv (KA f hf).1 (Nat.le_trans (KA f hf).2 (by decide)) (W7 f c hf ht hk hv))
 have jd:=qid (fun f (hf:f∈dl) s v W hW hT=>WQ f (rx f) (io s).1 (io f.2.2).2 v m W hW hT (fun t h=>Nat.le_trans (Wa s t h) (by decide)) rfl (UY f hf))
 obtain⟨ft,Ay,yR⟩:=hw.frm;obtain⟨c0,c1,c2,c3,c4⟩:=c;obtain⟨W1,cF⟩:∃W1,w.alloc (.cells #[.int .i64 c0,.string c1,.int .i64 c2,.int .i64 c3,.bool c4] 34)=W1:=⟨_,rfl⟩;have hZ:Blk W1 w.heap.size 34 (go (c0,c1,c2,c3,c4)):=by rw[←cF];exact Blk.new _ _ _
 have aU:Below w.heap.size w W1:=by rw[←cF];exact(Below.refl _ _).alloc (Nat.le_refl _) _
 have uU:W1.heap[0]? =some (.cells ms ft Ay):=(aU.block _ (Array.getElem?_eq_some_iff.1 yR).1).trans yR;obtain⟨DV,DW⟩:=hZ2 uU Tryz.underlying103;have j4:=qid (hw.below aU);obtain⟨HZ,aX,kA⟩:=hZ3 hZ aU Ax;clear hw ht hk hv dP Ax hZ aU yR uU;go_enter Tryz.func52,Tryz.ntmps52;go_wp2_with ((with_reducible refine wpList_load_row (o:=⟨some 11,.load 103 (.global 0),_,_,_,_⟩) rfl 103 (.global 0) rfl 0 ?_ ft ms Ay _ DV.out DW.out ?_ Rv ?_);(· rfl);(· rfl))
 go_loopg [12] 7 (fun gk qN wx=>∃i:Nat,qN=.int .i64 (i:Int)∧i+gk=7∧Below W1.heap.size W1 wx∧Ir (dl.drop i) (c0,c1,c2,c3,c4)=R)
 case atStart=>exact⟨0,rfl,rfl,Below.refl _ _,kA.out⟩
 case round=>
  obtain⟨i,rfl,hi,hB,hr⟩:=hrel;have HB:=qid hB;have iU:=HZ.out.below hB (Blk.lt HZ.out);have AY:=qid iU;have lh:=qid (j4.out.below hB);have HI:=qid hi;have az:w.heap.size≤W1.heap.size:=aX.out.size
  cases gk with
  |zero=>
   have l1:¬((i:Int)<7):=by omega
   have hR:R=[]:=by rw[←hr,List.drop_of_length_le (by show 7≤i;omega)];rfl
   have HR:=qid hR;clear hB iU hr hR hi az;go_wp2;go_ret;exact⟨by rw[HR.out];rfl,aX.out.trans (HB.out.mono aX.out.size)⟩
  |succ gk=>
   have aD:i<dl.length:=by show i<7;omega
   have q1:=WZ i aD;have ch:=hr;rw[List.drop_eq_getElem_cons aD,Ir]at ch;have fZ:dl[i]∈dl:=List.getElem_mem aD;obtain⟨f,hf⟩:∃f,dl[i]=f:=⟨_,rfl⟩;rw[hf]at q1 ch fZ;have eI:=qid (qM.out f fZ);have qO:=qid (jd.out f fZ (bb (Ih f (c0,c1,c2,c3,c4))));have l1:(i:Int)<7:=by omega
   obtain⟨i1,aN⟩:∃i1,i+1=i1:=⟨_,rfl⟩;have wk:IntKind.i64.wrap ((i:Int)+1)=(i1:Int):=by rw[show(i:Int)+1=(i1:Int) by omega];exact IntWalk.i64_in _ (by omega)
   have aQ:=qid aN;rw[aN]at ch;obtain⟨T,hT⟩:∃T,Ih f (c0,c1,c2,c3,c4)=T:=⟨_,rfl⟩;rw[hT]at ch eI qO;have yS:=qid (fun W hW=>Nn (bb T) _ rfl m W hW)
   have cM:=qid ch;obtain⟨fk,fb,fx⟩:=f;have nD:Below wr.heap.size wr (wr.alloc (.cells #[.int .i64 fk,.bool fb,.string fx] 102)):=(Below.refl _ _).alloc (Nat.le_refl _) _;have oo:=qid nD;obtain⟨z0,z1,z2,z3,z4⟩:=aC _ (Blk.below iU nD iU.lt)
   by_cases bA:fk=c0
   ·by_cases je:fb=c4
    ·subst bA je
     obtain⟨cn,ou⟩:∃cn,(IC (fk,fb,fx) (io (bb T)).1).1=cn:=⟨_,rfl⟩;obtain⟨F,hF⟩:∃F,(IC (fk,fb,fx) (io (bb T)).1).2=F:=⟨_,rfl⟩;have yT:IC (fk,fb,fx) (io (bb T)).1=(cn,F):=by rw[←ou,←hF]
     have yU:Hid (∀v W,Wq m W→TR W v (io (bb T)).1→Calls Tryz.prog 73 #[fmV (fk,fb,fx),v] W fun e w'=>e=.returned (.tuple #[cmV cn,.bool F])∧Below W.heap.size W w'):=qid (fun v W hW hT=>by have:=qO.out v W hW hT;unfold qba at this;rw[yT]at this;exact this)
     obtain⟨E,hE⟩:∃E,eqC cn (fk,c1,c2,c3,fb)=E:=⟨_,rfl⟩;have qe:=qcx cn (fk,c1,c2,c3,fb);rw[hE]at qe;have n1:(fk != fk)=false:=by simp
     have n2:(fb != fb)=false:=by simp
     rw[yT]at ch;have Az:(if F=true∧E=true then T else Ir (dl.drop i1) (fk,c1,c2,c3,fb))=R:=by
      rw[←ch]
      by_cases uV:F=true∧E=true
      ·rw[if_pos uV,if_pos ⟨rfl,rfl,by rw[uV.1,(Tl _ _).1 (hE.trans uV.2)]⟩]
      ·rw[if_neg uV,if_neg (fun h=>uV (by
        have h2:=h.2.2;injection h2 with h3 h4;exact⟨h4,by rw[←hE];exact(Tl _ _).2 h3⟩))]
     have qP:=qid Az;have oC:=qid (lh.out.below nD);have sQ:=qid (Blk.below iU nD iU.lt);have pq:=qid (eI.out _ oC.out);have B5:Blk (wr.alloc (.cells #[.int .i64 fk,.bool fb,.string fx] 102)) wr.heap.size 102 #[.int .i64 fk,.bool fb,.string fx]:=Blk.new _ _ _;have sR:=qid B5;obtain⟨d0,d1,d2,d3,d4⟩:=cn;clear hB iU hr ch hi az fZ hf aN nD aD hT ou hF yT hE Az B5 cM qO eI jd qM
     cases F with
     |true=>
      cases E with
      |true=>
       go_wp2_with (first
        |(go_at_call 71;(refine pq.out.mono ?_);rintro e w5 ⟨rfl,bh⟩;have cZ:=qid bh;have pB:=qid (oC.out.below bh);have nH:=qid (sQ.out.below bh (Blk.lt sQ.out));have jI:=qid (sR.out.below bh (Blk.lt sR.out));clear bh)
        |(go_at_call 72;(refine(yS.out _ pB.out.wd).mono ?_);rintro e w6 ⟨v6,rfl,pC,ew⟩;obtain⟨uW,ju⟩:=hZ2 pC ew;have uX:=qid (pB.out.below ew);have pD:=nH.out.below ew (Blk.lt nH.out);have pE:=qid pD;have kS:=jI.out.below ew (Blk.lt jI.out);have g0:w6.cell? ⟨wr.heap.size,0,none⟩=some (.int .i64 fk):=kS.cell 0;have g1:w6.cell? ⟨wr.heap.size,1,none⟩=some (.bool fb):=kS.cell 1;have g2:w6.cell? ⟨wr.heap.size,2,none⟩=some (.string fx):=kS.cell 2;clear pC ew pD kS)
        |(go_at_call 73;(refine(yU.out _ _ uX.out uW.out).mono ?_);rintro e w7 ⟨rfl,bF⟩;have ij:=qid bF;have pF:=pE.out.below bF (Blk.lt pE.out);have y:=(fun o=>aC _ (pF.alloc o));have y0:=(fun o=>(y o).1);have y1:=(fun o=>(y o).2.1);have y2:=(fun o=>(y o).2.2.1);have y3:=(fun o=>(y o).2.2.2.1);have y4:=(fun o=>(y o).2.2.2.2);clear bF pF y))
       go_ret;have je:=Ha (Nat.le_refl _) (Ha (Nat.le_refl _) (Ha (Nat.le_refl _) (Ha (Nat.le_refl _) HB.out oo.out) cZ.out) ju.out) ij.out;refine⟨?_,(Ha (Nat.le_refl _) aX.out je).alloc (Nat.le_trans aX.out.size je.size) _⟩;have:=qP.out;simp only[and_self,if_true]at this;rw[←this];rfl
      |false=>
       go_wp2_with (first
        |(go_at_call 71;(refine pq.out.mono ?_);rintro e w5 ⟨rfl,bh⟩;have cZ:=qid bh;have pB:=qid (oC.out.below bh);have nH:=qid (sQ.out.below bh (Blk.lt sQ.out));have jI:=qid (sR.out.below bh (Blk.lt sR.out));clear bh)
        |(go_at_call 72;(refine(yS.out _ pB.out.wd).mono ?_);rintro e w6 ⟨v6,rfl,pC,ew⟩;obtain⟨uW,ju⟩:=hZ2 pC ew;have uX:=qid (pB.out.below ew);have pD:=nH.out.below ew (Blk.lt nH.out);have pE:=qid pD;have kS:=jI.out.below ew (Blk.lt jI.out);have g0:w6.cell? ⟨wr.heap.size,0,none⟩=some (.int .i64 fk):=kS.cell 0;have g1:w6.cell? ⟨wr.heap.size,1,none⟩=some (.bool fb):=kS.cell 1;have g2:w6.cell? ⟨wr.heap.size,2,none⟩=some (.string fx):=kS.cell 2;clear pC ew pD kS)
        |(go_at_call 73;(refine(yU.out _ _ uX.out uW.out).mono ?_);rintro e w7 ⟨rfl,bF⟩;have ij:=qid bF;have pF:=pE.out.below bF (Blk.lt pE.out);have y:=(fun o=>aC _ (pF.alloc o));have y0:=(fun o=>(y o).1);have y1:=(fun o=>(y o).2.1);have y2:=(fun o=>(y o).2.2.1);have y3:=(fun o=>(y o).2.2.2.1);have y4:=(fun o=>(y o).2.2.2.2);clear bF pF y))
       go_roundg gk
       case measure=>exact Nat.lt_succ_self _
       case rel=>
        have je:=Ha (Nat.le_refl _) (Ha (Nat.le_refl _) (Ha (Nat.le_refl _) (Ha (Nat.le_refl _) HB.out oo.out) cZ.out) ju.out) ij.out;exact⟨i1,rfl,by have:=HI.out;have:=aQ.out;omega,je.alloc je.size _,by have:=qP.out;simpa using this⟩
     |false=>
      go_wp2_with (first
       |(go_at_call 71;(refine pq.out.mono ?_);rintro e w5 ⟨rfl,bh⟩;have cZ:=qid bh;have pB:=qid (oC.out.below bh);have nH:=qid (sQ.out.below bh (Blk.lt sQ.out));have jI:=qid (sR.out.below bh (Blk.lt sR.out));clear bh)
       |(go_at_call 72;(refine(yS.out _ pB.out.wd).mono ?_);rintro e w6 ⟨v6,rfl,pC,ew⟩;obtain⟨uW,ju⟩:=hZ2 pC ew;have uX:=qid (pB.out.below ew);have pD:=nH.out.below ew (Blk.lt nH.out);have pE:=qid pD;have kS:=jI.out.below ew (Blk.lt jI.out);have g0:w6.cell? ⟨wr.heap.size,0,none⟩=some (.int .i64 fk):=kS.cell 0;have g1:w6.cell? ⟨wr.heap.size,1,none⟩=some (.bool fb):=kS.cell 1;have g2:w6.cell? ⟨wr.heap.size,2,none⟩=some (.string fx):=kS.cell 2;clear pC ew pD kS)
       |(go_at_call 73;(refine(yU.out _ _ uX.out uW.out).mono ?_);rintro e w7 ⟨rfl,bF⟩;have ij:=qid bF;have pF:=pE.out.below bF (Blk.lt pE.out);have y:=(fun o=>aC _ (pF.alloc o));have y0:=(fun o=>(y o).1);have y1:=(fun o=>(y o).2.1);have y2:=(fun o=>(y o).2.2.1);have y3:=(fun o=>(y o).2.2.2.1);have y4:=(fun o=>(y o).2.2.2.2);clear bF pF y))
      go_roundg gk
      case measure=>exact Nat.lt_succ_self _
      case rel=>
       have je:=Ha (Nat.le_refl _) (Ha (Nat.le_refl _) (Ha (Nat.le_refl _) (Ha (Nat.le_refl _) HB.out oo.out) cZ.out) ju.out) ij.out;exact⟨i1,rfl,by have:=HI.out;have:=aQ.out;omega,je.alloc je.size _,by have:=qP.out;simpa using this⟩
    ·have n1:(fk != c0)=false:=by rw[bne_eq_false_iff_eq];exact bA
     have n2:(fb != c4)=true:=by rw[bne_iff_ne];exact je
     have lN:Ir (dl.drop i1) (c0,c1,c2,c3,c4)=R:=by rw[←cM.out,if_neg (fun h=>je h.2.1)]
     have iG:=qid lN;clear n2 hB iU hr ch hi az fZ hf aN nD aD hT bA lN
     cases fb<;>cases c4
     all_goals first
      |exact absurd rfl je
      |(clear je
        go_wp2;go_roundg gk
        case measure=>exact Nat.lt_succ_self _
        case rel=>exact⟨i1,rfl,by have:=HI.out;have:=aQ.out;omega,HB.out.trans (oo.out.mono HB.out.size),iG.out⟩)
   ·have n1:(fk != c0)=true:=by rw[bne_iff_ne];exact bA
    have lN:Ir (dl.drop i1) (c0,c1,c2,c3,c4)=R:=by rw[←cM.out,if_neg (fun h=>bA h.1)]
    have iG:=qid lN;clear hB iU hr ch hi az fZ hf aN nD aD hT bA lN;go_wp2;go_roundg gk
    case measure=>exact Nat.lt_succ_self _
    case rel=>exact⟨i1,rfl,by have:=HI.out;have:=aQ.out;omega,HB.out.trans (oo.out.mono HB.out.size),iG.out⟩
theorem CK.grown{w w':World}{x:Nat}{kb:Bool}{K:Int}{row:Option Nat}(h:CK w x kb K)(hg:w.grownBy w' row)(hx:some x≠row):CK w' x kb K:=
 ⟨hg.cell (a:=⟨x,4,none⟩) h.1 hx,hg.cell (a:=⟨x,2,none⟩) h.2 hx⟩
theorem Rx(B g cap:Nat)(l:List Rw)(x:Nat)(kb:Bool)(K:Int)(w:World)(h:OR B w (.slice (some ⟨g,0,none⟩) l.length cap) l)(hc:CK w x kb K)(yV:x≠g)(bn:l.length≤cap)(hs:l.length≤1000000):
  Calls Tryz.prog 79 #[.slice (some ⟨g,0,none⟩) l.length cap,.func (.func 75) #[] #[.pointer (some ⟨x,0,none⟩)]] w (qbM B g cap kb K l w):=by
 obtain⟨i30,bQ,cS,bR,cY⟩:=Qb;have bE:=JX;obtain⟨HH,HC,HS,DX⟩:=hZ4 h hc hs yV;have HI:=qid (Xt _ l x kb K w h.rr hc hs);have cx:=(h.lt g rfl).2;have ks:=qid cx;have fC:∀args w,(callFunc 75 args).run Tryz.prog w=.ok (.enter 75 args) w:=fun args w=>by show Sem.run Tryz.prog (callFunc 75 args) w=_;go_simp
 rcases Qe kb K l 0 with⟨h1,h2⟩|⟨i0,r,h1,h2,h3,h4⟩
 ·rw[h1]at HI
  unfold qbM;rw[Qf h2];clear h hc hs yV h1 h2 cx;go_enter Tryz.func79,Tryz.ntmps79;go_wp2_with (go_at_call 101;(refine HI.out.mono ?_);rintro e w2 ⟨rfl,aA⟩;have aL:=qid aA;clear aA);go_ret;exact⟨rfl,aS HH.out aL.out,Kl aL.out⟩
 ·rw[h1,Nat.zero_add]at HI
  have bw:=(List.getElem?_eq_some_iff.1 h2).1;have HD:=qid (L0.start h2 h3 h4);have l0:¬((i0:Int)= -1):=by omega
  obtain⟨j0,yW⟩:∃j0,i0+1=j0:=⟨_,rfl⟩;have Fs:IntKind.i64.wrap ((i0:Int)+1)=(j0:Int):=by rw[show(i0:Int)+1=(j0:Int) by omega];exact IntWalk.i64_in _ (by omega)
  rw[yW]at HD;have xl:=qid yW;have dk:j0≤l.length:=by omega
  have kf:=qid dk;unfold qbM;obtain⟨D,hD⟩:∃D,JU kb K l=D:=⟨_,rfl⟩;have uY:=qid hD;rw[hD];clear hD h hc hs yV h1 h2 h3 h4 cx yW bw dk;go_enter Tryz.func79,Tryz.ntmps79;go_wp2_with (go_at_call 101;(refine HI.out.mono ?_);rintro e w2 ⟨rfl,aA⟩;have aL:=qid aA;clear aA)
  go_loopg [5,6] (l.length-j0) (fun gk u5 u6 wx=>∃(i j:Nat) (m:List Rw),u5=.int .i64 (i:Int)∧u6=.int .i64 (j:Int)∧j+gk=l.length∧Hid (L0 kb K l m i j)∧Hid (OR B wx (.slice (some ⟨g,0,none⟩) m.length cap) m)∧Hid (w.grownBy wx (some g)))
  case atStart=>exact⟨i0,j0,l,rfl,rfl,by have:=kf.out;omega,HD.out,aS HH.out aL.out,Kl aL.out⟩
  case round=>
   obtain⟨i,j,m,rfl,rfl,hj,HD,HO,HG⟩:=hrel;have HJ:=qid hj;have eT:=HD.out.lt
   cases gk with
   |zero=>
    have l1:¬((j:Int)<(l.length:Int)):=by omega
    have ja:m.length=l.length:=HD.out.len;have gi:i<l.length:=by have:=HD.out.lt;omega
    have xE:j=l.length:=by omega
    have uZ:=HD.out.done;rw[xE,List.take_of_length_le (Nat.le_refl _),uY.out]at uZ;have hlen:D.length=i:=by rw[←uZ,List.length_take,ja];omega
    obtain⟨DY,fW⟩:=hZ2 uZ hlen;have hO:=HO.out;rw[ja]at hO;have dB:Hid (wr.ownsRow B 57 2 (.slice (some ⟨g,0,none⟩) l.length cap) l.length (rcs m)):=by
     have h5:=HO.out;unfold OR at h5;rw[ja]at h5;exact h5
    have DZ:=qid ja;have l2:(i:Int)≤(l.length:Int):=by omega
    have l3:(0:Int)≤(i:Int):=by omega
    have l4:(i:Int)≤(cap:Int):=by omega
    have l5:¬(cap=i):=by omega
    have l6:¬(i=cap):=by omega
    have l7:i≤cap:=by omega
    have l8:i≤l.length:=by omega
    have kT:=qid gi;clear hj eT ja xE uZ hlen hO gi;go_wp2_with (refine Ny rfl (.tmp 38) 39 rfl i30 (.int .i64 0) (.int .i64 0) bE bQ cS rfl rfl i _ rfl dB.out kT.out ?_;intro w3 jC ez);go_ret;have hcut:=ZM jC i l8;rw[Qg _ _ _ _ (Nat.le_refl _) (by rw[JB,DZ.out];omega),←Xe,DY.out]at hcut
    refine⟨by rw[fW.out];rfl,?_,IZ HG.out ez⟩
    unfold OR;rw[fW.out];exact hcut
   |succ gk=>
    have dk:j<l.length:=by omega
    have sS:=HD.out.at_ dk;obtain⟨x0,x1,_,_⟩:=HO.out.cells j _ sS;have B6:i<m.length:=by rw[HD.out.len];omega
    obtain⟨y,hy⟩:∃y,m[i]? =some y:=⟨_,List.getElem?_eq_getElem B6⟩;obtain⟨y0,y1,f0,f1⟩:=HO.out.cells i _ hy;have HY:=qid hy;obtain⟨r,hr⟩:∃r,l[j]=r:=⟨_,rfl⟩;have dx:=HD.out.skip dk;have jJ:=HD.out.keep dk;rw[hr]at x0 x1 dx jJ;obtain⟨r0,r1⟩:=r;have l1:(j:Int)<(l.length:Int):=by omega
    have l2:(0:Int)≤(j:Int):=by omega
    have l3:(0:Int)≤(i:Int):=by omega
    have l4:(i:Int)<(l.length:Int):=by omega
    obtain⟨j1,gW⟩:∃j1,j+1=j1:=⟨_,rfl⟩;obtain⟨i1,aN⟩:∃i1,i+1=i1:=⟨_,rfl⟩;have wk:IntKind.i64.wrap ((j:Int)+1)=(j1:Int):=by rw[show(j:Int)+1=(j1:Int) by omega];exact IntWalk.i64_in _ (by have:=HS.out;omega)
    have sJ:IntKind.i64.wrap ((i:Int)+1)=(i1:Int):=by rw[show(i:Int)+1=(i1:Int) by omega];exact IntWalk.i64_in _ (by have:=HS.out;omega)
    rw[gW]at dx jJ;rw[aN]at jJ;obtain⟨ik,pG,B7⟩:=hZ3 gW dx jJ;have gl:=(Below.refl wr.heap.size wr).alloc (Nat.le_refl _) (.cells #[.int .i64 r0,.int .i64 r1] 57);have dh:=qid gl;have HM:=qid (LE r0 r1 x kb K _ ((HC.out.grown HG.out (fun e=>DX.out (by injection e))).below gl (Nat.lt_of_lt_of_le HC.out.lt HG.out.size)))
    obtain⟨Q,hQ⟩:∃Q,d8 kb K (r0,r1)=Q:=⟨_,rfl⟩;rw[hQ]at HM pG B7;have jK:Blk (wr.alloc (.cells #[.int .i64 r0,.int .i64 r1] 57)) wr.heap.size 57 #[.int .i64 r0,.int .i64 r1]:=Blk.new _ _ _;have HK:=qid jK;clear hy hj eT dk sS B6 hr dx jJ gW aN gl hQ jK
    cases Q with
    |true=>
     go_wp2_with (go_at_call 75;(refine HM.out.mono ?_);rintro e w2 ⟨rfl,aA⟩;have aO:=qid (dh.out.trans (aA.mono dh.out.size));clear aA);go_roundg gk
     case measure=>exact Nat.lt_succ_self _
     case rel=>exact⟨i,j1,m,rfl,rfl,by have:=ik.out;have:=HJ.out;omega,pG.out trivial,aS HO.out aO.out,IZ HG.out (Kl aO.out)⟩
    |false=>
     go_wp2_with (go_at_call 75;(refine HM.out.mono ?_);rintro e w2 ⟨rfl,aA⟩;have aO:=qid (dh.out.trans (aA.mono dh.out.size));have bK:=HK.out.below aA HK.out.lt;have z0:w2.cell? ⟨wr.heap.size,0,none⟩=some (.int .i64 r0):=bK.cell 0;have z1:w2.cell? ⟨wr.heap.size,1,none⟩=some (.int .i64 r1):=bK.cell 1;have fU:=aS HO.out aO.out;have dB:=qid fU;obtain⟨v0,v1,f2,f3⟩:=OR.cells fU i _ HY.out;clear aA bK fU);go_roundg gk
     case measure=>exact Nat.lt_succ_self _
     case rel=>
      have bZ:=OR.set dB.out i _ (r0,r1) HY.out;have ub:(m.set i (r0,r1)).length=m.length:=List.length_set ..;exact⟨i1,j1,m.set i (r0,r1),rfl,rfl,by have:=ik.out;have:=HJ.out;omega,B7.out trivial,by rw[ub];exact bZ.1,IZ (IZ HG.out (Kl aO.out)) bZ.2⟩
structure MC(s:List Tb):Prop where
 few:IK s
 up:upN s
 each:∀t∈s,upR t.2∧∀r∈t.2,inI r.2
def DoP(s:List Tb)(kd:Int)(n:ByteArray)(K V:Int)(kb:Bool)(w:World)(e:Ending)(w':World):Prop:=
 ∃vs x vr k,e=.returned (.tuple #[vs,vr,.int .i64 k])∧FS w.heap.size w' vs x∧OR w.heap.size w' vr (doS s kd n K V kb).2.1∧Below w.heap.size w w'∧tbs x=(doS s kd n K V kb).1∧k=(doS s kd n K V kb).2.2
abbrev cmC(kd:Int)(n:ByteArray)(K V:Int)(kb:Bool):Array Value:=#[.int .i64 kd,.string n,.int .i64 K,.int .i64 V,.bool kb]
structure DoI(s:List Tb)(kd:Int)(n:ByteArray)(K V:Int)(kb:Bool)(w w2:World)(g:Nat)(x:List Tv):Prop where
 fs:FS w.heap.size w2 (.slice (some ⟨g,0,none⟩) x.length x.length) x
 tb:tbs x=s
 tg:∀t∈x,tight t
 cmd:Blk w2 w.heap.size 34 (cmC kd n K V kb)
 bel:Below w.heap.size w w2
 lt:w.heap.size<g
theorem DoI.step{s:List Tb}{kd:Int}{n:ByteArray}{K V:Int}{kb:Bool}{w w2 w3:World}{g:Nat}{x:List Tv}(h:DoI s kd n K V kb w w2 g x)(hb:Below w2.heap.size w2 w3):DoI s kd n K V kb w w3 g x:=
 ⟨h.fs.below hb,h.tb,h.tg,h.cmd.below hb h.cmd.lt,h.bel.trans (hb.mono h.bel.size),h.lt⟩
theorem DoI.len{s:List Tb}{kd:Int}{n:ByteArray}{K V:Int}{kb:Bool}{w w2:World}{g:Nat}{x:List Tv}(h:DoI s kd n K V kb w w2 g x):x.length=s.length:=by rw[←h.tb,mt]
theorem DoI.cells{s:List Tb}{kd:Int}{n:ByteArray}{K V:Int}{kb:Bool}{w w2:World}{g:Nat}{x:List Tv}(h:DoI s kd n K V kb w w2 g x):
  w2.cell? ⟨w.heap.size,0,none⟩=some (.int .i64 kd)∧w2.cell? ⟨w.heap.size,1,none⟩=some (.string n)∧w2.cell? ⟨w.heap.size,2,none⟩=some (.int .i64 K)∧w2.cell? ⟨w.heap.size,3,none⟩=some (.int .i64 V)∧w2.cell? ⟨w.heap.size,4,none⟩=some (.bool kb):=
 ⟨h.cmd.cell 0,h.cmd.cell 1,h.cmd.cell 2,h.cmd.cell 3,h.cmd.cell 4⟩
theorem DoI.at_{s:List Tb}{kd:Int}{n:ByteArray}{K V:Int}{kb:Bool}{w w2:World}{g:Nat}{x:List Tv}(h:DoI s kd n K V kb w w2 g x){i:Nat}{t:Tb}(hi:s[i]? =some t):∃hb,x[i]? =some (t.1,.slice (some ⟨hb,0,none⟩) t.2.length t.2.length,t.2):=by
 rw[←h.tb]at hi;obtain⟨u,hu⟩:=IX x i t hi;obtain⟨hb,e⟩:=h.tg _ (List.mem_of_getElem? hu);exact⟨hb,by rw[hu];simp only at e;rw[e]⟩
theorem JA{s:List Tb}{v:Value}{kd:Int}{n:ByteArray}{K V:Int}{kb:Bool}{w:World}(h:SR w v s)(hf:IK s):
  Calls Tryz.prog 26 #[v] (w.alloc (.cells (cmC kd n K V kb) 34)) fun e w2=>∃g x,e=.returned (.slice (some ⟨g,0,none⟩) s.length s.length)∧DoI s kd n K V kb w w2 g x:=by
 have hb:=(Below.refl w.heap.size w).alloc (Nat.le_refl _) (.cells (cmC kd n K V kb) 34);refine(M3 v s _ (h.below hb) hf).mono ?_;rintro e w2 ⟨g,x,h1,h2,h3,h4,h5,h6⟩;have bH:(w.alloc (.cells (cmC kd n K V kb) 34)).heap.size=w.heap.size+1:=by simp
 have hlen:x.length=s.length:=by rw[←h4,mt]
 refine⟨g,x,h1,⟨?_,h4,h5,(Blk.new w _ _).below h6 (by rw[bH];omega),hb.trans (h6.mono hb.size),by rw[bH]at h2;omega⟩⟩
 rw[hlen];exact h3.mono (by rw[bH];omega)
theorem qbD{w:World}{x B hb cap:Nat}{cs:Array Value}{l:List Rw}(h:Blk w x 34 cs)(ho:OR B w (.slice (some ⟨hb,0,none⟩) l.length cap) l):x≠hb:=by
 obtain⟨c,hc⟩:=m9 ho (g:=hb) rfl;exact h.ne_ hc (by decide)
theorem Zy(v:Value)(s:List Tb)(kd:Int)(n:ByteArray)(K V:Int)(kb:Bool)(w:World)(h:SR w v s)(hd:MC s)(hk:kd≠5)(hf:bv s n 0<0):
  Calls Tryz.prog 53 #[v,.agg (cmC kd n K V kb)] w (DoP s kd n K V kb w):=by
 have dv:=qid (JA (kd:=kd) (n:=n) (K:=K) (V:=V) (kb:=kb) h hd.few);have iI:=qid (fun(v':Value) (W:World) (hS:SR W v' s)=>Ij v' s n W hS hd.few.1)
 obtain⟨a,cap,rfl⟩:=h.form;have HR:Hid (doS s kd n K V kb=(s,[],8)):=qid (by unfold doS;rw[if_neg hk,if_pos hf])
 have n5:(kd==5)=false:=by rw[beq_eq_false_iff_ne];exact hk
 have m5:¬(kd=5):=hk;obtain⟨F,hF⟩:∃F,bv s n 0=F:=⟨_,rfl⟩;rw[hF]at iI hf;clear hF;clear h hd;go_enter Tryz.func53,Tryz.ntmps53;go_wp2_with (first
  |(go_at_call 26;(refine dv.out.mono ?_);rintro e w2 ⟨g,x,rfl,hI⟩;have HI:=qid hI;obtain⟨c0,c1,c2,c3,c4⟩:=hI.cells;have bx:Hid (SR w2 (.slice (some ⟨g,0,none⟩) s.length s.length) s):=qid (by have:=hI.fs.sr;rw[hI.tb,hI.len]at this;exact this);clear hI)
  |(go_at_call 55;(refine(iI.out _ _ bx.out).mono ?_);rintro e w3 ⟨rfl,aG⟩;have hJ:=HI.out.step aG;have HJ:=qid hJ;obtain⟨d0,d1,d2,d3,d4⟩:=hJ.cells;clear aG hJ))
 go_ret3
 refine⟨.slice (some ⟨g,0,none⟩) s.length s.length,x,.slice none 0 0,8,rfl,?_,?_,HJ.out.bel,?_,?_⟩
 ·have:=HJ.out.fs;rw[HJ.out.len]at this;exact this
 ·rw[HR.out];exact World.ownsRow_nil _ _ _ _
 ·rw[HR.out];exact HJ.out.tb
 ·rw[HR.out]
theorem Xb(v:Value)(s:List Tb)(n:ByteArray)(K V:Int)(kb:Bool)(w:World)(h:SR w v s)(hd:MC s)(hf:0≤bv s n 0):
  Calls Tryz.prog 53 #[v,.agg (cmC 5 n K V kb)] w (DoP s 5 n K V kb w):=by
 have dv:=qid (JA (kd:=5) (n:=n) (K:=K) (V:=V) (kb:=kb) h hd.few);have iI:=qid (fun(v':Value) (W:World) (hS:SR W v' s)=>Ij v' s n W hS hd.few.1)
 obtain⟨a,cap,rfl⟩:=h.form;have HR:Hid (doS s 5 n K V kb=(s,[],9)):=qid (by unfold doS;rw[if_pos rfl,if_pos hf])
 obtain⟨F,hF⟩:∃F,bv s n 0=F:=⟨_,rfl⟩;rw[hF]at iI hf;have lf:¬(F<0):=by omega
 clear hF;clear h hd;go_enter Tryz.func53,Tryz.ntmps53;go_wp2_with (first
  |(go_at_call 26;(refine dv.out.mono ?_);rintro e w2 ⟨g,x,rfl,hI⟩;have HI:=qid hI;obtain⟨c0,c1,c2,c3,c4⟩:=hI.cells;have bx:Hid (SR w2 (.slice (some ⟨g,0,none⟩) s.length s.length) s):=qid (by have:=hI.fs.sr;rw[hI.tb,hI.len]at this;exact this);clear hI)
  |(go_at_call 55;(refine(iI.out _ _ bx.out).mono ?_);rintro e w3 ⟨rfl,aG⟩;have hJ:=HI.out.step aG;have HJ:=qid hJ;obtain⟨d0,d1,d2,d3,d4⟩:=hJ.cells;clear aG hJ))
 go_ret3
 refine⟨.slice (some ⟨g,0,none⟩) s.length s.length,x,.slice none 0 0,9,rfl,?_,?_,HJ.out.bel,?_,?_⟩
 ·have:=HJ.out.fs;rw[HJ.out.len]at this;exact this
 ·rw[HR.out];exact World.ownsRow_nil _ _ _ _
 ·rw[HR.out];exact HJ.out.tb
 ·rw[HR.out]
theorem qbE(v:Value)(s:List Tb)(n:ByteArray)(K V:Int)(kb:Bool)(w:World)(h:SR w v s)(hd:MC s)(hf:bv s n 0<0)(hn:n.size≤1000000):
  Calls Tryz.prog 53 #[v,.agg (cmC 5 n K V kb)] w (DoP s 5 n K V kb w):=by
 have dv:=qid (JA (kd:=5) (n:=n) (K:=K) (V:=V) (kb:=kb) h hd.few);have iI:=qid (fun(v':Value) (W:World) (hS:SR W v' s)=>Ij v' s n W hS hd.few.1)
 obtain⟨a,cap,rfl⟩:=h.form;have HR:Hid (doS s 5 n K V kb=if 16≤s.length then(s,[],11)else(H9 s n,[],0)):=qid (by unfold doS;rw[if_pos rfl,if_neg (by omega)])
 obtain⟨wZ,xF,HN⟩:=hZ3 hd.up hd.few.1 hn;obtain⟨F,hF⟩:∃F,bv s n 0=F:=⟨_,rfl⟩;rw[hF]at iI hf;clear hF hn;clear h hd;go_enter Tryz.func53,Tryz.ntmps53;go_wp2_with (first
  |(go_at_call 26;(refine dv.out.mono ?_);rintro e w2 ⟨g,x,rfl,hI⟩;have HI:=qid hI;obtain⟨c0,c1,c2,c3,c4⟩:=hI.cells;have bx:Hid (SR w2 (.slice (some ⟨g,0,none⟩) s.length s.length) s):=qid (by have:=hI.fs.sr;rw[hI.tb,hI.len]at this;exact this);clear hI)
  |(go_at_call 55;(refine(iI.out _ _ bx.out).mono ?_);rintro e w3 ⟨rfl,aG⟩;have hJ:=HI.out.step aG;have HJ:=qid hJ;obtain⟨d0,d1,d2,d3,d4⟩:=hJ.cells;have HW:Hid (Calls Tryz.prog 74 #[.slice (some ⟨g,0,none⟩) s.length s.length,.string n] w3 (Td w.heap.size g x n w3)):=qid (by have:=Rp w.heap.size g x n w3 hJ.fs (by rw[hJ.tb];exact wZ.out) (by rw[hJ.len];exact xF.out) HN.out hJ.bel.size;rw[hJ.len]at this;exact this);clear aG hJ)
  |(go_at_call 74;(refine HW.out.mono ?_);rintro e w4 ⟨V4,y4,k4,rfl,eM,ai,uL⟩;obtain⟨iV,cH,yK⟩:=hZ3 eM ai uL;clear eM ai uL))
 go_ret3
 have he:=yK.out;rw[HJ.out.tb,HJ.out.len]at he;have hr:=HR.out;refine⟨V4,y4,.slice none 0 0,k4,rfl,iV.out,?_,HJ.out.bel.trans cH.out,?_,?_⟩
 ·rw[hr];split<;>exact World.ownsRow_nil _ _ _ _
 ·rw[hr]
  split
  ·rename_i dR;rw[if_pos dR]at he;injection he
  ·rename_i dR;rw[if_neg dR]at he;injection he
 ·rw[hr]
  split
  ·rename_i dR;rw[if_pos dR]at he;injection he
  ·rename_i dR;rw[if_neg dR]at he;injection he
theorem qbF(v:Value)(s:List Tb)(n:ByteArray)(K V:Int)(kb:Bool)(w:World)(h:SR w v s)(hd:MC s)(hf:0≤bv s n 0):
  Calls Tryz.prog 53 #[v,.agg (cmC 1 n K V kb)] w (DoP s 1 n K V kb w):=by
 have dv:=qid (JA (kd:=1) (n:=n) (K:=K) (V:=V) (kb:=kb) h hd.few);have iI:=qid (fun(v':Value) (W:World) (hS:SR W v' s)=>Ij v' s n W hS hd.few.1)
 obtain⟨a,cap,rfl⟩:=h.form;obtain⟨t,ht,jw,aD⟩:=Je hf;obtain⟨i,hi⟩:∃i:Nat,bv s n 0=(i:Int):=⟨_,(Int.toNat_of_nonneg hf).symm⟩;rw[hi,Int.toNat_natCast]at ht aD;rw[hi]at iI;have hD:doS s 1 n K V kb=(s,Hk kb K t.2,0):=by unfold doS;rw[if_neg (by decide),hi,if_neg (by omega),Int.toNat_natCast,ht];simp only;rw[if_pos trivial]
 obtain⟨HR,HT⟩:=hZ2 hD ht;have kx:=hd.each t (List.mem_of_getElem? ht);have mJ:=hd.few.2 t (List.mem_of_getElem? ht);obtain⟨sU,qQ,mK⟩:=hZ3 kx mJ jw;have l0:¬((i:Int)<0):=by omega
 have l1:(i:Int)<(s.length:Int):=by omega
 have l2:(0:Int)≤(i:Int):=by omega
 clear ht hD kx mJ hi hf aD jw;clear h hd;go_enter Tryz.func53,Tryz.ntmps53;go_wp2_with (first
  |(go_at_call 26;(refine dv.out.mono ?_);rintro e w2 ⟨g,x,rfl,hI⟩;have HI:=qid hI;obtain⟨c0,c1,c2,c3,c4⟩:=hI.cells;have bx:Hid (SR w2 (.slice (some ⟨g,0,none⟩) s.length s.length) s):=qid (by have:=hI.fs.sr;rw[hI.tb,hI.len]at this;exact this);clear hI)
  |(go_at_call 55;(refine(iI.out _ _ bx.out).mono ?_);rintro e w3 ⟨rfl,aG⟩;have hJ:=HI.out.step aG;have HJ:=qid hJ;obtain⟨d0,d1,d2,d3,d4⟩:=hJ.cells;obtain⟨hb,hx⟩:=hJ.at_ HT.out;have HX:=qid hx;have cJ:=hJ.fs;obtain⟨q0,q1⟩:=FS.at_ cJ i _ hx;have kU:=qid (cJ.rows _ (List.mem_of_getElem? hx));have ud:=qid (hJ.tg _ (List.mem_of_getElem? hx));have HM:=qid (RE _ t.2 w.heap.size kb K w3 (kU.out.rr) ⟨d4,d2⟩ qQ.out.2);clear hx cJ;clear aG hJ)
  |(go_at_call 76;(refine HM.out.mono ?_);rintro e w4 ⟨v4,rfl,eM,ai⟩;have iV:=qid eM;have HK:=qid (HJ.out.step ai);clear eM ai))
 go_ret3
 refine⟨.slice (some ⟨g,0,none⟩) s.length s.length,x,v4,0,rfl,?_,?_,HK.out.bel,?_,?_⟩
 ·have:=HK.out.fs;rw[HJ.out.len]at this;exact this
 ·rw[HR.out];exact i7 iV.out HJ.out.bel.size
 ·rw[HR.out];exact HJ.out.tb
 ·rw[HR.out]
theorem qbG(v:Value)(s:List Tb)(n:ByteArray)(K V:Int)(kb:Bool)(w:World)(h:SR w v s)(hd:MC s)(hf:0≤bv s n 0):
  Calls Tryz.prog 53 #[v,.agg (cmC 2 n K V kb)] w (DoP s 2 n K V kb w):=by
 have dv:=qid (JA (kd:=2) (n:=n) (K:=K) (V:=V) (kb:=kb) h hd.few);have iI:=qid (fun(v':Value) (W:World) (hS:SR W v' s)=>Ij v' s n W hS hd.few.1)
 obtain⟨a,cap,rfl⟩:=h.form;obtain⟨t,ht,jw,aD⟩:=Je hf;obtain⟨i,hi⟩:∃i:Nat,bv s n 0=(i:Int):=⟨_,(Int.toNat_of_nonneg hf).symm⟩;rw[hi,Int.toNat_natCast]at ht aD;rw[hi]at iI;have hD:doS s 2 n K V kb=(s.set i (t.1,(JD 2 K V kb t.2).1),[],(JD 2 K V kb t.2).2):=by unfold doS;rw[if_neg (by decide),hi,if_neg (by omega),Int.toNat_natCast,ht];simp only;rw[if_neg (by decide)]
 obtain⟨HR,HT⟩:=hZ2 hD ht;have kx:=hd.each t (List.mem_of_getElem? ht);have mJ:=hd.few.2 t (List.mem_of_getElem? ht);obtain⟨sU,qQ,mK⟩:=hZ3 kx mJ jw;have l0:¬((i:Int)<0):=by omega
 have l1:(i:Int)<(s.length:Int):=by omega
 have l2:(0:Int)≤(i:Int):=by omega
 clear ht hD kx mJ hi hf aD jw;clear h hd;go_enter Tryz.func53,Tryz.ntmps53;go_wp2_with (first
  |(go_at_call 26;(refine dv.out.mono ?_);rintro e w2 ⟨g,x,rfl,hI⟩;have HI:=qid hI;obtain⟨c0,c1,c2,c3,c4⟩:=hI.cells;have bx:Hid (SR w2 (.slice (some ⟨g,0,none⟩) s.length s.length) s):=qid (by have:=hI.fs.sr;rw[hI.tb,hI.len]at this;exact this);clear hI)
  |(go_at_call 55;(refine(iI.out _ _ bx.out).mono ?_);rintro e w3 ⟨rfl,aG⟩;have hJ:=HI.out.step aG;have HJ:=qid hJ;obtain⟨d0,d1,d2,d3,d4⟩:=hJ.cells;obtain⟨hb,hx⟩:=hJ.at_ HT.out;have HX:=qid hx;have cJ:=hJ.fs;obtain⟨q0,q1⟩:=FS.at_ cJ i _ hx;have kU:=qid (cJ.rows _ (List.mem_of_getElem? hx));have ud:=qid (hJ.tg _ (List.mem_of_getElem? hx));have HM:Hid (Calls Tryz.prog 77 #[.pointer (some ⟨g,i*2,none⟩),.int .i64 K,.int .i64 V] w3 (qah w.heap.size (.slice (some ⟨g,0,none⟩) s.length s.length) x i t.1 (MG t.2 K V) w3)):=qid (by have:=qai w.heap.size g x.length x i _ K V w3 cJ hx ud.out sU.out.1 qQ.out.2 hJ.bel.size;rw[hJ.len]at this;exact this);clear hx cJ;clear aG hJ)
  |(go_at_call 77;(refine HM.out.mono ?_);rintro e w4 ⟨u4,rfl,eM,ai⟩;obtain⟨iV,cH⟩:=hZ2 eM ai;clear eM ai))
 go_ret3
 have hl:(x.set i (t.1,u4,(MG t.2 K V).1)).length=s.length:=by rw[List.length_set];exact HJ.out.len
 refine⟨.slice (some ⟨g,0,none⟩) s.length s.length,_,.slice none 0 0,(MG t.2 K V).2,rfl,iV.out,?_,HJ.out.bel.trans cH.out,?_,?_⟩
 ·rw[HR.out];exact World.ownsRow_nil _ _ _ _
 ·rw[HR.out,KX,HJ.out.tb];rfl
 ·rw[HR.out];rfl
theorem qbH(v:Value)(s:List Tb)(n:ByteArray)(K V:Int)(kb:Bool)(w:World)(h:SR w v s)(hd:MC s)(hf:0≤bv s n 0):
  Calls Tryz.prog 53 #[v,.agg (cmC 3 n K V kb)] w (DoP s 3 n K V kb w):=by
 have dv:=qid (JA (kd:=3) (n:=n) (K:=K) (V:=V) (kb:=kb) h hd.few);have iI:=qid (fun(v':Value) (W:World) (hS:SR W v' s)=>Ij v' s n W hS hd.few.1)
 obtain⟨a,cap,rfl⟩:=h.form;obtain⟨t,ht,jw,aD⟩:=Je hf;obtain⟨i,hi⟩:∃i:Nat,bv s n 0=(i:Int):=⟨_,(Int.toNat_of_nonneg hf).symm⟩;rw[hi,Int.toNat_natCast]at ht aD;rw[hi]at iI;have hD:doS s 3 n K V kb=(s.set i (t.1,(JD 3 K V kb t.2).1),[],(JD 3 K V kb t.2).2):=by unfold doS;rw[if_neg (by decide),hi,if_neg (by omega),Int.toNat_natCast,ht];simp only;rw[if_neg (by decide)]
 obtain⟨HR,HT⟩:=hZ2 hD ht;have kx:=hd.each t (List.mem_of_getElem? ht);have mJ:=hd.few.2 t (List.mem_of_getElem? ht);obtain⟨sU,qQ,mK⟩:=hZ3 kx mJ jw;have l0:¬((i:Int)<0):=by omega
 have l1:(i:Int)<(s.length:Int):=by omega
 have l2:(0:Int)≤(i:Int):=by omega
 clear ht hD kx mJ hi hf aD jw;clear h hd;go_enter Tryz.func53,Tryz.ntmps53;go_wp2_with (first
  |(go_at_call 26;(refine dv.out.mono ?_);rintro e w2 ⟨g,x,rfl,hI⟩;have HI:=qid hI;obtain⟨c0,c1,c2,c3,c4⟩:=hI.cells;have bx:Hid (SR w2 (.slice (some ⟨g,0,none⟩) s.length s.length) s):=qid (by have:=hI.fs.sr;rw[hI.tb,hI.len]at this;exact this);clear hI)
  |(go_at_call 55;(refine(iI.out _ _ bx.out).mono ?_);rintro e w3 ⟨rfl,aG⟩;have hJ:=HI.out.step aG;have HJ:=qid hJ;obtain⟨d0,d1,d2,d3,d4⟩:=hJ.cells;obtain⟨hb,hx⟩:=hJ.at_ HT.out;have HX:=qid hx;have cJ:=hJ.fs;obtain⟨q0,q1⟩:=FS.at_ cJ i _ hx;have kU:=qid (cJ.rows _ (List.mem_of_getElem? hx));have ud:=qid (hJ.tg _ (List.mem_of_getElem? hx));have HM:Hid (Calls Tryz.prog 78 #[.pointer (some ⟨g,i*2,none⟩),.int .i64 K] w3 (qah w.heap.size (.slice (some ⟨g,0,none⟩) s.length s.length) x i t.1 (MH t.2 K) w3)):=qid (by have:=qaj w.heap.size g x.length x i _ K w3 cJ hx ud.out sU.out.1 qQ.out.2 hJ.bel.size sU.out.2;rw[hJ.len]at this;exact this);clear hx cJ;clear aG hJ)
  |(go_at_call 78;(refine HM.out.mono ?_);rintro e w4 ⟨u4,rfl,eM,ai⟩;obtain⟨iV,cH⟩:=hZ2 eM ai;clear eM ai))
 go_ret3
 have hl:(x.set i (t.1,u4,(MH t.2 K).1)).length=s.length:=by rw[List.length_set];exact HJ.out.len
 refine⟨.slice (some ⟨g,0,none⟩) s.length s.length,_,.slice none 0 0,(MH t.2 K).2,rfl,iV.out,?_,HJ.out.bel.trans cH.out,?_,?_⟩
 ·rw[HR.out];exact World.ownsRow_nil _ _ _ _
 ·rw[HR.out,KX,HJ.out.tb];rfl
 ·rw[HR.out];rfl
theorem qbI(v:Value)(s:List Tb)(n:ByteArray)(K V:Int)(kb:Bool)(w:World)(h:SR w v s)(hd:MC s)(hf:0≤bv s n 0):
  Calls Tryz.prog 53 #[v,.agg (cmC 4 n K V kb)] w (DoP s 4 n K V kb w):=by
 have dv:=qid (JA (kd:=4) (n:=n) (K:=K) (V:=V) (kb:=kb) h hd.few);have iI:=qid (fun(v':Value) (W:World) (hS:SR W v' s)=>Ij v' s n W hS hd.few.1)
 obtain⟨a,cap,rfl⟩:=h.form;obtain⟨t,ht,jw,aD⟩:=Je hf;obtain⟨i,hi⟩:∃i:Nat,bv s n 0=(i:Int):=⟨_,(Int.toNat_of_nonneg hf).symm⟩;rw[hi,Int.toNat_natCast]at ht aD;rw[hi]at iI;have hD:doS s 4 n K V kb=(s.set i (t.1,(JD 4 K V kb t.2).1),[],(JD 4 K V kb t.2).2):=by unfold doS;rw[if_neg (by decide),hi,if_neg (by omega),Int.toNat_natCast,ht];simp only;rw[if_neg (by decide)]
 obtain⟨HR,HT⟩:=hZ2 hD ht;have kx:=hd.each t (List.mem_of_getElem? ht);have mJ:=hd.few.2 t (List.mem_of_getElem? ht);obtain⟨sU,qQ,mK⟩:=hZ3 kx mJ jw;have l0:¬((i:Int)<0):=by omega
 have l1:(i:Int)<(s.length:Int):=by omega
 have l2:(0:Int)≤(i:Int):=by omega
 clear ht hD kx mJ hi hf aD jw;clear h hd;go_enter Tryz.func53,Tryz.ntmps53;go_wp2_with (first
  |(go_at_call 26;(refine dv.out.mono ?_);rintro e w2 ⟨g,x,rfl,hI⟩;have HI:=qid hI;obtain⟨c0,c1,c2,c3,c4⟩:=hI.cells;have bx:Hid (SR w2 (.slice (some ⟨g,0,none⟩) s.length s.length) s):=qid (by have:=hI.fs.sr;rw[hI.tb,hI.len]at this;exact this);clear hI)
  |(go_at_call 55;(refine(iI.out _ _ bx.out).mono ?_);rintro e w3 ⟨rfl,aG⟩;have hJ:=HI.out.step aG;have HJ:=qid hJ;obtain⟨d0,d1,d2,d3,d4⟩:=hJ.cells;obtain⟨hb,hx⟩:=hJ.at_ HT.out;have HX:=qid hx;have cJ:=hJ.fs;obtain⟨q0,q1⟩:=FS.at_ cJ i _ hx;have kU:=qid (cJ.rows _ (List.mem_of_getElem? hx));have ud:=qid (hJ.tg _ (List.mem_of_getElem? hx));have HM:=qid (Rx w.heap.size hb t.2.length t.2 w.heap.size kb K w3 kU.out ⟨d4,d2⟩ (fun e=>qbD hJ.cmd kU.out e) (Nat.le_refl _) qQ.out.2);clear hx cJ;clear aG hJ)
  |(go_at_call 79;(refine HM.out.mono ?_);rintro e w4 ⟨rfl,eM,eW⟩;obtain⟨iV,ed⟩:=hZ2 eM eW;have km:(some g:Option Nat)≠some hb:=(fun e=>JC HJ.out.fs.own kU.out rfl rfl JL (by injection e));have q2:=eW.cell (a:=⟨g,i*2+1,none⟩) q1 km;have f2:w4.frozen? ⟨g,i*2+1,none⟩=false:=(World.frozen?_of_block (eW.block g (HJ.out.fs.own.lt g rfl).2 km)).trans (World.ownsRow.frozenAt HJ.out.fs.own _);clear eM eW km))
 go_ret3
 have B8:JD 4 K V kb t.2=(JU kb K t.2,0):=rfl;have cJ:=FS.modk HJ.out.fs i _ HX.out _ _ iV.out (fun q hq b7=>ed.out.block q hq b7) (fun j p hj hp=>HJ.out.fs.apart j i p _ hj hp HX.out)
 refine⟨.slice (some ⟨g,0,none⟩) s.length s.length,_,.slice none 0 0,0,rfl,by rw[HJ.out.len]at cJ;exact cJ,?_,?_,?_,?_⟩
 ·rw[HR.out];exact World.ownsRow_nil _ _ _ _
 ·exact(HJ.out.bel.grown ed.out HJ.out.bel.size (fun q hq=>by injection hq with hq;rw[←hq];exact(kU.out.lt hb rfl).1)).setCell (p:=⟨g,i*2+1,none⟩) (Nat.le_of_lt HJ.out.lt) _
 ·rw[HR.out,KX,HJ.out.tb,B8]
 ·rw[HR.out,B8]
theorem Xc(v:Value)(s:List Tb)(kd:Int)(n:ByteArray)(K V:Int)(kb:Bool)(w:World)(h:SR w v s)(hd:MC s)(hk:1≤kd∧kd≤5)(hn:n.size≤1000000):
  Calls Tryz.prog 53 #[v,.agg (cmC kd n K V kb)] w (DoP s kd n K V kb w):=by
 by_cases hf:bv s n 0<0
 ·by_cases h5:kd=5
  ·subst h5;exact qbE v s n K V kb w h hd hf hn
  ·exact Zy v s kd n K V kb w h hd h5 hf
 ·have uf:0≤bv s n 0:=by omega
  rcases(show kd=1∨kd=2∨kd=3∨kd=4∨kd=5 by omega)with rfl|rfl|rfl|rfl|rfl
  ·exact qbF v s n K V kb w h hd uf
  ·exact qbG v s n K V kb w h hd uf
  ·exact qbH v s n K V kb w h hd uf
  ·exact qbI v s n K V kb w h hd uf
  ·exact Xb v s n K V kb w h hd uf
def JT(l:List Rw)(i:Nat):Bool:=match l[i]? with
 |none=>true
 |some r=>(i==0||(match l[i-1]? with|some q=>decide (q.1<r.1)|none=>true))&&(inN r.1&&inN r.2)
def BY(l:List Rw):Nat→Nat→Bool
 |0,_=>true
 |n+1,i=>JT l i&&BY l n (i+1)
def Hd(l:List Rw):Bool:=decide (l.length≤64)&&BY l l.length 0
theorem Tm(n:Int)(w:World):Calls Tryz.prog 69 #[.int .i64 n] w fun e w'=>e=.returned (.bool (inN n))∧w'=w:=by
 by_cases h0:0≤n
 ·by_cases h1:n≤999999
  ·have e:inN n=true:=decide_eq_true ⟨h0,h1⟩
   rw[e];clear e;go_enter Tryz.func69,Tryz.ntmps69;go_wp2;go_ret;exact⟨by simp[h0,h1],rfl⟩
  ·have e:inN n=false:=decide_eq_false fun h=>h1 h.2
   rw[e];clear e;go_enter Tryz.func69,Tryz.ntmps69;go_wp2;go_ret;exact⟨by simp[h0,h1],rfl⟩
 ·have e:inN n=false:=decide_eq_false fun h=>h0 h.1
  rw[e];clear e;go_enter Tryz.func69,Tryz.ntmps69;go_wp2;go_ret;exact⟨by simp[h0],rfl⟩
theorem Xd(n:Int)(w:World):Calls Tryz.prog 50 #[.int .i64 n] w fun e w'=>e=.returned (.bool (inN n))∧w'=w:=by
 by_cases h0:0≤n
 ·by_cases h1:n≤999999
  ·have e:inN n=true:=decide_eq_true ⟨h0,h1⟩
   rw[e];clear e;go_enter Tryz.func50,Tryz.ntmps50;go_wp2;go_ret;exact⟨by simp[h0,h1],rfl⟩
  ·have e:inN n=false:=decide_eq_false fun h=>h1 h.2
   rw[e];clear e;go_enter Tryz.func50,Tryz.ntmps50;go_wp2;go_ret;exact⟨by simp[h0,h1],rfl⟩
 ·have e:inN n=false:=decide_eq_false fun h=>h0 h.1
  rw[e];clear e;go_enter Tryz.func50,Tryz.ntmps50;go_wp2;go_ret;exact⟨by simp[h0],rfl⟩
end Go.Proofs.YtpgddamhdfmdjaaGreatDoor
