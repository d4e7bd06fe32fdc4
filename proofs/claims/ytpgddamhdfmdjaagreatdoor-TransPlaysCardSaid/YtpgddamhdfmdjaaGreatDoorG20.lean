/- Tem Ten Dt -/
import Derived.Test.YtpgddamhdfmdjaaGreatDoorG19
import Derived.Sort.Walk0
import Derived.Test.YtpgddamhdfmdjaaGreatDoorG2
import Derived.Test.YtpgddamhdfmdjaaGreatDoorG1
set_option linter.unusedSimpArgs false
set_option linter.unusedVariables false
set_option maxRecDepth 100000
set_option maxHeartbeats 16000000
namespace Go.Proofs.YtpgddamhdfmdjaaGreatDoor
open Go.ChangeShapes Go.WideShapes Go.ChangeAt Go.RowKit
theorem Nz(v:Value)(l:List Rw)(w:World)(h:RR w v l):
  Calls Tryz.prog 47 #[v] w fun e w'=>e=.returned (.bool (Hd l))∧Below w.heap.size w w':=by
 obtain⟨R,hR⟩:∃R,Hd l=R:=⟨_,rfl⟩;rw[hR];obtain⟨a,cap,rfl⟩:=h.form;have HH:=qid h
 by_cases eZ:l.length≤64
 ·have hg:BY l l.length 0=R:=by rw[←hR];unfold Hd;rw[decide_eq_true eZ,Bool.true_and]
  have ko:¬((64:Int)<(l.length:Int)):=by omega
  obtain⟨HG,BF⟩:=hZ2 hg eZ;clear h hR hg;go_enter Tryz.func47,Tryz.ntmps47;go_wp2
  go_loopg [11] l.length (fun gk nS wx=>∃i:Nat,nS=.int .i64 (i:Int)∧i+gk=l.length∧Below w.heap.size w wx∧BY l gk i=R)
  case atStart=>exact⟨0,rfl,by omega,Below.refl _ _,HG.out⟩
  case round=>
   obtain⟨i,rfl,hi,hB,hr⟩:=hrel;obtain⟨HB,HI⟩:=hZ2 hB hi
   cases gk with
   |zero=>
    have l1:¬((i:Int)<(l.length:Int)):=by omega
    have hR:R=true:=hr.symm;subst hR;clear hB hi hr;go_wp2;go_ret;exact⟨rfl,HB.out⟩
   |succ gk=>
    have aD:i<l.length:=by omega
    have dP:=HH.out.below hB;obtain⟨b,o,cp,he,cL,hx⟩:=dP.inv (by omega)
    injection he with ea _ ec;subst ea ec;obtain⟨r,bJ⟩:∃r,l[i]=r:=⟨_,rfl⟩;obtain⟨x0,x1⟩:=hx i r (by rw[List.getElem?_eq_getElem aD,bJ])
    have cr:b<wr.heap.size:=World.block_lt_of_cell? wr _ x0;have l0:(0:Int)≤(i:Int):=by omega
    have l1:(i:Int)<(l.length:Int):=by omega
    obtain⟨i1,aN⟩:∃i1,i+1=i1:=⟨_,rfl⟩;have wk:IntKind.i64.wrap ((i:Int)+1)=(i1:Int):=by rw[show(i:Int)+1=(i1:Int) by omega];exact IntWalk.i64_in _ (by have:=BF.out;omega)
    have aQ:=qid aN;rw[BY,aN]at hr;have fq:JT l i=((i==0||(match l[i-1]? with|some q=>decide (q.1<r.1)|none=>true))&&(inN r.1&&inN r.2)):=by
     unfold JT;rw[List.getElem?_eq_getElem aD,bJ];all_goals rfl
    rw[fq]at hr;obtain⟨r0,r1⟩:=r;have kV:=qid (Tm r0);have cu:=qid (Tm r1);obtain⟨a0,qT⟩:∃a0,inN r0=a0:=⟨_,rfl⟩;obtain⟨a1,ee⟩:∃a1,inN r1=a1:=⟨_,rfl⟩;rw[qT]at kV;rw[ee]at cu;simp only[qT,ee]at hr;have fX:=(hB.alloc hB.size (.cells #[.int .i64 r0,.int .i64 r1] 57));have fY:=qid fX
    by_cases h0:i=0
    ·subst h0
     have ch:((a0&&a1)&&BY l gk i1)=R:=by simpa using hr
     have cM:=qid ch;clear hB hi hr dP hx bJ aN fq qT ee fX ch aD;simp only[Int.natCast_zero,Nat.zero_mul,Nat.add_zero]at x0 x1 l0 l1 wk
     cases a0 with
     |false=>
      have gv:R=false:=by have:=cM.out;simpa using this.symm
      have cy:=qid gv;clear gv;go_wp2
      go_quiet (fail)
      go_wp2_with (first
       |(go_at_call 69;(with_reducible refine(kV.out _).mono ?_);rintro e w2 ⟨rfl,iO⟩;obtain rfl:=iO)
       |(go_at_call 69;(with_reducible refine(cu.out _).mono ?_);rintro e w3 ⟨rfl,iv⟩;obtain rfl:=iv))
      go_ret;exact⟨by rw[cy.out];rfl,fY.out.trans (el _ _ _)⟩
     |true=>
      cases a1 with
      |false=>
       have gv:R=false:=by have:=cM.out;simpa using this.symm
       have cy:=qid gv;clear gv;go_wp2
       go_quiet (fail)
       go_wp2_with (first
        |(go_at_call 69;(with_reducible refine(kV.out _).mono ?_);rintro e w2 ⟨rfl,iO⟩;obtain rfl:=iO)
        |(go_at_call 69;(with_reducible refine(cu.out _).mono ?_);rintro e w3 ⟨rfl,iv⟩;obtain rfl:=iv))
       go_ret;exact⟨by rw[cy.out];rfl,fY.out.trans (el _ _ _)⟩
      |true=>
       go_wp2
       go_quiet (fail)
       go_wp2_with (first
        |(go_at_call 69;(with_reducible refine(kV.out _).mono ?_);rintro e w2 ⟨rfl,iO⟩;obtain rfl:=iO)
        |(go_at_call 69;(with_reducible refine(cu.out _).mono ?_);rintro e w3 ⟨rfl,iv⟩;obtain rfl:=iv))
       go_roundg gk
       case measure=>exact Nat.lt_succ_self _
       case rel=>exact⟨i1,by rw[←aQ.out];rfl,by have:=aQ.out;have:=HI.out;omega,fY.out.trans (el _ _ _),by have:=cM.out;simpa using this⟩
    ·obtain⟨j,hj⟩:∃j,j+1=i:=⟨i-1,by omega⟩
     have dk:j<l.length:=by omega
     obtain⟨q,hq⟩:∃q,l[j]=q:=⟨_,rfl⟩;obtain⟨y0,y1⟩:=hx j q (by rw[List.getElem?_eq_getElem dk,hq])
     have gG:l[i-1]? =some q:=by rw[show i-1=j by omega,List.getElem?_eq_getElem dk,hq]
     obtain⟨q0,q1⟩:=q;have e0:((i:Int)==0)=false:=by rw[beq_eq_false_iff_ne];omega
     have e1:decide ((i:Int)=0)=false:=by rw[decide_eq_false_iff_not];omega
     have n0:(i==0)=false:=by rw[beq_eq_false_iff_ne];exact h0
     have wj:IntKind.i64.wrap ((i:Int)-1)=(j:Int):=by rw[show(i:Int)-1=(j:Int) by omega];exact IntWalk.i64_in _ (by have:=BF.out;omega)
     have j0:(0:Int)≤(j:Int):=by omega
     have j1:(j:Int)<(l.length:Int):=by omega
     rw[n0,gG]at hr;simp only[Bool.false_or]at hr;have kA:=qid hr;have b7:¬(i:Int)=0:=by omega
     clear hB hi hr dP hx bJ aN fq qT ee fX aD hq gG hj dk h0 n0
     by_cases hc:q0<r0
     ·have ch:((a0&&a1)&&BY l gk i1)=R:=by have:=kA.out;rw[decide_eq_true hc,Bool.true_and]at this;exact this
      have cM:=qid ch;clear ch
      cases a0 with
      |false=>
       have gv:R=false:=by have:=cM.out;simpa using this.symm
       have cy:=qid gv;clear gv;go_wp2
       go_quiet (fail)
       go_wp2_with (first
        |(go_at_call 69;(with_reducible refine(kV.out _).mono ?_);rintro e w2 ⟨rfl,iO⟩;obtain rfl:=iO)
        |(go_at_call 69;(with_reducible refine(cu.out _).mono ?_);rintro e w3 ⟨rfl,iv⟩;obtain rfl:=iv))
       go_ret;exact⟨by rw[cy.out];rfl,fY.out.trans (el _ _ _)⟩
      |true=>
       cases a1 with
       |false=>
        have gv:R=false:=by have:=cM.out;simpa using this.symm
        have cy:=qid gv;clear gv;go_wp2
        go_quiet (fail)
        go_wp2_with (first
         |(go_at_call 69;(with_reducible refine(kV.out _).mono ?_);rintro e w2 ⟨rfl,iO⟩;obtain rfl:=iO)
         |(go_at_call 69;(with_reducible refine(cu.out _).mono ?_);rintro e w3 ⟨rfl,iv⟩;obtain rfl:=iv))
        go_ret;exact⟨by rw[cy.out];rfl,fY.out.trans (el _ _ _)⟩
       |true=>
        go_wp2
        go_quiet (fail)
        go_wp2_with (first
         |(go_at_call 69;(with_reducible refine(kV.out _).mono ?_);rintro e w2 ⟨rfl,iO⟩;obtain rfl:=iO)
         |(go_at_call 69;(with_reducible refine(cu.out _).mono ?_);rintro e w3 ⟨rfl,iv⟩;obtain rfl:=iv))
        go_roundg gk
        case measure=>exact Nat.lt_succ_self _
        case rel=>exact⟨i1,rfl,by have:=aQ.out;have:=HI.out;omega,fY.out.trans (el _ _ _),by have:=cM.out;simpa using this⟩
     ·have gv:R=false:=by have:=kA.out;rw[decide_eq_false hc,Bool.false_and,Bool.false_and]at this;exact this.symm
      have cy:=qid gv;clear gv;go_wp2
      go_quiet (fail)
      go_wp2;go_ret;exact⟨by rw[cy.out];rfl,fY.out.trans (el _ _ _)⟩
 ·have ko:(64:Int)<(l.length:Int):=by omega
  have dC:R=false:=by rw[←hR];unfold Hd;rw[decide_eq_false eZ,Bool.false_and]
  subst dC;clear h hR eZ;go_enter Tryz.func47,Tryz.ntmps47;go_wp2;go_ret;exact⟨rfl,Below.refl _ _⟩
def La(s:List Tb)(i:Nat):Bool:=match s[i]? with
 |none=>true
 |some t=>(i==0||(match s[i-1]? with|some q=>decide (q.1.toList<t.1.toList)|none=>true))&&(decide (t.1.size≠0)&&(decide (t.1.size≤30)&&Hd t.2))
def m6(s:List Tb):Nat→Nat→Bool
 |0,_=>true
 |n+1,i=>La s i&&m6 s n (i+1)
def wt(s:List Tb):Bool:=decide (s.length≤16)&&m6 s s.length 0
theorem ZW(s:ByteArray):s.toList.isEmpty=decide (s.size=0):=by
 rcases JH s with⟨h,rfl⟩|⟨h,h2⟩
 ·rw[h];rfl
 ·rw[h];exact(decide_eq_false (by omega)).symm
theorem N0(v:Value)(s:List Tb)(w:World)(h:SR w v s):
  Calls Tryz.prog 24 #[v] w fun e w'=>e=.returned (.bool (wt s))∧Below w.heap.size w w':=by
 obtain⟨R,hR⟩:∃R,wt s=R:=⟨_,rfl⟩;rw[hR];obtain⟨a,cap,rfl⟩:=h.form;have HH:=qid h
 by_cases dR:s.length≤16
 ·have hg:m6 s s.length 0=R:=by rw[←hR];unfold wt;rw[decide_eq_true dR,Bool.true_and]
  have pz:¬((16:Int)<(s.length:Int)):=by omega
  obtain⟨HG,uq⟩:=hZ2 hg dR;clear h hR hg;go_enter Tryz.func24,Tryz.ntmps24;go_wp2
  go_loopg [11] s.length (fun gk nS wx=>∃i:Nat,nS=.int .i64 (i:Int)∧i+gk=s.length∧Below w.heap.size w wx∧m6 s gk i=R)
  case atStart=>exact⟨0,rfl,by omega,Below.refl _ _,HG.out⟩
  case round=>
   obtain⟨i,rfl,hi,hB,hr⟩:=hrel;obtain⟨HB,HI⟩:=hZ2 hB hi
   cases gk with
   |zero=>
    have l1:¬((i:Int)<(s.length:Int)):=by omega
    have hR:R=true:=hr.symm;subst hR;clear hB hi hr;go_wp2;go_ret;exact⟨rfl,HB.out⟩
   |succ gk=>
    have aD:i<s.length:=by omega
    have dP:=HH.out.below hB;obtain⟨b,o,cp,he,cL,hx⟩:=dP.inv (by omega)
    injection he with ea _ ec;subst ea ec;obtain⟨t,de⟩:∃t,s[i]=t:=⟨_,rfl⟩;obtain⟨x0,u,x1,hu⟩:=hx i t (by rw[List.getElem?_eq_getElem aD,de])
    have cr:b<wr.heap.size:=World.block_lt_of_cell? wr _ x0;have l0:(0:Int)≤(i:Int):=by omega
    have l1:(i:Int)<(s.length:Int):=by omega
    obtain⟨i1,aN⟩:∃i1,i+1=i1:=⟨_,rfl⟩;have wk:IntKind.i64.wrap ((i:Int)+1)=(i1:Int):=by rw[show(i:Int)+1=(i1:Int) by omega];exact IntWalk.i64_in _ (by have:=uq.out;omega)
    have aQ:=qid aN;rw[m6,aN]at hr;have fq:La s i=((i==0||(match s[i-1]? with|some q=>decide (q.1.toList<t.1.toList)|none=>true))&&(decide (t.1.size≠0)&&(decide (t.1.size≤30)&&Hd t.2))):=by
     unfold La;rw[List.getElem?_eq_getElem aD,de]
    rw[fq]at hr;obtain⟨n,rs⟩:=t;obtain⟨ua,eJ,rfl⟩:=hu.form;have fX:=(hB.alloc hB.size (.cells #[.string n,.slice ua rs.length eJ] 55));have fY:=qid fX;have HU:=qid (fun nq=>Nz _ rs ((wr.alloc (.cells #[.string n,.slice ua rs.length eJ] 55)).drewN nq) ((hu.below ((Below.refl _ _).alloc (Nat.le_refl _) _)).below (el _ _ _)))
    obtain⟨A,hA⟩:∃A,Hd rs=A:=⟨_,rfl⟩;rw[hA]at HU;simp only[hA]at hr;have lO:=ZW n
    by_cases h0:i=0
    ·subst h0
     have ch:((decide (n.size≠0)&&(decide (n.size≤30)&&A))&&m6 s gk i1)=R:=by simpa using hr
     have cM:=qid ch;clear hB hi hr dP hx de aN fq hA fX ch aD hu;simp only[Int.natCast_zero,Nat.zero_mul,Nat.add_zero]at x0 x1 l0 l1 wk
     by_cases hz:n.size=0
     ·have yb:n.toList.isEmpty=true:=by rw[lO];exact decide_eq_true hz
      have cy:Hid (R=false):=qid (by have:=cM.out;simpa[*]using this.symm)
      clear lO hz;go_wp2
      go_quiet (fail)
      go_wp2;go_ret;exact⟨by rw[cy.out];rfl,fY.out.trans (el _ _ _)⟩
     ·have yb:n.toList.isEmpty=false:=by rw[lO];exact decide_eq_false hz
      by_cases eX:n.size≤30
      ·have pj:¬((30:Int)<(n.size:Int)):=by omega
       cases A with
       |false=>
        have cy:Hid (R=false):=qid (by have:=cM.out;simpa[*]using this.symm)
        clear lO hz eX;go_wp2
        go_quiet (fail)
        go_wp2_with (go_at_call 47;(refine(HU.out _).mono ?_);rintro e w2 ⟨rfl,aA⟩;have aL:=qid aA;clear aA);go_ret;exact⟨by rw[cy.out];rfl,(fY.out.trans (el _ _ _)).trans (aL.out.mono fY.out.size)⟩
       |true=>
        have iG:Hid (m6 s gk i1=R):=qid (by have:=cM.out;simpa[hz,eX]using this)
        clear lO hz eX;go_wp2
        go_quiet (fail)
        go_wp2_with (go_at_call 47;(refine(HU.out _).mono ?_);rintro e w2 ⟨rfl,aA⟩;have aL:=qid aA;clear aA);go_roundg gk
        case measure=>exact Nat.lt_succ_self _
        case rel=>exact⟨i1,by rw[←aQ.out];rfl,by have:=aQ.out;have:=HI.out;omega,(fY.out.trans (el _ _ _)).trans (aL.out.mono fY.out.size),iG.out⟩
      ·have pj:(30:Int)<(n.size:Int):=by omega
       have cy:Hid (R=false):=qid (by have:=cM.out;simpa[*]using this.symm)
       clear lO hz eX;go_wp2
       go_quiet (fail)
       go_wp2;go_ret;exact⟨by rw[cy.out];rfl,fY.out.trans (el _ _ _)⟩
    ·obtain⟨j,hj⟩:∃j,j+1=i:=⟨i-1,by omega⟩
     have dk:j<s.length:=by omega
     obtain⟨q,hq⟩:∃q,s[j]=q:=⟨_,rfl⟩;obtain⟨y0,_⟩:=hx j q (by rw[List.getElem?_eq_getElem dk,hq])
     have gG:s[i-1]? =some q:=by rw[show i-1=j by omega,List.getElem?_eq_getElem dk,hq]
     obtain⟨qn,qr⟩:=q;have e0:((i:Int)==0)=false:=by rw[beq_eq_false_iff_ne];omega
     have e1:decide ((i:Int)=0)=false:=by rw[decide_eq_false_iff_not];omega
     have n0:(i==0)=false:=by rw[beq_eq_false_iff_ne];exact h0
     have wj:IntKind.i64.wrap ((i:Int)-1)=(j:Int):=by rw[show(i:Int)-1=(j:Int) by omega];exact IntWalk.i64_in _ (by have:=uq.out;omega)
     have j0:(0:Int)≤(j:Int):=by omega
     have j1:(j:Int)<(s.length:Int):=by omega
     rw[n0,gG]at hr;simp only[Bool.false_or]at hr;have kA:=qid hr;have b7:¬(i:Int)=0:=by omega
     clear hB hi hr dP hx de aN fq hA fX aD hq gG hj dk h0 n0 hu
     by_cases hc:qn.toList<n.toList
     ·have ch:((decide (n.size≠0)&&(decide (n.size≤30)&&A))&&m6 s gk i1)=R:=by have:=kA.out;rw[decide_eq_true hc,Bool.true_and]at this;exact this
      have cM:=qid ch;have ur:Op.bytesLess qn.toList n.toList=true:=by rw[Go.Proofs.bytesLess_eq];exact decide_eq_true hc
      clear ch hc
      by_cases hz:n.size=0
      ·have yb:n.toList.isEmpty=true:=by rw[lO];exact decide_eq_true hz
       have cy:Hid (R=false):=qid (by have:=cM.out;simpa[*]using this.symm)
       clear lO hz;go_wp2
       go_quiet (fail)
       go_wp2;go_ret;exact⟨by rw[cy.out];rfl,fY.out.trans (el _ _ _)⟩
      ·have yb:n.toList.isEmpty=false:=by rw[lO];exact decide_eq_false hz
       by_cases eX:n.size≤30
       ·have pj:¬((30:Int)<(n.size:Int)):=by omega
        cases A with
        |false=>
         have cy:Hid (R=false):=qid (by have:=cM.out;simpa[*]using this.symm)
         clear lO hz eX;go_wp2
         go_quiet (fail)
         go_wp2_with (go_at_call 47;(refine(HU.out _).mono ?_);rintro e w2 ⟨rfl,aA⟩;have aL:=qid aA;clear aA);go_ret;exact⟨by rw[cy.out];rfl,(fY.out.trans (el _ _ _)).trans (aL.out.mono fY.out.size)⟩
        |true=>
         have iG:Hid (m6 s gk i1=R):=qid (by have:=cM.out;simpa[hz,eX]using this)
         clear lO hz eX;go_wp2
         go_quiet (fail)
         go_wp2_with (go_at_call 47;(refine(HU.out _).mono ?_);rintro e w2 ⟨rfl,aA⟩;have aL:=qid aA;clear aA);go_roundg gk
         case measure=>exact Nat.lt_succ_self _
         case rel=>exact⟨i1,rfl,by have:=aQ.out;have:=HI.out;omega,(fY.out.trans (el _ _ _)).trans (aL.out.mono fY.out.size),iG.out⟩
       ·have pj:(30:Int)<(n.size:Int):=by omega
        have cy:Hid (R=false):=qid (by have:=cM.out;simpa[*]using this.symm)
        clear lO hz eX;go_wp2
        go_quiet (fail)
        go_wp2;go_ret;exact⟨by rw[cy.out];rfl,fY.out.trans (el _ _ _)⟩
     ·have gv:R=false:=by have:=kA.out;rw[decide_eq_false hc,Bool.false_and,Bool.false_and]at this;exact this.symm
      have cy:=qid gv;have ur:Op.bytesLess qn.toList n.toList=false:=by rw[Go.Proofs.bytesLess_eq];exact decide_eq_false hc
      clear gv hc;go_wp2
      go_quiet (fail)
      go_wp2;go_ret;exact⟨by rw[cy.out];rfl,fY.out.trans (el _ _ _)⟩
 ·have pz:(16:Int)<(s.length:Int):=by omega
  have dC:R=false:=by rw[←hR];unfold wt;rw[decide_eq_false dR,Bool.false_and]
  subst dC;clear h hR dR;go_enter Tryz.func24,Tryz.ntmps24;go_wp2;go_ret;exact⟨rfl,Below.refl _ _⟩
theorem RH{q:Nat→Bool}{f:Nat→Nat→Bool}(h0:∀i,f 0 i=true)(h1:∀n i,f (n+1) i=(q i&&f n (i+1))):∀n i,f n i=true↔∀j,i≤j→j<i+n→q j=true
 |0,i=>by
  constructor
  ·intro _ j h2 h3;omega
  ·intro _;exact h0 i
 |n+1,i=>by
  rw[h1,Bool.and_eq_true,RH h0 h1 n (i+1)];constructor
  ·rintro⟨a,b⟩ j h2 h3
   rcases Nat.lt_or_ge i j with h|h
   ·exact b j (by omega) (by omega)
   ·have:j=i:=by omega
    subst this;exact a
  ·intro h
   exact⟨h i (Nat.le_refl _) (by omega),fun j h2 h3=>h j (by omega) (by omega)⟩
theorem Km(n:Int):inN n=true↔inI n:=by unfold inN inI;exact decide_eq_true_iff
theorem Ql(l:List Rw):Hd l=true↔Ii l:=by
 unfold Hd;rw[Bool.and_eq_true,decide_eq_true_iff,RH (f:=BY l) (q:=JT l) (fun _=>rfl) (fun _ _=>rfl)]
 constructor
 ·rintro⟨h1,h2⟩
  refine⟨h1,?_,fun r hr=>?_⟩
  ·refine Ts (R:=fun a b:Rw=>a.1<b.1) (fun a b c h3 h4=>Int.lt_trans h3 h4) fun i a b ha hb=>?_
   have hl:=(List.getElem?_eq_some_iff.1 hb).1;have:=h2 (i+1) (Nat.zero_le _) (by omega)
   unfold JT at this;rw[hb]at this;simp only[Nat.add_sub_cancel,ha,Bool.and_eq_true,Bool.or_eq_true,beq_iff_eq,decide_eq_true_eq]at this;rcases this.1 with h|h
   ·omega
   ·exact h
  ·obtain⟨i,hi⟩:=List.getElem?_of_mem hr
   have hl:=(List.getElem?_eq_some_iff.1 hi).1;have:=h2 i (Nat.zero_le _) (by omega)
   unfold JT at this;rw[hi]at this;simp only[Bool.and_eq_true]at this;exact⟨(Km _).1 this.2.1,(Km _).1 this.2.2⟩
 ·intro h
  refine⟨h.len,fun j _ hj=>?_⟩
  unfold JT;rw[List.getElem?_eq_getElem (by omega)]
  have hi:=h.ins _ (List.getElem_mem (by omega:j<l.length))
  simp only[Bool.and_eq_true,Bool.or_eq_true,beq_iff_eq];refine⟨?_,(Km _).2 hi.1,(Km _).2 hi.2⟩
  by_cases h0:j=0
  ·exact .inl h0
  ·right
   rw[List.getElem?_eq_getElem (by omega:j-1<l.length)]
   exact decide_eq_true (h.up (j-1) j _ _ (by omega) (List.getElem?_eq_getElem (by omega)) (List.getElem?_eq_getElem (by omega)))
theorem N1(s:List Tb):wt s=true↔KD s:=by
 unfold wt;rw[Bool.and_eq_true,decide_eq_true_iff,RH (f:=m6 s) (q:=La s) (fun _=>rfl) (fun _ _=>rfl)]
 constructor
 ·rintro⟨h1,h2⟩
  refine⟨h1,?_,fun t ht=>?_⟩
  ·refine Ts (R:=fun a b:Tb=>a.1.data.toList<b.1.data.toList) (fun a b c h3 h4=>List.lt_trans h3 h4) fun i a b ha hb=>?_
   have hl:=(List.getElem?_eq_some_iff.1 hb).1;have:=h2 (i+1) (Nat.zero_le _) (by omega)
   unfold La at this;rw[hb]at this;simp only[Nat.add_sub_cancel,ha,Bool.and_eq_true,Bool.or_eq_true,beq_iff_eq,decide_eq_true_eq,Lib.toList_data]at this;rcases this.1 with h|h
   ·omega
   ·exact h
  ·obtain⟨i,hi⟩:=List.getElem?_of_mem ht
   have hl:=(List.getElem?_eq_some_iff.1 hi).1;have:=h2 i (Nat.zero_le _) (by omega)
   unfold La at this;rw[hi]at this;simp only[Bool.and_eq_true,decide_eq_true_eq]at this;exact⟨by have:=this.2.1;omega,this.2.2.1,(Ql _).1 this.2.2.2⟩
 ·intro h
  refine⟨h.len,fun j _ hj=>?_⟩
  unfold La;rw[List.getElem?_eq_getElem (by omega)]
  have hi:=h.each _ (List.getElem_mem (by omega:j<s.length))
  simp only[Bool.and_eq_true,Bool.or_eq_true,beq_iff_eq,decide_eq_true_eq];refine⟨?_,by have:=hi.1;omega,hi.2.1,(Ql _).2 hi.2.2⟩
  by_cases h0:j=0
  ·exact .inl h0
  ·right
   rw[List.getElem?_eq_getElem (by omega:j-1<s.length)]
   simp only[decide_eq_true_eq,Lib.toList_data];exact h.up (j-1) j _ _ (by omega) (List.getElem?_eq_getElem (by omega)) (List.getElem?_eq_getElem (by omega))
theorem XA:Kv ⟨#[]⟩=false:=by kernel_rfl
theorem N2{kd:Int}{n:ByteArray}{K V:Int}{kb:Bool}(h:Ho (kd,n,K,V,kb)≠[]):(1≤kd∧kd≤5)∧(0<n.size∧n.size≤30)∧inI K∧inI V∧IU n=true∧((kd=2∨kd=3)→kb=true):=by
 obtain⟨q,hq,h1,h2,gf,_⟩:=Uv _ h;obtain⟨⟨p1,p2,p3⟩,_⟩:=Mi _ gf;simp only at h1 h2 p1 p2 p3;have hn:=p1;unfold IU at hn;simp only[Bool.and_eq_true,decide_eq_true_eq]at hn;refine⟨?_,⟨?_,hn.1.1.1⟩,(Km _).1 p2,(Km _).1 p3,p1,?_⟩
 ·simp only[i9,List.mem_cons,List.not_mem_nil,or_false]at hq
  rcases hq with rfl|rfl|rfl|rfl|rfl|rfl|rfl<;>simp only at h1<;>omega
 ·rcases Nat.eq_zero_or_pos n.size with h0|h0
  ·have:n=⟨#[]⟩:=Mj n h0
   rw[this,XA]at hn;exact absurd hn.1.1.2 (by decide)
  ·exact h0
 ·simp only[i9,List.mem_cons,List.not_mem_nil,or_false]at hq
  rcases hq with rfl|rfl|rfl|rfl|rfl|rfl|rfl<;>simp only at h1 h2<;>(intro h3;first|exact h2|omega)
end Go.Proofs.YtpgddamhdfmdjaaGreatDoor
