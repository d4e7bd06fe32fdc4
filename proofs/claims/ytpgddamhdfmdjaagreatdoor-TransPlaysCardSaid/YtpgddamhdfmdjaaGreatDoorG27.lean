/- Drt -/
import Derived.Test.YtpgddamhdfmdjaaGreatDoorG20
import Derived.Test.YtpgddamhdfmdjaaGreatDoorG16
import Derived.Test.YtpgddamhdfmdjaaGreatDoorG3
import Derived.Test.YtpgddamhdfmdjaaGreatDoorG26
import Derived.Deep.RegionHeld3
import Derived.Test.YtpgddamhdfmdjaaGreatDoorG1
set_option linter.unusedSimpArgs false
set_option linter.unusedVariables false
set_option maxRecDepth 100000
set_option maxHeartbeats 16000000
namespace Go.Proofs.YtpgddamhdfmdjaaGreatDoor
open Go.ChangeShapes Go.WideShapes Go.ChangeAt Go.RowKit
theorem RO(a b:ByteArray)(R:Bool)(hR:decide (a.toList<b.toList)=R)(ha:a.size≤1000000)(hb:b.size≤1000000)(w:World):
  Calls Tryz.prog 49 #[.string a,.string b] w fun e w'=>e=.returned (.bool R)∧Below w.heap.size w w':=by
 subst hR;refine(Lt a b w (by omega) (by omega)).mono ?_
 rintro e w' ⟨he,n,rfl⟩;exact⟨he,el _ _ _⟩
theorem RS(v:Value)(s:List Tb)(w:World)(h:SR w v s)(hf:IK s):
  Calls Tryz.prog 27 #[v] w fun e w'=>e=.returned (.bool (wt s))∧Below w.heap.size w w':=by
 obtain⟨R,hR⟩:∃R,wt s=R:=⟨_,rfl⟩;rw[hR];obtain⟨a,cap,rfl⟩:=h.form;obtain⟨HH,xF⟩:=hZ2 h hf
 by_cases dR:s.length≤16
 ·have hg:m6 s s.length 0=R:=by rw[←hR];unfold wt;rw[decide_eq_true dR,Bool.true_and]
  have pz:¬((16:Int)<(s.length:Int)):=by omega
  obtain⟨HG,uq⟩:=hZ2 hg dR;clear h hR hg hf dR;go_enter Tryz.func27,Tryz.ntmps27;go_wp2_with fail
  go_loopg [3] s.length (fun gk u3 wx=>∃i:Nat,u3=.int .i64 (i:Int)∧i+gk=s.length∧Below w.heap.size w wx∧m6 s gk i=R)
  case atStart=>exact⟨0,rfl,by omega,Below.refl _ _,HG.out⟩
  case round=>
   obtain⟨i,rfl,hi,hB,hr⟩:=hrel;obtain⟨HB,HI⟩:=hZ2 hB hi
   cases gk with
   |zero=>
    have l1:¬((i:Int)<(s.length:Int)):=by omega
    have hR:R=true:=hr.symm;subst hR;clear hB hi hr;go_wp2;go_ret;exact⟨rfl,HB.out⟩
   |succ kY=>
    have aD:i<s.length:=by omega
    obtain⟨b,o,cp,he,cL,hx⟩:=(HH.out.below hB).inv (by omega)
    injection he with ea _ ec;subst ea ec;obtain⟨t,de⟩:∃t,s[i]=t:=⟨_,rfl⟩;have dr:s[i]? =some t:=by rw[List.getElem?_eq_getElem aD,de]
    obtain⟨x0,u,x1,hu⟩:=hx i t dr;have cJ:=xF.out.2 t (List.mem_of_getElem? dr);have l0:(0:Int)≤(i:Int):=by omega
    have l1:(i:Int)<(s.length:Int):=by omega
    obtain⟨i1,aN⟩:∃i1,i+1=i1:=⟨_,rfl⟩;have wk:IntKind.i64.wrap ((i:Int)+1)=(i1:Int):=by rw[show(i:Int)+1=(i1:Int) by omega];exact IntWalk.i64_in _ (by have:=uq.out;omega)
    have aQ:=qid aN;rw[m6,aN]at hr;have fq:La s i=((i==0||(match s[i-1]? with|some q=>decide (q.1.toList<t.1.toList)|none=>true))&&(decide (t.1.size≠0)&&(decide (t.1.size≤30)&&Hd t.2))):=by
     unfold La;rw[dr];all_goals rfl
    rw[fq]at hr;obtain⟨n,rs⟩:=t;obtain⟨ua,eJ,rfl⟩:=hu.form;simp only at x0 x1 hu hr cJ;obtain⟨jq,dz,bX⟩:=hZ3 dr x0 x1;have aR:=qid (World.block_lt_of_cell? _ _ x0);obtain⟨HU,kX⟩:=hZ2 hu cJ;have oK:i≠0→∃(j:Nat) (pn:ByteArray) (pr:List Rw),j+1=i∧s[i-1]? =some (pn,pr)∧wr.cell? ⟨b,o+j*2,none⟩=some (.string pn)∧pn.size≤1000000:=fun il=>by
     have hj:s[i-1]? =some s[i-1]:=List.getElem?_eq_getElem (by omega)
     obtain⟨c0,_⟩:=hx (i-1) _ hj;exact⟨i-1,s[i-1].1,s[i-1].2,by omega,hj,c0,(xF.out.2 _ (List.mem_of_getElem? hj)).1⟩
    obtain⟨eC,E6⟩:=hZ2 hr oK;clear hB hi hx de dr hu cJ aN fq hr oK aD cL x0 x1
    by_cases hz:n.size=0
    ·have nw:(n.size:Int)<1:=by omega
     have cy:Hid (R=false):=qid (by have:=eC.out;simpa[hz]using this.symm)
     clear hz;go_wp2_with fail;refine wp_region_held_drew (S:=(fun w'=>Below wr.heap.size wr w')) (by kernel_rfl) ?_ (fun hS=>?_)
     ·exact(Below.refl _ _).drew
     try dsimp only at hS
     refine tkY 0 ?_ rfl hS ?_ ?_;rotate_left
     ·intro wz a8;have fH:=bcl a8 aR.out dz.out;have ab:=bcl a8 aR.out bX.out;go_simp;(try simp only[bB.out,ar.out,aw.out,aK.out,aq.out]);all_goals with_reducible rfl
     iterate 7 ((try simp only[Act.put,pu]);refine tkM ?_ rfl hS ?_ ?_;rotate_left;(·intro wz a8;have fH:=bcl a8 aR.out dz.out;have ab:=bcl a8 aR.out bX.out;go_simp;(try simp only[bB.out,ar.out,aw.out,aK.out,aq.out]);all_goals with_reducible rfl))
     iterate 7 ((try simp only[Act.put,pu]);refine tkL rfl hS ?_)
     iterate 2 ((try simp only[Act.put,pu]);refine tkM ?_ rfl hS ?_ ?_;rotate_left;(·intro wz a8;have fH:=bcl a8 aR.out dz.out;have ab:=bcl a8 aR.out bX.out;go_simp;(try simp only[bB.out,ar.out,aw.out,aK.out,aq.out]);all_goals with_reducible rfl))
     iterate 17 ((try simp only[Act.put,pu]);refine tkL rfl hS ?_)
     iterate 2 ((try simp only[Act.put,pu]);refine tkM ?_ rfl hS ?_ ?_;rotate_left;(·intro wz a8;have fH:=bcl a8 aR.out dz.out;have ab:=bcl a8 aR.out bX.out;go_simp;(try simp only[bB.out,ar.out,aw.out,aK.out,aq.out]);all_goals with_reducible rfl))
     iterate 7 ((try simp only[Act.put,pu]);refine tkL rfl hS ?_)
     (try simp only[Act.put,pu]);refine tkY 43 ?_ rfl hS ?_ ?_;rotate_left
     ·intro wz a8;have fH:=bcl a8 aR.out dz.out;have ab:=bcl a8 aR.out bX.out;go_simp;(try simp only[bB.out,ar.out,aw.out,aK.out,aq.out]);all_goals with_reducible rfl
     try simp only[Act.put,pu]
     refine wpAnyH_done (by kernel_rfl) ?_ _
     have HS:=qid hS;clear hS;go_wp2;go_ret;exact⟨by rw[cy.out];rfl,HB.out.trans (HS.out.mono HB.out.size)⟩
    ·have nw:¬((n.size:Int)<1):=by omega
     have bB:=qid (show decide ((n.size:Int)<1)=false from decide_eq_false nw)
     by_cases eX:n.size≤30
     ·have nJ:¬((30:Int)<(n.size:Int)):=by omega
      have ar:=qid (show decide ((30:Int)<(n.size:Int))=false from decide_eq_false nJ);have bg:decide (n.size≠0)=true:=decide_eq_true hz;have kk:decide (n.size≤30)=true:=decide_eq_true eX;have iG:=qid (show(((i==0||(match s[i-1]? with|some q=>decide (q.1.toList<n.toList)|none=>true))&&Hd rs)&&m6 s kY i1)=R by have:=eC.out;rw[bg,kk,Bool.true_and,Bool.true_and]at this;exact this)
      clear hz bg kk eX;have vP:Hid (64<rs.length→Hd rs=false):=qid (fun h=>by unfold Hd;rw[decide_eq_false (by omega),Bool.false_and])
      have vQ:Hid (rs.length≤64→Hd rs=BY rs rs.length 0):=qid (fun h=>by unfold Hd;rw[decide_eq_true h,Bool.true_and])
      by_cases il:i=0
      ·have lz:¬((0:Int)<(i:Int)):=by omega
       have aw:=qid (show decide ((0:Int)<(i:Int))=false from decide_eq_false lz);have aK:=qid (show decide (0<i)=false from decide_eq_false (by omega))
       by_cases eZ:rs.length≤64
       ·have ko:¬((64:Int)<(rs.length:Int)):=by omega
        have aq:=qid (show decide ((64:Int)<(rs.length:Int))=false from decide_eq_false ko);have dV:=qid (show(BY rs rs.length 0&&m6 s kY i1)=R by have:=iG.out;rw[il,vQ.out eZ]at this;simpa using this)
        clear il eZ;go_wp2_with fail;refine wp_region_held_drew (S:=(fun w'=>Below wr.heap.size wr w')) (by kernel_rfl) ?_ (fun hS=>?_)
        ·exact(Below.refl _ _).drew
        try dsimp only at hS
        refine tkY 0 ?_ rfl hS ?_ ?_;rotate_left
        ·intro wz a8;have fH:=bcl a8 aR.out dz.out;have ab:=bcl a8 aR.out bX.out;go_simp;(try simp only[bB.out,ar.out,aw.out,aK.out,aq.out]);all_goals with_reducible rfl
        iterate 19 ((try simp only[Act.put,pu]);refine tkM ?_ rfl hS ?_ ?_;rotate_left;(·intro wz a8;have fH:=bcl a8 aR.out dz.out;have ab:=bcl a8 aR.out bX.out;go_simp;(try simp only[bB.out,ar.out,aw.out,aK.out,aq.out]);all_goals with_reducible rfl))
        iterate 13 ((try simp only[Act.put,pu]);refine tkL rfl hS ?_)
        iterate 11 ((try simp only[Act.put,pu]);refine tkM ?_ rfl hS ?_ ?_;rotate_left;(·intro wz a8;have fH:=bcl a8 aR.out dz.out;have ab:=bcl a8 aR.out bX.out;go_simp;(try simp only[bB.out,ar.out,aw.out,aK.out,aq.out]);all_goals with_reducible rfl))
        try simp only[Act.put,pu]
        refine wpAnyH_done (by kernel_rfl) ?_ _
        have E7:=qid hS;have lZ:=qid (HB.out.trans (hS.mono HB.out.size));clear hS;go_wp2_with fail
        go_loopg [4] rs.length (fun gk u4 wx=>∃k:Nat,u4=.int .i64 (k:Int)∧k+gk=rs.length∧Below w.heap.size w wx∧(BY rs gk k&&m6 s kY i1)=R)
        case atStart=>exact⟨0,rfl,by omega,lZ.out,dV.out⟩
        case round=>
         obtain⟨k,rfl,hk,lG,ch⟩:=hrel;obtain⟨aL,fO⟩:=hZ2 lG hk;obtain⟨b',o',E8,yu,_,gw⟩:=(HH.out.below lG).inv (by have:=HI.out;omega)
         injection yu with qq _ yw;injection qq with qq;injection qq with eb eo _;subst eb eo yw;obtain⟨yx,u',qt,oL⟩:=gw i (n,rs) jq.out;obtain⟨ua,eJ,rfl⟩:=oL.form
         cases gk with
         |zero=>
          have l2:¬((k:Int)<(rs.length:Int)):=by omega
          have mR:=qid (show m6 s kY i1=R by rw[←ch];rfl)
          clear hk lG ch gw oL;go_wp2;go_roundg kY
          case measure=>exact Nat.lt_succ_self _
          case rel=>exact⟨i1,rfl,by have:=aQ.out;have:=HI.out;omega,aL.out,mR.out⟩
         |succ gk=>
          have gY:k<rs.length:=by omega
          obtain⟨rb,ro,yy,j3,_,qu⟩:=oL.inv (by show 0<rs.length;omega)
          injection j3 with e1 _ e3;subst e1 e3;obtain⟨r,bJ⟩:∃r,rs[k]=r:=⟨_,rfl⟩;have kz:rs[k]? =some r:=by rw[List.getElem?_eq_getElem gY,bJ]
          obtain⟨q0,q1⟩:=qu k r kz;have mS:JT rs k=((k==0||(match rs[k-1]? with|some q=>decide (q.1<r.1)|none=>true))&&(inN r.1&&inN r.2)):=by
           unfold JT;rw[kz];all_goals rfl
          have gS:k≠0→∃(j:Nat) (pk pv:Int),j+1=k∧rs[k-1]? =some (pk,pv)∧wr.cell? ⟨rb,ro+j*2,none⟩=some (.int .i64 pk):=fun cD=>by
           have hj:rs[k-1]? =some rs[k-1]:=List.getElem?_eq_getElem (by omega)
           exact⟨k-1,_,_,by omega,hj,(qu (k-1) _ hj).1⟩
          rw[BY,mS]at ch;obtain⟨r0,r1⟩:=r;simp only at q0 q1 ch gS;have E9:(0:Int)≤(k:Int):=by omega
          have EA:(k:Int)<(rs.length:Int):=by omega
          obtain⟨k1,bq⟩:∃k1,k+1=k1:=⟨_,rfl⟩;have sJ:IntKind.i64.wrap ((k:Int)+1)=(k1:Int):=by rw[show(k:Int)+1=(k1:Int) by omega];exact IntWalk.i64_in _ (by have:=kX.out.2;omega)
          rw[bq]at ch;have cC:=qid bq;have vR:=qid (World.block_lt_of_cell? _ _ q0);have mT:=qid (World.block_lt_of_cell? _ _ qt);obtain⟨qw,cM,qx⟩:=hZ3 qt ch gS;clear hk lG gw oL gY qu bJ kz mS bq ch gS yx;go_wp2_with fail;obtain⟨g5,jt⟩:∃g5,wr.heap.size=g5:=⟨_,rfl⟩;obtain⟨W5,ir⟩:∃W5,wr.alloc (.cells #[.int .i64 r0,.int .i64 r1] 57)=W5:=⟨_,rfl⟩;have b5:Below wr.heap.size wr W5:=by rw[←ir];exact(Below.refl _ _).alloc (Nat.le_refl _) _
          have k5:Blk W5 g5 57 #[.int .i64 r0,.int .i64 r1]:=by rw[←ir];exact Blk.newAt _ _ _ _ jt
          rw[ir,jt];have cZ:=qid (aL.out.trans (b5.mono aL.out.size));have br:=qid k5;have aV:=qid ((b5.cell (p:=⟨b,o+i*2+1,none⟩) mT.out).trans qw.out);have aW:=qid (Nat.lt_of_lt_of_le mT.out b5.size);have fp:=qid (Nat.lt_of_lt_of_le vR.out b5.size);have qm:=qid (fun cD=>by
           obtain⟨j,pk,pv,h1,h2,h3⟩:=qx.out cD;exact(⟨j,pk,pv,h1,h2,(b5.cell (p:=⟨rb,ro+j*2,none⟩) vR.out).trans h3⟩:∃(j:Nat) (pk pv:Int),j+1=k∧rs[k-1]? =some (pk,pv)∧W5.cell? ⟨rb,ro+j*2,none⟩=some (.int .i64 pk)))
          clear ir jt b5 k5 qt q0 q1
          cases dN:inN r0 with
          |false=>
           have cy:Hid (R=false):=qid (by have:=cM.out;rw[dN]at this;simpa using this.symm)
           refine wp_region_held_drew (S:=(fun w'=>Below W5.heap.size W5 w')) (by kernel_rfl) ?_ (fun hS=>?_)
           ·exact(Below.refl _ _).drew
           try dsimp only at hS
           refine tkY 0 ?_ rfl hS ?_ ?_;rotate_left
           ·intro wz a8;obtain⟨yk,yv⟩:=bk2 br.out a8;have ab:=bcl a8 aW.out aV.out;go_simp;(try simp only[bB.out,ar.out,aw.out,aK.out,aq.out]);all_goals with_reducible rfl
           (try simp only[Act.put,pu]);refine tkY 1 ?_ rfl hS ?_ ?_;rotate_left
           ·intro wz a8;obtain⟨yk,yv⟩:=bk2 br.out a8;have ab:=bcl a8 aW.out aV.out;go_simp;(try simp only[bB.out,ar.out,aw.out,aK.out,aq.out]);all_goals with_reducible rfl
           try simp only[Act.put,pu]
           refine wpAnyH_ready (rs:=[2]) (by kernel_rfl) (by simp) (AllReadyH.cons rfl (fun K' hK=>?_) AllReadyH.nil)
           go_simp;refine(Hq r0 false dN _).mono ?_;rintro e w7 ⟨rfl,bL⟩;refine hK.out _ _ ?_ (fun aF=>?_)
           ·exact hS.trans (bL.mono hS.size)
           clear hK K' hS bL;have hS:=aF;clear aF
           try dsimp only at hS
           (try simp only[Act.put,pu]);refine tkY 3 ?_ rfl hS ?_ ?_;rotate_left
           ·intro wz a8;obtain⟨yk,yv⟩:=bk2 br.out a8;have ab:=bcl a8 aW.out aV.out;go_simp;(try simp only[bB.out,ar.out,aw.out,aK.out,aq.out]);all_goals with_reducible rfl
           (try simp only[Act.put,pu]);refine tkY 4 ?_ rfl hS ?_ ?_;rotate_left
           ·intro wz a8;obtain⟨yk,yv⟩:=bk2 br.out a8;have ab:=bcl a8 aW.out aV.out;go_simp;(try simp only[bB.out,ar.out,aw.out,aK.out,aq.out]);all_goals with_reducible rfl
           iterate 4 ((try simp only[Act.put,pu]);refine tkL rfl hS ?_)
           iterate 2 ((try simp only[Act.put,pu]);refine tkM ?_ rfl hS ?_ ?_;rotate_left;(·intro wz a8;obtain⟨yk,yv⟩:=bk2 br.out a8;have ab:=bcl a8 aW.out aV.out;go_simp;(try simp only[bB.out,ar.out,aw.out,aK.out,aq.out]);all_goals with_reducible rfl))
           iterate 17 ((try simp only[Act.put,pu]);refine tkL rfl hS ?_)
           (try simp only[Act.put,pu]);refine tkY 28 ?_ rfl hS ?_ ?_;rotate_left
           ·intro wz a8;obtain⟨yk,yv⟩:=bk2 br.out a8;have ab:=bcl a8 aW.out aV.out;go_simp;(try simp only[bB.out,ar.out,aw.out,aK.out,aq.out]);all_goals with_reducible rfl
           try simp only[Act.put,pu]
           refine wpAnyH_done (by kernel_rfl) ?_ _
           have HS:=qid hS;clear hS;go_wp2;go_ret;exact⟨by rw[cy.out];rfl,cZ.out.trans (HS.out.mono cZ.out.size)⟩
          |true=>
           cases e6:inN r1 with
           |false=>
            have cy:Hid (R=false):=qid (by have:=cM.out;rw[dN,e6]at this;simpa using this.symm)
            refine wp_region_held_drew (S:=(fun w'=>Below W5.heap.size W5 w')) (by kernel_rfl) ?_ (fun hS=>?_)
            ·exact(Below.refl _ _).drew
            try dsimp only at hS
            refine tkY 0 ?_ rfl hS ?_ ?_;rotate_left
            ·intro wz a8;obtain⟨yk,yv⟩:=bk2 br.out a8;have ab:=bcl a8 aW.out aV.out;go_simp;(try simp only[bB.out,ar.out,aw.out,aK.out,aq.out]);all_goals with_reducible rfl
            (try simp only[Act.put,pu]);refine tkY 1 ?_ rfl hS ?_ ?_;rotate_left
            ·intro wz a8;obtain⟨yk,yv⟩:=bk2 br.out a8;have ab:=bcl a8 aW.out aV.out;go_simp;(try simp only[bB.out,ar.out,aw.out,aK.out,aq.out]);all_goals with_reducible rfl
            try simp only[Act.put,pu]
            refine wpAnyH_ready (rs:=[2]) (by kernel_rfl) (by simp) (AllReadyH.cons rfl (fun K' hK=>?_) AllReadyH.nil)
            go_simp;refine(Hq r0 true dN _).mono ?_;rintro e w7 ⟨rfl,bL⟩;refine hK.out _ _ ?_ (fun aF=>?_)
            ·exact hS.trans (bL.mono hS.size)
            clear hK K' hS bL;have hS:=aF;clear aF
            try dsimp only at hS
            (try simp only[Act.put,pu]);refine tkY 3 ?_ rfl hS ?_ ?_;rotate_left
            ·intro wz a8;obtain⟨yk,yv⟩:=bk2 br.out a8;have ab:=bcl a8 aW.out aV.out;go_simp;(try simp only[bB.out,ar.out,aw.out,aK.out,aq.out]);all_goals with_reducible rfl
            iterate 3 ((try simp only[Act.put,pu]);refine tkM ?_ rfl hS ?_ ?_;rotate_left;(·intro wz a8;obtain⟨yk,yv⟩:=bk2 br.out a8;have ab:=bcl a8 aW.out aV.out;go_simp;(try simp only[bB.out,ar.out,aw.out,aK.out,aq.out]);all_goals with_reducible rfl))
            try simp only[Act.put,pu]
            refine wpAnyH_ready (rs:=[7]) (by kernel_rfl) (by simp) (AllReadyH.cons rfl (fun K' hK=>?_) AllReadyH.nil)
            go_simp;refine(Hq r1 false e6 _).mono ?_;rintro e w8 ⟨rfl,bL⟩;refine hK.out _ _ ?_ (fun aF=>?_)
            ·exact hS.trans (bL.mono hS.size)
            clear hK K' hS bL;have hS:=aF;clear aF
            try dsimp only at hS
            (try simp only[Act.put,pu]);refine tkY 8 ?_ rfl hS ?_ ?_;rotate_left
            ·intro wz a8;obtain⟨yk,yv⟩:=bk2 br.out a8;have ab:=bcl a8 aW.out aV.out;go_simp;(try simp only[bB.out,ar.out,aw.out,aK.out,aq.out]);all_goals with_reducible rfl
            iterate 2 ((try simp only[Act.put,pu]);refine tkM ?_ rfl hS ?_ ?_;rotate_left;(·intro wz a8;obtain⟨yk,yv⟩:=bk2 br.out a8;have ab:=bcl a8 aW.out aV.out;go_simp;(try simp only[bB.out,ar.out,aw.out,aK.out,aq.out]);all_goals with_reducible rfl))
            iterate 17 ((try simp only[Act.put,pu]);refine tkL rfl hS ?_)
            (try simp only[Act.put,pu]);refine tkY 28 ?_ rfl hS ?_ ?_;rotate_left
            ·intro wz a8;obtain⟨yk,yv⟩:=bk2 br.out a8;have ab:=bcl a8 aW.out aV.out;go_simp;(try simp only[bB.out,ar.out,aw.out,aK.out,aq.out]);all_goals with_reducible rfl
            try simp only[Act.put,pu]
            refine wpAnyH_done (by kernel_rfl) ?_ _
            have HS:=qid hS;clear hS;go_wp2;go_ret;exact⟨by rw[cy.out];rfl,cZ.out.trans (HS.out.mono cZ.out.size)⟩
           |true=>
            by_cases cD:k=0
            ·have qy:¬((0:Int)<(k:Int)):=by omega
             have ar:=qid (show decide ((0:Int)<(k:Int))=false from decide_eq_false qy);have aw:=qid (show decide (0<k)=false from decide_eq_false (by omega))
             have mR:=qid (show(BY rs gk k1&&m6 s kY i1)=R by have:=cM.out;rw[dN,e6,cD]at this;simpa using this)
             clear cD;refine wp_region_held_drew (S:=(fun w'=>Below W5.heap.size W5 w')) (by kernel_rfl) ?_ (fun hS=>?_)
             ·exact(Below.refl _ _).drew
             try dsimp only at hS
             refine tkY 0 ?_ rfl hS ?_ ?_;rotate_left
             ·intro wz a8;obtain⟨yk,yv⟩:=bk2 br.out a8;have ab:=bcl a8 aW.out aV.out;go_simp;(try simp only[bB.out,ar.out,aw.out,aK.out,aq.out]);all_goals with_reducible rfl
             (try simp only[Act.put,pu]);refine tkY 1 ?_ rfl hS ?_ ?_;rotate_left
             ·intro wz a8;obtain⟨yk,yv⟩:=bk2 br.out a8;have ab:=bcl a8 aW.out aV.out;go_simp;(try simp only[bB.out,ar.out,aw.out,aK.out,aq.out]);all_goals with_reducible rfl
             try simp only[Act.put,pu]
             refine wpAnyH_ready (rs:=[2]) (by kernel_rfl) (by simp) (AllReadyH.cons rfl (fun K' hK=>?_) AllReadyH.nil)
             go_simp;refine(Hq r0 true dN _).mono ?_;rintro e w7 ⟨rfl,bL⟩;refine hK.out _ _ ?_ (fun aF=>?_)
             ·exact hS.trans (bL.mono hS.size)
             clear hK K' hS bL;have hS:=aF;clear aF
             try dsimp only at hS
             (try simp only[Act.put,pu]);refine tkY 3 ?_ rfl hS ?_ ?_;rotate_left
             ·intro wz a8;obtain⟨yk,yv⟩:=bk2 br.out a8;have ab:=bcl a8 aW.out aV.out;go_simp;(try simp only[bB.out,ar.out,aw.out,aK.out,aq.out]);all_goals with_reducible rfl
             iterate 3 ((try simp only[Act.put,pu]);refine tkM ?_ rfl hS ?_ ?_;rotate_left;(·intro wz a8;obtain⟨yk,yv⟩:=bk2 br.out a8;have ab:=bcl a8 aW.out aV.out;go_simp;(try simp only[bB.out,ar.out,aw.out,aK.out,aq.out]);all_goals with_reducible rfl))
             try simp only[Act.put,pu]
             refine wpAnyH_ready (rs:=[7]) (by kernel_rfl) (by simp) (AllReadyH.cons rfl (fun K' hK=>?_) AllReadyH.nil)
             go_simp;refine(Hq r1 true e6 _).mono ?_;rintro e w8 ⟨rfl,bL⟩;refine hK.out _ _ ?_ (fun aF=>?_)
             ·exact hS.trans (bL.mono hS.size)
             clear hK K' hS bL;have hS:=aF;clear aF
             try dsimp only at hS
             (try simp only[Act.put,pu]);refine tkY 8 ?_ rfl hS ?_ ?_;rotate_left
             ·intro wz a8;obtain⟨yk,yv⟩:=bk2 br.out a8;have ab:=bcl a8 aW.out aV.out;go_simp;(try simp only[bB.out,ar.out,aw.out,aK.out,aq.out]);all_goals with_reducible rfl
             iterate 5 ((try simp only[Act.put,pu]);refine tkM ?_ rfl hS ?_ ?_;rotate_left;(·intro wz a8;obtain⟨yk,yv⟩:=bk2 br.out a8;have ab:=bcl a8 aW.out aV.out;go_simp;(try simp only[bB.out,ar.out,aw.out,aK.out,aq.out]);all_goals with_reducible rfl))
             iterate 13 ((try simp only[Act.put,pu]);refine tkL rfl hS ?_)
             iterate 2 ((try simp only[Act.put,pu]);refine tkM ?_ rfl hS ?_ ?_;rotate_left;(·intro wz a8;obtain⟨yk,yv⟩:=bk2 br.out a8;have ab:=bcl a8 aW.out aV.out;go_simp;(try simp only[bB.out,ar.out,aw.out,aK.out,aq.out]);all_goals with_reducible rfl))
             try simp only[Act.put,pu]
             refine wpAnyH_done (by kernel_rfl) ?_ _
             have HS:=qid hS;clear hS;go_wp2;go_roundg gk
             case measure=>exact Nat.lt_succ_self _
             case rel=>exact⟨k1,rfl,by have:=cC.out;have:=fO.out;omega,cZ.out.trans (HS.out.mono cZ.out.size),mR.out⟩
            ·have qy:(0:Int)<(k:Int):=by omega
             have qz:0<k:=by omega
             have ar:=qid (show decide ((0:Int)<(k:Int))=true from decide_eq_true qy);have aw:=qid (show decide (0<k)=true from decide_eq_true qz);obtain⟨j,pk,pv,gW,dI,nV⟩:=qm.out cD;have da:=qid nV;have wm:IntKind.i64.wrap ((k:Int)-1)=(j:Int):=by rw[show(k:Int)-1=(j:Int) by omega];exact IntWalk.i64_in _ (by have:=kX.out.2;omega)
             have Bc:(0:Int)≤(j:Int):=by omega
             have Bd:(j:Int)<(rs.length:Int):=by omega
             have mQ:(k==0)=false:=beq_eq_false_iff_ne.2 cD
             by_cases aD:pk<r0
             ·have r':¬(r0≤pk):=by omega
              have aq:=qid (show decide (r0≤pk)=false from decide_eq_false r');have mR:=qid (show(BY rs gk k1&&m6 s kY i1)=R by have:=cM.out;rw[dN,e6,dI,mQ]at this;simpa[aD]using this)
              clear cD gW dI nV mQ aD;refine wp_region_held_drew (S:=(fun w'=>Below W5.heap.size W5 w')) (by kernel_rfl) ?_ (fun hS=>?_)
              ·exact(Below.refl _ _).drew
              try dsimp only at hS
              refine tkY 0 ?_ rfl hS ?_ ?_;rotate_left
              ·intro wz a8;obtain⟨yk,yv⟩:=bk2 br.out a8;have ab:=bcl a8 aW.out aV.out;have dp:=bcl a8 fp.out da.out;go_simp;(try simp only[bB.out,ar.out,aw.out,aK.out,aq.out]);all_goals with_reducible rfl
              (try simp only[Act.put,pu]);refine tkY 1 ?_ rfl hS ?_ ?_;rotate_left
              ·intro wz a8;obtain⟨yk,yv⟩:=bk2 br.out a8;have ab:=bcl a8 aW.out aV.out;have dp:=bcl a8 fp.out da.out;go_simp;(try simp only[bB.out,ar.out,aw.out,aK.out,aq.out]);all_goals with_reducible rfl
              try simp only[Act.put,pu]
              refine wpAnyH_ready (rs:=[2]) (by kernel_rfl) (by simp) (AllReadyH.cons rfl (fun K' hK=>?_) AllReadyH.nil)
              go_simp;refine(Hq r0 true dN _).mono ?_;rintro e w7 ⟨rfl,bL⟩;refine hK.out _ _ ?_ (fun aF=>?_)
              ·exact hS.trans (bL.mono hS.size)
              clear hK K' hS bL;have hS:=aF;clear aF
              try dsimp only at hS
              (try simp only[Act.put,pu]);refine tkY 3 ?_ rfl hS ?_ ?_;rotate_left
              ·intro wz a8;obtain⟨yk,yv⟩:=bk2 br.out a8;have ab:=bcl a8 aW.out aV.out;have dp:=bcl a8 fp.out da.out;go_simp;(try simp only[bB.out,ar.out,aw.out,aK.out,aq.out]);all_goals with_reducible rfl
              iterate 3 ((try simp only[Act.put,pu]);refine tkM ?_ rfl hS ?_ ?_;rotate_left;(·intro wz a8;obtain⟨yk,yv⟩:=bk2 br.out a8;have ab:=bcl a8 aW.out aV.out;have dp:=bcl a8 fp.out da.out;go_simp;(try simp only[bB.out,ar.out,aw.out,aK.out,aq.out]);all_goals with_reducible rfl))
              try simp only[Act.put,pu]
              refine wpAnyH_ready (rs:=[7]) (by kernel_rfl) (by simp) (AllReadyH.cons rfl (fun K' hK=>?_) AllReadyH.nil)
              go_simp;refine(Hq r1 true e6 _).mono ?_;rintro e w8 ⟨rfl,bL⟩;refine hK.out _ _ ?_ (fun aF=>?_)
              ·exact hS.trans (bL.mono hS.size)
              clear hK K' hS bL;have hS:=aF;clear aF
              try dsimp only at hS
              (try simp only[Act.put,pu]);refine tkY 8 ?_ rfl hS ?_ ?_;rotate_left
              ·intro wz a8;obtain⟨yk,yv⟩:=bk2 br.out a8;have ab:=bcl a8 aW.out aV.out;have dp:=bcl a8 fp.out da.out;go_simp;(try simp only[bB.out,ar.out,aw.out,aK.out,aq.out]);all_goals with_reducible rfl
              iterate 20 ((try simp only[Act.put,pu]);refine tkM ?_ rfl hS ?_ ?_;rotate_left;(·intro wz a8;obtain⟨yk,yv⟩:=bk2 br.out a8;have ab:=bcl a8 aW.out aV.out;have dp:=bcl a8 fp.out da.out;go_simp;(try simp only[bB.out,ar.out,aw.out,aK.out,aq.out]);all_goals with_reducible rfl))
              try simp only[Act.put,pu]
              refine wpAnyH_done (by kernel_rfl) ?_ _
              have HS:=qid hS;clear hS;go_wp2;go_roundg gk
              case measure=>exact Nat.lt_succ_self _
              case rel=>exact⟨k1,rfl,by have:=cC.out;have:=fO.out;omega,cZ.out.trans (HS.out.mono cZ.out.size),mR.out⟩
             ·have r':r0≤pk:=by omega
              have aq:=qid (show decide (r0≤pk)=true from decide_eq_true r');have cy:Hid (R=false):=qid (by have:=cM.out;rw[dN,e6,dI,mQ]at this;simpa[aD]using this.symm)
              clear cD gW dI nV mQ aD;refine wp_region_held_drew (S:=(fun w'=>Below W5.heap.size W5 w')) (by kernel_rfl) ?_ (fun hS=>?_)
              ·exact(Below.refl _ _).drew
              try dsimp only at hS
              refine tkY 0 ?_ rfl hS ?_ ?_;rotate_left
              ·intro wz a8;obtain⟨yk,yv⟩:=bk2 br.out a8;have ab:=bcl a8 aW.out aV.out;have dp:=bcl a8 fp.out da.out;go_simp;(try simp only[bB.out,ar.out,aw.out,aK.out,aq.out]);all_goals with_reducible rfl
              (try simp only[Act.put,pu]);refine tkY 1 ?_ rfl hS ?_ ?_;rotate_left
              ·intro wz a8;obtain⟨yk,yv⟩:=bk2 br.out a8;have ab:=bcl a8 aW.out aV.out;have dp:=bcl a8 fp.out da.out;go_simp;(try simp only[bB.out,ar.out,aw.out,aK.out,aq.out]);all_goals with_reducible rfl
              try simp only[Act.put,pu]
              refine wpAnyH_ready (rs:=[2]) (by kernel_rfl) (by simp) (AllReadyH.cons rfl (fun K' hK=>?_) AllReadyH.nil)
              go_simp;refine(Hq r0 true dN _).mono ?_;rintro e w7 ⟨rfl,bL⟩;refine hK.out _ _ ?_ (fun aF=>?_)
              ·exact hS.trans (bL.mono hS.size)
              clear hK K' hS bL;have hS:=aF;clear aF
              try dsimp only at hS
              (try simp only[Act.put,pu]);refine tkY 3 ?_ rfl hS ?_ ?_;rotate_left
              ·intro wz a8;obtain⟨yk,yv⟩:=bk2 br.out a8;have ab:=bcl a8 aW.out aV.out;have dp:=bcl a8 fp.out da.out;go_simp;(try simp only[bB.out,ar.out,aw.out,aK.out,aq.out]);all_goals with_reducible rfl
              iterate 3 ((try simp only[Act.put,pu]);refine tkM ?_ rfl hS ?_ ?_;rotate_left;(·intro wz a8;obtain⟨yk,yv⟩:=bk2 br.out a8;have ab:=bcl a8 aW.out aV.out;have dp:=bcl a8 fp.out da.out;go_simp;(try simp only[bB.out,ar.out,aw.out,aK.out,aq.out]);all_goals with_reducible rfl))
              try simp only[Act.put,pu]
              refine wpAnyH_ready (rs:=[7]) (by kernel_rfl) (by simp) (AllReadyH.cons rfl (fun K' hK=>?_) AllReadyH.nil)
              go_simp;refine(Hq r1 true e6 _).mono ?_;rintro e w8 ⟨rfl,bL⟩;refine hK.out _ _ ?_ (fun aF=>?_)
              ·exact hS.trans (bL.mono hS.size)
              clear hK K' hS bL;have hS:=aF;clear aF
              try dsimp only at hS
              (try simp only[Act.put,pu]);refine tkY 8 ?_ rfl hS ?_ ?_;rotate_left
              ·intro wz a8;obtain⟨yk,yv⟩:=bk2 br.out a8;have ab:=bcl a8 aW.out aV.out;have dp:=bcl a8 fp.out da.out;go_simp;(try simp only[bB.out,ar.out,aw.out,aK.out,aq.out]);all_goals with_reducible rfl
              iterate 20 ((try simp only[Act.put,pu]);refine tkM ?_ rfl hS ?_ ?_;rotate_left;(·intro wz a8;obtain⟨yk,yv⟩:=bk2 br.out a8;have ab:=bcl a8 aW.out aV.out;have dp:=bcl a8 fp.out da.out;go_simp;(try simp only[bB.out,ar.out,aw.out,aK.out,aq.out]);all_goals with_reducible rfl))
              try simp only[Act.put,pu]
              refine wpAnyH_done (by kernel_rfl) ?_ _
              have HS:=qid hS;clear hS;go_wp2;go_ret;exact⟨by rw[cy.out];rfl,cZ.out.trans (HS.out.mono cZ.out.size)⟩
       ·have ko:(64:Int)<(rs.length:Int):=by omega
        have aq:=qid (show decide ((64:Int)<(rs.length:Int))=true from decide_eq_true ko);have cy:Hid (R=false):=qid (by have:=iG.out;rw[vP.out (by omega)]at this;simpa using this.symm)
        clear il eZ;go_wp2_with fail;refine wp_region_held_drew (S:=(fun w'=>Below wr.heap.size wr w')) (by kernel_rfl) ?_ (fun hS=>?_)
        ·exact(Below.refl _ _).drew
        try dsimp only at hS
        refine tkY 0 ?_ rfl hS ?_ ?_;rotate_left
        ·intro wz a8;have fH:=bcl a8 aR.out dz.out;have ab:=bcl a8 aR.out bX.out;go_simp;(try simp only[bB.out,ar.out,aw.out,aK.out,aq.out]);all_goals with_reducible rfl
        iterate 19 ((try simp only[Act.put,pu]);refine tkM ?_ rfl hS ?_ ?_;rotate_left;(·intro wz a8;have fH:=bcl a8 aR.out dz.out;have ab:=bcl a8 aR.out bX.out;go_simp;(try simp only[bB.out,ar.out,aw.out,aK.out,aq.out]);all_goals with_reducible rfl))
        iterate 13 ((try simp only[Act.put,pu]);refine tkL rfl hS ?_)
        iterate 11 ((try simp only[Act.put,pu]);refine tkM ?_ rfl hS ?_ ?_;rotate_left;(·intro wz a8;have fH:=bcl a8 aR.out dz.out;have ab:=bcl a8 aR.out bX.out;go_simp;(try simp only[bB.out,ar.out,aw.out,aK.out,aq.out]);all_goals with_reducible rfl))
        try simp only[Act.put,pu]
        refine wpAnyH_done (by kernel_rfl) ?_ _
        have HS:=qid hS;clear hS;go_wp2;go_ret;exact⟨by rw[cy.out];rfl,HB.out.trans (HS.out.mono HB.out.size)⟩
      ·have lz:(0:Int)<(i:Int):=by omega
       have EB:0<i:=by omega
       have aw:=qid (show decide ((0:Int)<(i:Int))=true from decide_eq_true lz);have aK:=qid (show decide (0<i)=true from decide_eq_true EB);have aq:=aw;obtain⟨j,pn,pr,gW,dI,nV,wh⟩:=E6.out il;obtain⟨da,yz⟩:=hZ2 nV wh;have wm:IntKind.i64.wrap ((i:Int)-1)=(j:Int):=by rw[show(i:Int)-1=(j:Int) by omega];exact IntWalk.i64_in _ (by have:=uq.out;omega)
       have Bc:(0:Int)≤(j:Int):=by omega
       have Bd:(j:Int)<(s.length:Int):=by omega
       have Be:(i==0)=false:=beq_eq_false_iff_ne.2 il;have qP:=qid (show((decide (pn.toList<n.toList)&&Hd rs)&&m6 s kY i1)=R by have:=iG.out;rw[Be,dI]at this;simpa using this)
       clear il gW dI nV wh Be
       cases iJ:decide (pn.toList<n.toList)with
       |false=>
        have j':=qid iJ;have cy:Hid (R=false):=qid (by have:=qP.out;rw[iJ]at this;simpa using this.symm)
        clear iJ;go_wp2_with fail;refine wp_region_held_drew (S:=(fun w'=>Below wr.heap.size wr w')) (by kernel_rfl) ?_ (fun hS=>?_)
        ·exact(Below.refl _ _).drew
        try dsimp only at hS
        refine tkY 0 ?_ rfl hS ?_ ?_;rotate_left
        ·intro wz a8;have fH:=bcl a8 aR.out dz.out;have ab:=bcl a8 aR.out bX.out;have dp:=bcl a8 aR.out da.out;go_simp;(try simp only[bB.out,ar.out,aw.out,aK.out,aq.out]);all_goals with_reducible rfl
        iterate 30 ((try simp only[Act.put,pu]);refine tkM ?_ rfl hS ?_ ?_;rotate_left;(·intro wz a8;have fH:=bcl a8 aR.out dz.out;have ab:=bcl a8 aR.out bX.out;have dp:=bcl a8 aR.out da.out;go_simp;(try simp only[bB.out,ar.out,aw.out,aK.out,aq.out]);all_goals with_reducible rfl))
        try simp only[Act.put,pu]
        refine wpAnyH_ready (rs:=[31]) (by kernel_rfl) (by simp) (AllReadyH.cons rfl (fun K' hK=>?_) AllReadyH.nil)
        go_simp;refine(RO pn n false j'.out yz.out kX.out.1 _).mono ?_;rintro e w8 ⟨rfl,bL⟩;refine hK.out _ _ ?_ (fun aF=>?_)
        ·exact hS.trans (bL.mono hS.size)
        clear hK K' hS bL;have hS:=aF;clear aF
        try dsimp only at hS
        (try simp only[Act.put,pu]);refine tkY 32 ?_ rfl hS ?_ ?_;rotate_left
        ·intro wz a8;have fH:=bcl a8 aR.out dz.out;have ab:=bcl a8 aR.out bX.out;have dp:=bcl a8 aR.out da.out;go_simp;(try simp only[bB.out,ar.out,aw.out,aK.out,aq.out]);all_goals with_reducible rfl
        iterate 3 ((try simp only[Act.put,pu]);refine tkM ?_ rfl hS ?_ ?_;rotate_left;(·intro wz a8;have fH:=bcl a8 aR.out dz.out;have ab:=bcl a8 aR.out bX.out;have dp:=bcl a8 aR.out da.out;go_simp;(try simp only[bB.out,ar.out,aw.out,aK.out,aq.out]);all_goals with_reducible rfl))
        iterate 7 ((try simp only[Act.put,pu]);refine tkL rfl hS ?_)
        (try simp only[Act.put,pu]);refine tkY 43 ?_ rfl hS ?_ ?_;rotate_left
        ·intro wz a8;have fH:=bcl a8 aR.out dz.out;have ab:=bcl a8 aR.out bX.out;have dp:=bcl a8 aR.out da.out;go_simp;(try simp only[bB.out,ar.out,aw.out,aK.out,aq.out]);all_goals with_reducible rfl
        try simp only[Act.put,pu]
        refine wpAnyH_done (by kernel_rfl) ?_ _
        have HS:=qid hS;clear hS;go_wp2;go_ret;exact⟨by rw[cy.out];rfl,HB.out.trans (HS.out.mono HB.out.size)⟩
       |true=>
        have j':=qid iJ
        by_cases eZ:rs.length≤64
        ·have ko:¬((64:Int)<(rs.length:Int)):=by omega
         have aq:=qid (show decide ((64:Int)<(rs.length:Int))=false from decide_eq_false ko);have dV:=qid (show(BY rs rs.length 0&&m6 s kY i1)=R by have:=qP.out;rw[iJ,vQ.out eZ]at this;simpa using this)
         clear iJ eZ;go_wp2_with fail;refine wp_region_held_drew (S:=(fun w'=>Below wr.heap.size wr w')) (by kernel_rfl) ?_ (fun hS=>?_)
         ·exact(Below.refl _ _).drew
         try dsimp only at hS
         refine tkY 0 ?_ rfl hS ?_ ?_;rotate_left
         ·intro wz a8;have fH:=bcl a8 aR.out dz.out;have ab:=bcl a8 aR.out bX.out;have dp:=bcl a8 aR.out da.out;go_simp;(try simp only[bB.out,ar.out,aw.out,aK.out,aq.out]);all_goals with_reducible rfl
         iterate 30 ((try simp only[Act.put,pu]);refine tkM ?_ rfl hS ?_ ?_;rotate_left;(·intro wz a8;have fH:=bcl a8 aR.out dz.out;have ab:=bcl a8 aR.out bX.out;have dp:=bcl a8 aR.out da.out;go_simp;(try simp only[bB.out,ar.out,aw.out,aK.out,aq.out]);all_goals with_reducible rfl))
         try simp only[Act.put,pu]
         refine wpAnyH_ready (rs:=[31]) (by kernel_rfl) (by simp) (AllReadyH.cons rfl (fun K' hK=>?_) AllReadyH.nil)
         go_simp;refine(RO pn n true j'.out yz.out kX.out.1 _).mono ?_;rintro e w8 ⟨rfl,bL⟩;refine hK.out _ _ ?_ (fun aF=>?_)
         ·exact hS.trans (bL.mono hS.size)
         clear hK K' hS bL;have hS:=aF;clear aF
         try dsimp only at hS
         (try simp only[Act.put,pu]);refine tkY 32 ?_ rfl hS ?_ ?_;rotate_left
         ·intro wz a8;have fH:=bcl a8 aR.out dz.out;have ab:=bcl a8 aR.out bX.out;have dp:=bcl a8 aR.out da.out;go_simp;(try simp only[bB.out,ar.out,aw.out,aK.out,aq.out]);all_goals with_reducible rfl
         iterate 11 ((try simp only[Act.put,pu]);refine tkM ?_ rfl hS ?_ ?_;rotate_left;(·intro wz a8;have fH:=bcl a8 aR.out dz.out;have ab:=bcl a8 aR.out bX.out;have dp:=bcl a8 aR.out da.out;go_simp;(try simp only[bB.out,ar.out,aw.out,aK.out,aq.out]);all_goals with_reducible rfl))
         try simp only[Act.put,pu]
         refine wpAnyH_done (by kernel_rfl) ?_ _
         have E7:=qid hS;have lZ:=qid (HB.out.trans (hS.mono HB.out.size));clear hS;go_wp2_with fail
         go_loopg [4] rs.length (fun gk u4 wx=>∃k:Nat,u4=.int .i64 (k:Int)∧k+gk=rs.length∧Below w.heap.size w wx∧(BY rs gk k&&m6 s kY i1)=R)
         case atStart=>exact⟨0,rfl,by omega,lZ.out,dV.out⟩
         case round=>
          obtain⟨k,rfl,hk,lG,ch⟩:=hrel;obtain⟨aL,fO⟩:=hZ2 lG hk;obtain⟨b',o',E8,yu,_,gw⟩:=(HH.out.below lG).inv (by have:=HI.out;omega)
          injection yu with qq _ yw;injection qq with qq;injection qq with eb eo _;subst eb eo yw;obtain⟨yx,u',qt,oL⟩:=gw i (n,rs) jq.out;obtain⟨ua,eJ,rfl⟩:=oL.form
          cases gk with
          |zero=>
           have l2:¬((k:Int)<(rs.length:Int)):=by omega
           have mR:=qid (show m6 s kY i1=R by rw[←ch];rfl)
           clear hk lG ch gw oL;go_wp2;go_roundg kY
           case measure=>exact Nat.lt_succ_self _
           case rel=>exact⟨i1,rfl,by have:=aQ.out;have:=HI.out;omega,aL.out,mR.out⟩
          |succ gk=>
           have gY:k<rs.length:=by omega
           obtain⟨rb,ro,yy,j3,_,qu⟩:=oL.inv (by show 0<rs.length;omega)
           injection j3 with e1 _ e3;subst e1 e3;obtain⟨r,bJ⟩:∃r,rs[k]=r:=⟨_,rfl⟩;have kz:rs[k]? =some r:=by rw[List.getElem?_eq_getElem gY,bJ]
           obtain⟨q0,q1⟩:=qu k r kz;have mS:JT rs k=((k==0||(match rs[k-1]? with|some q=>decide (q.1<r.1)|none=>true))&&(inN r.1&&inN r.2)):=by
            unfold JT;rw[kz];all_goals rfl
           have gS:k≠0→∃(j:Nat) (pk pv:Int),j+1=k∧rs[k-1]? =some (pk,pv)∧wr.cell? ⟨rb,ro+j*2,none⟩=some (.int .i64 pk):=fun cD=>by
            have hj:rs[k-1]? =some rs[k-1]:=List.getElem?_eq_getElem (by omega)
            exact⟨k-1,_,_,by omega,hj,(qu (k-1) _ hj).1⟩
           rw[BY,mS]at ch;obtain⟨r0,r1⟩:=r;simp only at q0 q1 ch gS;have E9:(0:Int)≤(k:Int):=by omega
           have EA:(k:Int)<(rs.length:Int):=by omega
           obtain⟨k1,bq⟩:∃k1,k+1=k1:=⟨_,rfl⟩;have sJ:IntKind.i64.wrap ((k:Int)+1)=(k1:Int):=by rw[show(k:Int)+1=(k1:Int) by omega];exact IntWalk.i64_in _ (by have:=kX.out.2;omega)
           rw[bq]at ch;have cC:=qid bq;have vR:=qid (World.block_lt_of_cell? _ _ q0);have mT:=qid (World.block_lt_of_cell? _ _ qt);obtain⟨qw,cM,qx⟩:=hZ3 qt ch gS;clear hk lG gw oL gY qu bJ kz mS bq ch gS yx;go_wp2_with fail;obtain⟨g5,jt⟩:∃g5,wr.heap.size=g5:=⟨_,rfl⟩;obtain⟨W5,ir⟩:∃W5,wr.alloc (.cells #[.int .i64 r0,.int .i64 r1] 57)=W5:=⟨_,rfl⟩;have b5:Below wr.heap.size wr W5:=by rw[←ir];exact(Below.refl _ _).alloc (Nat.le_refl _) _
           have k5:Blk W5 g5 57 #[.int .i64 r0,.int .i64 r1]:=by rw[←ir];exact Blk.newAt _ _ _ _ jt
           rw[ir,jt];have cZ:=qid (aL.out.trans (b5.mono aL.out.size));have br:=qid k5;have aV:=qid ((b5.cell (p:=⟨b,o+i*2+1,none⟩) mT.out).trans qw.out);have aW:=qid (Nat.lt_of_lt_of_le mT.out b5.size);have fp:=qid (Nat.lt_of_lt_of_le vR.out b5.size);have qm:=qid (fun cD=>by
            obtain⟨j,pk,pv,h1,h2,h3⟩:=qx.out cD;exact(⟨j,pk,pv,h1,h2,(b5.cell (p:=⟨rb,ro+j*2,none⟩) vR.out).trans h3⟩:∃(j:Nat) (pk pv:Int),j+1=k∧rs[k-1]? =some (pk,pv)∧W5.cell? ⟨rb,ro+j*2,none⟩=some (.int .i64 pk)))
           clear ir jt b5 k5 qt q0 q1
           cases dN:inN r0 with
           |false=>
            have cy:Hid (R=false):=qid (by have:=cM.out;rw[dN]at this;simpa using this.symm)
            refine wp_region_held_drew (S:=(fun w'=>Below W5.heap.size W5 w')) (by kernel_rfl) ?_ (fun hS=>?_)
            ·exact(Below.refl _ _).drew
            try dsimp only at hS
            refine tkY 0 ?_ rfl hS ?_ ?_;rotate_left
            ·intro wz a8;obtain⟨yk,yv⟩:=bk2 br.out a8;have ab:=bcl a8 aW.out aV.out;go_simp;(try simp only[bB.out,ar.out,aw.out,aK.out,aq.out]);all_goals with_reducible rfl
            (try simp only[Act.put,pu]);refine tkY 1 ?_ rfl hS ?_ ?_;rotate_left
            ·intro wz a8;obtain⟨yk,yv⟩:=bk2 br.out a8;have ab:=bcl a8 aW.out aV.out;go_simp;(try simp only[bB.out,ar.out,aw.out,aK.out,aq.out]);all_goals with_reducible rfl
            try simp only[Act.put,pu]
            refine wpAnyH_ready (rs:=[2]) (by kernel_rfl) (by simp) (AllReadyH.cons rfl (fun K' hK=>?_) AllReadyH.nil)
            go_simp;refine(Hq r0 false dN _).mono ?_;rintro e w7 ⟨rfl,bL⟩;refine hK.out _ _ ?_ (fun aF=>?_)
            ·exact hS.trans (bL.mono hS.size)
            clear hK K' hS bL;have hS:=aF;clear aF
            try dsimp only at hS
            (try simp only[Act.put,pu]);refine tkY 3 ?_ rfl hS ?_ ?_;rotate_left
            ·intro wz a8;obtain⟨yk,yv⟩:=bk2 br.out a8;have ab:=bcl a8 aW.out aV.out;go_simp;(try simp only[bB.out,ar.out,aw.out,aK.out,aq.out]);all_goals with_reducible rfl
            (try simp only[Act.put,pu]);refine tkY 4 ?_ rfl hS ?_ ?_;rotate_left
            ·intro wz a8;obtain⟨yk,yv⟩:=bk2 br.out a8;have ab:=bcl a8 aW.out aV.out;go_simp;(try simp only[bB.out,ar.out,aw.out,aK.out,aq.out]);all_goals with_reducible rfl
            iterate 4 ((try simp only[Act.put,pu]);refine tkL rfl hS ?_)
            iterate 2 ((try simp only[Act.put,pu]);refine tkM ?_ rfl hS ?_ ?_;rotate_left;(·intro wz a8;obtain⟨yk,yv⟩:=bk2 br.out a8;have ab:=bcl a8 aW.out aV.out;go_simp;(try simp only[bB.out,ar.out,aw.out,aK.out,aq.out]);all_goals with_reducible rfl))
            iterate 17 ((try simp only[Act.put,pu]);refine tkL rfl hS ?_)
            (try simp only[Act.put,pu]);refine tkY 28 ?_ rfl hS ?_ ?_;rotate_left
            ·intro wz a8;obtain⟨yk,yv⟩:=bk2 br.out a8;have ab:=bcl a8 aW.out aV.out;go_simp;(try simp only[bB.out,ar.out,aw.out,aK.out,aq.out]);all_goals with_reducible rfl
            try simp only[Act.put,pu]
            refine wpAnyH_done (by kernel_rfl) ?_ _
            have HS:=qid hS;clear hS;go_wp2;go_ret;exact⟨by rw[cy.out];rfl,cZ.out.trans (HS.out.mono cZ.out.size)⟩
           |true=>
            cases e6:inN r1 with
            |false=>
             have cy:Hid (R=false):=qid (by have:=cM.out;rw[dN,e6]at this;simpa using this.symm)
             refine wp_region_held_drew (S:=(fun w'=>Below W5.heap.size W5 w')) (by kernel_rfl) ?_ (fun hS=>?_)
             ·exact(Below.refl _ _).drew
             try dsimp only at hS
             refine tkY 0 ?_ rfl hS ?_ ?_;rotate_left
             ·intro wz a8;obtain⟨yk,yv⟩:=bk2 br.out a8;have ab:=bcl a8 aW.out aV.out;go_simp;(try simp only[bB.out,ar.out,aw.out,aK.out,aq.out]);all_goals with_reducible rfl
             (try simp only[Act.put,pu]);refine tkY 1 ?_ rfl hS ?_ ?_;rotate_left
             ·intro wz a8;obtain⟨yk,yv⟩:=bk2 br.out a8;have ab:=bcl a8 aW.out aV.out;go_simp;(try simp only[bB.out,ar.out,aw.out,aK.out,aq.out]);all_goals with_reducible rfl
             try simp only[Act.put,pu]
             refine wpAnyH_ready (rs:=[2]) (by kernel_rfl) (by simp) (AllReadyH.cons rfl (fun K' hK=>?_) AllReadyH.nil)
             go_simp;refine(Hq r0 true dN _).mono ?_;rintro e w7 ⟨rfl,bL⟩;refine hK.out _ _ ?_ (fun aF=>?_)
             ·exact hS.trans (bL.mono hS.size)
             clear hK K' hS bL;have hS:=aF;clear aF
             try dsimp only at hS
             (try simp only[Act.put,pu]);refine tkY 3 ?_ rfl hS ?_ ?_;rotate_left
             ·intro wz a8;obtain⟨yk,yv⟩:=bk2 br.out a8;have ab:=bcl a8 aW.out aV.out;go_simp;(try simp only[bB.out,ar.out,aw.out,aK.out,aq.out]);all_goals with_reducible rfl
             iterate 3 ((try simp only[Act.put,pu]);refine tkM ?_ rfl hS ?_ ?_;rotate_left;(·intro wz a8;obtain⟨yk,yv⟩:=bk2 br.out a8;have ab:=bcl a8 aW.out aV.out;go_simp;(try simp only[bB.out,ar.out,aw.out,aK.out,aq.out]);all_goals with_reducible rfl))
             try simp only[Act.put,pu]
             refine wpAnyH_ready (rs:=[7]) (by kernel_rfl) (by simp) (AllReadyH.cons rfl (fun K' hK=>?_) AllReadyH.nil)
             go_simp;refine(Hq r1 false e6 _).mono ?_;rintro e w8 ⟨rfl,bL⟩;refine hK.out _ _ ?_ (fun aF=>?_)
             ·exact hS.trans (bL.mono hS.size)
             clear hK K' hS bL;have hS:=aF;clear aF
             try dsimp only at hS
             (try simp only[Act.put,pu]);refine tkY 8 ?_ rfl hS ?_ ?_;rotate_left
             ·intro wz a8;obtain⟨yk,yv⟩:=bk2 br.out a8;have ab:=bcl a8 aW.out aV.out;go_simp;(try simp only[bB.out,ar.out,aw.out,aK.out,aq.out]);all_goals with_reducible rfl
             iterate 2 ((try simp only[Act.put,pu]);refine tkM ?_ rfl hS ?_ ?_;rotate_left;(·intro wz a8;obtain⟨yk,yv⟩:=bk2 br.out a8;have ab:=bcl a8 aW.out aV.out;go_simp;(try simp only[bB.out,ar.out,aw.out,aK.out,aq.out]);all_goals with_reducible rfl))
             iterate 17 ((try simp only[Act.put,pu]);refine tkL rfl hS ?_)
             (try simp only[Act.put,pu]);refine tkY 28 ?_ rfl hS ?_ ?_;rotate_left
             ·intro wz a8;obtain⟨yk,yv⟩:=bk2 br.out a8;have ab:=bcl a8 aW.out aV.out;go_simp;(try simp only[bB.out,ar.out,aw.out,aK.out,aq.out]);all_goals with_reducible rfl
             try simp only[Act.put,pu]
             refine wpAnyH_done (by kernel_rfl) ?_ _
             have HS:=qid hS;clear hS;go_wp2;go_ret;exact⟨by rw[cy.out];rfl,cZ.out.trans (HS.out.mono cZ.out.size)⟩
            |true=>
             by_cases cD:k=0
             ·have qy:¬((0:Int)<(k:Int)):=by omega
              have ar:=qid (show decide ((0:Int)<(k:Int))=false from decide_eq_false qy);have aw:=qid (show decide (0<k)=false from decide_eq_false (by omega))
              have mR:=qid (show(BY rs gk k1&&m6 s kY i1)=R by have:=cM.out;rw[dN,e6,cD]at this;simpa using this)
              clear cD;refine wp_region_held_drew (S:=(fun w'=>Below W5.heap.size W5 w')) (by kernel_rfl) ?_ (fun hS=>?_)
              ·exact(Below.refl _ _).drew
              try dsimp only at hS
              refine tkY 0 ?_ rfl hS ?_ ?_;rotate_left
              ·intro wz a8;obtain⟨yk,yv⟩:=bk2 br.out a8;have ab:=bcl a8 aW.out aV.out;go_simp;(try simp only[bB.out,ar.out,aw.out,aK.out,aq.out]);all_goals with_reducible rfl
              (try simp only[Act.put,pu]);refine tkY 1 ?_ rfl hS ?_ ?_;rotate_left
              ·intro wz a8;obtain⟨yk,yv⟩:=bk2 br.out a8;have ab:=bcl a8 aW.out aV.out;go_simp;(try simp only[bB.out,ar.out,aw.out,aK.out,aq.out]);all_goals with_reducible rfl
              try simp only[Act.put,pu]
              refine wpAnyH_ready (rs:=[2]) (by kernel_rfl) (by simp) (AllReadyH.cons rfl (fun K' hK=>?_) AllReadyH.nil)
              go_simp;refine(Hq r0 true dN _).mono ?_;rintro e w7 ⟨rfl,bL⟩;refine hK.out _ _ ?_ (fun aF=>?_)
              ·exact hS.trans (bL.mono hS.size)
              clear hK K' hS bL;have hS:=aF;clear aF
              try dsimp only at hS
              (try simp only[Act.put,pu]);refine tkY 3 ?_ rfl hS ?_ ?_;rotate_left
              ·intro wz a8;obtain⟨yk,yv⟩:=bk2 br.out a8;have ab:=bcl a8 aW.out aV.out;go_simp;(try simp only[bB.out,ar.out,aw.out,aK.out,aq.out]);all_goals with_reducible rfl
              iterate 3 ((try simp only[Act.put,pu]);refine tkM ?_ rfl hS ?_ ?_;rotate_left;(·intro wz a8;obtain⟨yk,yv⟩:=bk2 br.out a8;have ab:=bcl a8 aW.out aV.out;go_simp;(try simp only[bB.out,ar.out,aw.out,aK.out,aq.out]);all_goals with_reducible rfl))
              try simp only[Act.put,pu]
              refine wpAnyH_ready (rs:=[7]) (by kernel_rfl) (by simp) (AllReadyH.cons rfl (fun K' hK=>?_) AllReadyH.nil)
              go_simp;refine(Hq r1 true e6 _).mono ?_;rintro e w8 ⟨rfl,bL⟩;refine hK.out _ _ ?_ (fun aF=>?_)
              ·exact hS.trans (bL.mono hS.size)
              clear hK K' hS bL;have hS:=aF;clear aF
              try dsimp only at hS
              (try simp only[Act.put,pu]);refine tkY 8 ?_ rfl hS ?_ ?_;rotate_left
              ·intro wz a8;obtain⟨yk,yv⟩:=bk2 br.out a8;have ab:=bcl a8 aW.out aV.out;go_simp;(try simp only[bB.out,ar.out,aw.out,aK.out,aq.out]);all_goals with_reducible rfl
              iterate 5 ((try simp only[Act.put,pu]);refine tkM ?_ rfl hS ?_ ?_;rotate_left;(·intro wz a8;obtain⟨yk,yv⟩:=bk2 br.out a8;have ab:=bcl a8 aW.out aV.out;go_simp;(try simp only[bB.out,ar.out,aw.out,aK.out,aq.out]);all_goals with_reducible rfl))
              iterate 13 ((try simp only[Act.put,pu]);refine tkL rfl hS ?_)
              iterate 2 ((try simp only[Act.put,pu]);refine tkM ?_ rfl hS ?_ ?_;rotate_left;(·intro wz a8;obtain⟨yk,yv⟩:=bk2 br.out a8;have ab:=bcl a8 aW.out aV.out;go_simp;(try simp only[bB.out,ar.out,aw.out,aK.out,aq.out]);all_goals with_reducible rfl))
              try simp only[Act.put,pu]
              refine wpAnyH_done (by kernel_rfl) ?_ _
              have HS:=qid hS;clear hS;go_wp2;go_roundg gk
              case measure=>exact Nat.lt_succ_self _
              case rel=>exact⟨k1,rfl,by have:=cC.out;have:=fO.out;omega,cZ.out.trans (HS.out.mono cZ.out.size),mR.out⟩
             ·have qy:(0:Int)<(k:Int):=by omega
              have qz:0<k:=by omega
              have ar:=qid (show decide ((0:Int)<(k:Int))=true from decide_eq_true qy);have aw:=qid (show decide (0<k)=true from decide_eq_true qz);obtain⟨j,pk,pv,gW,dI,nV⟩:=qm.out cD;have da:=qid nV;have wm:IntKind.i64.wrap ((k:Int)-1)=(j:Int):=by rw[show(k:Int)-1=(j:Int) by omega];exact IntWalk.i64_in _ (by have:=kX.out.2;omega)
              have Bc:(0:Int)≤(j:Int):=by omega
              have Bd:(j:Int)<(rs.length:Int):=by omega
              have mQ:(k==0)=false:=beq_eq_false_iff_ne.2 cD
              by_cases aD:pk<r0
              ·have r':¬(r0≤pk):=by omega
               have aq:=qid (show decide (r0≤pk)=false from decide_eq_false r');have mR:=qid (show(BY rs gk k1&&m6 s kY i1)=R by have:=cM.out;rw[dN,e6,dI,mQ]at this;simpa[aD]using this)
               clear cD gW dI nV mQ aD;refine wp_region_held_drew (S:=(fun w'=>Below W5.heap.size W5 w')) (by kernel_rfl) ?_ (fun hS=>?_)
               ·exact(Below.refl _ _).drew
               try dsimp only at hS
               refine tkY 0 ?_ rfl hS ?_ ?_;rotate_left
               ·intro wz a8;obtain⟨yk,yv⟩:=bk2 br.out a8;have ab:=bcl a8 aW.out aV.out;have dp:=bcl a8 fp.out da.out;go_simp;(try simp only[bB.out,ar.out,aw.out,aK.out,aq.out]);all_goals with_reducible rfl
               (try simp only[Act.put,pu]);refine tkY 1 ?_ rfl hS ?_ ?_;rotate_left
               ·intro wz a8;obtain⟨yk,yv⟩:=bk2 br.out a8;have ab:=bcl a8 aW.out aV.out;have dp:=bcl a8 fp.out da.out;go_simp;(try simp only[bB.out,ar.out,aw.out,aK.out,aq.out]);all_goals with_reducible rfl
               try simp only[Act.put,pu]
               refine wpAnyH_ready (rs:=[2]) (by kernel_rfl) (by simp) (AllReadyH.cons rfl (fun K' hK=>?_) AllReadyH.nil)
               go_simp;refine(Hq r0 true dN _).mono ?_;rintro e w7 ⟨rfl,bL⟩;refine hK.out _ _ ?_ (fun aF=>?_)
               ·exact hS.trans (bL.mono hS.size)
               clear hK K' hS bL;have hS:=aF;clear aF
               try dsimp only at hS
               (try simp only[Act.put,pu]);refine tkY 3 ?_ rfl hS ?_ ?_;rotate_left
               ·intro wz a8;obtain⟨yk,yv⟩:=bk2 br.out a8;have ab:=bcl a8 aW.out aV.out;have dp:=bcl a8 fp.out da.out;go_simp;(try simp only[bB.out,ar.out,aw.out,aK.out,aq.out]);all_goals with_reducible rfl
               iterate 3 ((try simp only[Act.put,pu]);refine tkM ?_ rfl hS ?_ ?_;rotate_left;(·intro wz a8;obtain⟨yk,yv⟩:=bk2 br.out a8;have ab:=bcl a8 aW.out aV.out;have dp:=bcl a8 fp.out da.out;go_simp;(try simp only[bB.out,ar.out,aw.out,aK.out,aq.out]);all_goals with_reducible rfl))
               try simp only[Act.put,pu]
               refine wpAnyH_ready (rs:=[7]) (by kernel_rfl) (by simp) (AllReadyH.cons rfl (fun K' hK=>?_) AllReadyH.nil)
               go_simp;refine(Hq r1 true e6 _).mono ?_;rintro e w8 ⟨rfl,bL⟩;refine hK.out _ _ ?_ (fun aF=>?_)
               ·exact hS.trans (bL.mono hS.size)
               clear hK K' hS bL;have hS:=aF;clear aF
               try dsimp only at hS
               (try simp only[Act.put,pu]);refine tkY 8 ?_ rfl hS ?_ ?_;rotate_left
               ·intro wz a8;obtain⟨yk,yv⟩:=bk2 br.out a8;have ab:=bcl a8 aW.out aV.out;have dp:=bcl a8 fp.out da.out;go_simp;(try simp only[bB.out,ar.out,aw.out,aK.out,aq.out]);all_goals with_reducible rfl
               iterate 20 ((try simp only[Act.put,pu]);refine tkM ?_ rfl hS ?_ ?_;rotate_left;(·intro wz a8;obtain⟨yk,yv⟩:=bk2 br.out a8;have ab:=bcl a8 aW.out aV.out;have dp:=bcl a8 fp.out da.out;go_simp;(try simp only[bB.out,ar.out,aw.out,aK.out,aq.out]);all_goals with_reducible rfl))
               try simp only[Act.put,pu]
               refine wpAnyH_done (by kernel_rfl) ?_ _
               have HS:=qid hS;clear hS;go_wp2;go_roundg gk
               case measure=>exact Nat.lt_succ_self _
               case rel=>exact⟨k1,rfl,by have:=cC.out;have:=fO.out;omega,cZ.out.trans (HS.out.mono cZ.out.size),mR.out⟩
              ·have r':r0≤pk:=by omega
               have aq:=qid (show decide (r0≤pk)=true from decide_eq_true r');have cy:Hid (R=false):=qid (by have:=cM.out;rw[dN,e6,dI,mQ]at this;simpa[aD]using this.symm)
               clear cD gW dI nV mQ aD;refine wp_region_held_drew (S:=(fun w'=>Below W5.heap.size W5 w')) (by kernel_rfl) ?_ (fun hS=>?_)
               ·exact(Below.refl _ _).drew
               try dsimp only at hS
               refine tkY 0 ?_ rfl hS ?_ ?_;rotate_left
               ·intro wz a8;obtain⟨yk,yv⟩:=bk2 br.out a8;have ab:=bcl a8 aW.out aV.out;have dp:=bcl a8 fp.out da.out;go_simp;(try simp only[bB.out,ar.out,aw.out,aK.out,aq.out]);all_goals with_reducible rfl
               (try simp only[Act.put,pu]);refine tkY 1 ?_ rfl hS ?_ ?_;rotate_left
               ·intro wz a8;obtain⟨yk,yv⟩:=bk2 br.out a8;have ab:=bcl a8 aW.out aV.out;have dp:=bcl a8 fp.out da.out;go_simp;(try simp only[bB.out,ar.out,aw.out,aK.out,aq.out]);all_goals with_reducible rfl
               try simp only[Act.put,pu]
               refine wpAnyH_ready (rs:=[2]) (by kernel_rfl) (by simp) (AllReadyH.cons rfl (fun K' hK=>?_) AllReadyH.nil)
               go_simp;refine(Hq r0 true dN _).mono ?_;rintro e w7 ⟨rfl,bL⟩;refine hK.out _ _ ?_ (fun aF=>?_)
               ·exact hS.trans (bL.mono hS.size)
               clear hK K' hS bL;have hS:=aF;clear aF
               try dsimp only at hS
               (try simp only[Act.put,pu]);refine tkY 3 ?_ rfl hS ?_ ?_;rotate_left
               ·intro wz a8;obtain⟨yk,yv⟩:=bk2 br.out a8;have ab:=bcl a8 aW.out aV.out;have dp:=bcl a8 fp.out da.out;go_simp;(try simp only[bB.out,ar.out,aw.out,aK.out,aq.out]);all_goals with_reducible rfl
               iterate 3 ((try simp only[Act.put,pu]);refine tkM ?_ rfl hS ?_ ?_;rotate_left;(·intro wz a8;obtain⟨yk,yv⟩:=bk2 br.out a8;have ab:=bcl a8 aW.out aV.out;have dp:=bcl a8 fp.out da.out;go_simp;(try simp only[bB.out,ar.out,aw.out,aK.out,aq.out]);all_goals with_reducible rfl))
               try simp only[Act.put,pu]
               refine wpAnyH_ready (rs:=[7]) (by kernel_rfl) (by simp) (AllReadyH.cons rfl (fun K' hK=>?_) AllReadyH.nil)
               go_simp;refine(Hq r1 true e6 _).mono ?_;rintro e w8 ⟨rfl,bL⟩;refine hK.out _ _ ?_ (fun aF=>?_)
               ·exact hS.trans (bL.mono hS.size)
               clear hK K' hS bL;have hS:=aF;clear aF
               try dsimp only at hS
               (try simp only[Act.put,pu]);refine tkY 8 ?_ rfl hS ?_ ?_;rotate_left
               ·intro wz a8;obtain⟨yk,yv⟩:=bk2 br.out a8;have ab:=bcl a8 aW.out aV.out;have dp:=bcl a8 fp.out da.out;go_simp;(try simp only[bB.out,ar.out,aw.out,aK.out,aq.out]);all_goals with_reducible rfl
               iterate 20 ((try simp only[Act.put,pu]);refine tkM ?_ rfl hS ?_ ?_;rotate_left;(·intro wz a8;obtain⟨yk,yv⟩:=bk2 br.out a8;have ab:=bcl a8 aW.out aV.out;have dp:=bcl a8 fp.out da.out;go_simp;(try simp only[bB.out,ar.out,aw.out,aK.out,aq.out]);all_goals with_reducible rfl))
               try simp only[Act.put,pu]
               refine wpAnyH_done (by kernel_rfl) ?_ _
               have HS:=qid hS;clear hS;go_wp2;go_ret;exact⟨by rw[cy.out];rfl,cZ.out.trans (HS.out.mono cZ.out.size)⟩
        ·have ko:(64:Int)<(rs.length:Int):=by omega
         have aq:=qid (show decide ((64:Int)<(rs.length:Int))=true from decide_eq_true ko);have cy:Hid (R=false):=qid (by have:=qP.out;rw[vP.out (by omega)]at this;simpa using this.symm)
         clear iJ eZ;go_wp2_with fail;refine wp_region_held_drew (S:=(fun w'=>Below wr.heap.size wr w')) (by kernel_rfl) ?_ (fun hS=>?_)
         ·exact(Below.refl _ _).drew
         try dsimp only at hS
         refine tkY 0 ?_ rfl hS ?_ ?_;rotate_left
         ·intro wz a8;have fH:=bcl a8 aR.out dz.out;have ab:=bcl a8 aR.out bX.out;have dp:=bcl a8 aR.out da.out;go_simp;(try simp only[bB.out,ar.out,aw.out,aK.out,aq.out]);all_goals with_reducible rfl
         iterate 30 ((try simp only[Act.put,pu]);refine tkM ?_ rfl hS ?_ ?_;rotate_left;(·intro wz a8;have fH:=bcl a8 aR.out dz.out;have ab:=bcl a8 aR.out bX.out;have dp:=bcl a8 aR.out da.out;go_simp;(try simp only[bB.out,ar.out,aw.out,aK.out,aq.out]);all_goals with_reducible rfl))
         try simp only[Act.put,pu]
         refine wpAnyH_ready (rs:=[31]) (by kernel_rfl) (by simp) (AllReadyH.cons rfl (fun K' hK=>?_) AllReadyH.nil)
         go_simp;refine(RO pn n true j'.out yz.out kX.out.1 _).mono ?_;rintro e w8 ⟨rfl,bL⟩;refine hK.out _ _ ?_ (fun aF=>?_)
         ·exact hS.trans (bL.mono hS.size)
         clear hK K' hS bL;have hS:=aF;clear aF
         try dsimp only at hS
         (try simp only[Act.put,pu]);refine tkY 32 ?_ rfl hS ?_ ?_;rotate_left
         ·intro wz a8;have fH:=bcl a8 aR.out dz.out;have ab:=bcl a8 aR.out bX.out;have dp:=bcl a8 aR.out da.out;go_simp;(try simp only[bB.out,ar.out,aw.out,aK.out,aq.out]);all_goals with_reducible rfl
         iterate 11 ((try simp only[Act.put,pu]);refine tkM ?_ rfl hS ?_ ?_;rotate_left;(·intro wz a8;have fH:=bcl a8 aR.out dz.out;have ab:=bcl a8 aR.out bX.out;have dp:=bcl a8 aR.out da.out;go_simp;(try simp only[bB.out,ar.out,aw.out,aK.out,aq.out]);all_goals with_reducible rfl))
         try simp only[Act.put,pu]
         refine wpAnyH_done (by kernel_rfl) ?_ _
         have HS:=qid hS;clear hS;go_wp2;go_ret;exact⟨by rw[cy.out];rfl,HB.out.trans (HS.out.mono HB.out.size)⟩
     ·have nJ:(30:Int)<(n.size:Int):=by omega
      have ar:=qid (show decide ((30:Int)<(n.size:Int))=true from decide_eq_true nJ);have aw:=ar;have aK:=ar;have aq:=ar;have cy:Hid (R=false):=qid (by have:=eC.out;simpa[eX]using this.symm)
      clear hz eX;go_wp2_with fail;refine wp_region_held_drew (S:=(fun w'=>Below wr.heap.size wr w')) (by kernel_rfl) ?_ (fun hS=>?_)
      ·exact(Below.refl _ _).drew
      try dsimp only at hS
      refine tkY 0 ?_ rfl hS ?_ ?_;rotate_left
      ·intro wz a8;have fH:=bcl a8 aR.out dz.out;have ab:=bcl a8 aR.out bX.out;go_simp;(try simp only[bB.out,ar.out,aw.out,aK.out,aq.out]);all_goals with_reducible rfl
      iterate 16 ((try simp only[Act.put,pu]);refine tkM ?_ rfl hS ?_ ?_;rotate_left;(·intro wz a8;have fH:=bcl a8 aR.out dz.out;have ab:=bcl a8 aR.out bX.out;go_simp;(try simp only[bB.out,ar.out,aw.out,aK.out,aq.out]);all_goals with_reducible rfl))
      iterate 17 ((try simp only[Act.put,pu]);refine tkL rfl hS ?_)
      iterate 2 ((try simp only[Act.put,pu]);refine tkM ?_ rfl hS ?_ ?_;rotate_left;(·intro wz a8;have fH:=bcl a8 aR.out dz.out;have ab:=bcl a8 aR.out bX.out;go_simp;(try simp only[bB.out,ar.out,aw.out,aK.out,aq.out]);all_goals with_reducible rfl))
      iterate 7 ((try simp only[Act.put,pu]);refine tkL rfl hS ?_)
      (try simp only[Act.put,pu]);refine tkY 43 ?_ rfl hS ?_ ?_;rotate_left
      ·intro wz a8;have fH:=bcl a8 aR.out dz.out;have ab:=bcl a8 aR.out bX.out;go_simp;(try simp only[bB.out,ar.out,aw.out,aK.out,aq.out]);all_goals with_reducible rfl
      try simp only[Act.put,pu]
      refine wpAnyH_done (by kernel_rfl) ?_ _
      have HS:=qid hS;clear hS;go_wp2;go_ret;exact⟨by rw[cy.out];rfl,HB.out.trans (HS.out.mono HB.out.size)⟩
 ·have dC:R=false:=by rw[←hR];unfold wt;rw[decide_eq_false dR,Bool.false_and]
  have pz:(16:Int)<(s.length:Int):=by omega
  subst dC;clear h hR hf dR;go_enter Tryz.func27,Tryz.ntmps27;go_wp2;go_ret;exact⟨rfl,Below.refl _ _⟩
end Go.Proofs.YtpgddamhdfmdjaaGreatDoor
