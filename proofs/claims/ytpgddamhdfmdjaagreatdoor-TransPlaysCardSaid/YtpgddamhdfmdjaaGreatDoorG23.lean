/- Ser Set Sew -/
import Derived.Test.YtpgddamhdfmdjaaGreatDoorG16
import Derived.Deep.Upon
import Derived.Test.YtpgddamhdfmdjaaGreatDoorG1
set_option linter.unusedSimpArgs false
set_option linter.unusedVariables false
set_option maxRecDepth 100000
set_option maxHeartbeats 16000000
namespace Go.Proofs.YtpgddamhdfmdjaaGreatDoor
open Go.ChangeShapes Go.WideShapes Go.ChangeAt Go.RowKit
structure NJ(w:World)(B:Nat)(d:List Tx)(vo:Value)(W:World):Prop where
 bel:Below w.heap.size w W
 own:W.ownsRow B 9 1 vo d.length (d.map sV)
theorem NJ.step{w W W2:World}{B:Nat}{d:List Tx}{vo:Value}(h:NJ w B d vo W)(b:Below W.heap.size W W2):NJ w B d vo W2:=⟨h.bel.trans (b.mono h.bel.size),Gq h.own b⟩
theorem NJ.form{w W:World}{B:Nat}{d:List Tx}{vo:Value}(h:NJ w B d vo W):∃a cap,vo=.slice a d.length cap:=by
 rcases h.own.2 with⟨rfl,hz⟩|⟨g,cap,cur,rfl,_⟩
 ·exact⟨none,0,by rw[hz]⟩
 ·exact⟨_,_,rfl⟩
theorem NJ.push{w W W1:World}{B g cap:Nat}{d:List Tx}{s:ByteArray}{vs:Value}{x:Tx}(h:NJ w B d vs W)(hB:w.heap.size≤B)(hs:s.toList=x)(aE:W1.ownsRow B 9 1 (.slice (some ⟨g,0,none⟩) (d.length+1) cap) (d.length+1) (d.map sV++[.string s]))(hg:W.grownBy W1 vs.ownBlock):
  NJ w B (d++[x]) (.slice (some ⟨g,0,none⟩) (d.length+1) cap) W1:=by
 refine⟨h.bel.grown hg h.bel.size fun k hk=>Nat.le_trans hB (World.ownsRow.lt h.own k hk).1,?_⟩
 have e1:(d++[x]).map sV=d.map sV++[.string s]:=by
  rw[List.map_append,List.map_cons,List.map_nil];have:(⟨x.toArray⟩:ByteArray)=s:=Lr (by rw[KP,hs])
  rw[←this]
 rw[List.length_append,List.length_singleton,e1];exact aE
theorem TH(l:List Tok)(i:Nat)(x y:Tx):bi 1 [x,y] l i=(bi 1 [x] l i||bi 1 [y] l i):=by
 unfold bi
 split
 ·simp only[List.contains_cons,List.contains_nil,Bool.or_false,Bool.and_or_distrib_left]
 ·rfl
def qcB(w:World)(R:List Tx)(e:Ending)(w':World):Prop:=∃vo,e=.returned vo∧NJ w w.heap.size R vo w'
theorem Vk(v:Value)(l:List Tok)(i:Nat)(w:World)(h:TR w v l)(hl:l.length≤900000)(hi:i≤l.length)(hz:∀t∈l,t.2.1.size≤1000000000):
  Calls Tryz.prog 106 #[v,.int .i64 (i:Int)] w (qcB w ((Hc l i).map (·.1))):=by
 obtain⟨R,hR⟩:∃R,(Hc l i).map (·.1)=R:=⟨_,rfl⟩
 rw[hR];obtain⟨i0,il,eK,dD,bg⟩:=info_parts NL;obtain⟨HH,HZ,HR⟩:=hZ3 h hz hR;have HS:=qid (NJ.mk (Below.refl w.heap.size w) (World.ownsRow_nil w w.heap.size 9 1):NJ w w.heap.size [] (.slice none 0 0) w);clear h hz hR;go_enter Tryz.func106,Tryz.ntmps106;go_wp2
 go_loopg [1,5] (l.length+1) (fun g u1 u5 wx=>∃(k:Nat) (d:List Tx),u1=.int .i64 (k:Int)∧k≤l.length∧l.length-k+1≤g∧NJ w w.heap.size d u5 wx∧d.length+(l.length-k)≤l.length∧R=d++(Hc l k).map (·.1))
 case atStart=>exact⟨i,[],rfl,hi,by omega,HS.out,by simp,by rw[List.nil_append];exact HR.out.symm⟩
 case round=>
  obtain⟨k,d,rfl,hk,hg,hJ,tI,hv⟩:=hrel;obtain⟨a5,c5,rfl⟩:=hJ.form;obtain⟨HJ,HV,gX⟩:=hZ3 hJ hv tI;have hT:∀W,Below w.heap.size w W→TR W v l:=fun W hW=>HH.out.below hW
  have HT:=qid hT;clear hJ hv tI HR HS hT;have yi:=Kg v l k ⟨#[111,110,108,121]⟩ wr (HT.out _ HJ.out.bel) (by omega)
  have qf:=Kg v l k ⟨#[116,97,98,108,101]⟩ wr (HT.out _ HJ.out.bel) (by omega)
  rw[show [(⟨#[111,110,108,121]⟩:ByteArray).toList]=[JJ] by rw[Lib.toList_data];rfl]at yi
  rw[show [(⟨#[116,97,98,108,101]⟩:ByteArray).toList]=[Fd] by rw[Lib.toList_data];rfl]at qf
  obtain⟨j,hj⟩:∃j,fd l k=j:=⟨_,rfl⟩;obtain⟨n,hn⟩:∃n,bY l j=n:=⟨_,rfl⟩;have lX:=Kq l k;rw[hj]at lX;have lP:j=if(bi 1 [JJ] l k||bi 1 [Fd] l k)=true then k+1 else k:=by rw[←hj,fd,TH]
  have aZ:=UR v l j wr (HT.out _ HJ.out.bel) (by omega) (by omega) HZ.out
  unfold NR at aZ;have hE:=Jt l k;obtain⟨jn,lV⟩:∃jn,j+n=jn:=⟨_,rfl⟩;rw[hn,lV]at aZ;rw[hj,hn,lV]at hE;have nU:j=k+1→IntKind.i64.wrap ((k:Int)+1)=(j:Int):=fun e=>by rw[show(k:Int)+1=(j:Int) by omega];exact d7 (by omega)
  have tJ:n≠0→jn≤l.length∧1≤n:=fun e=>by have:=IQ (l:=l) (i:=j) (by rw[hn];exact e);rw[hn]at this;omega
  generalize bi 1 [JJ] l k=bo at*
  generalize bi 1 [Fd] l k=bt at*
  obtain⟨im,gR,gO,HE,jV,jk⟩:=hZ6 yi qf aZ hE lX lV;clear yi qf aZ hE lX hj hn
  by_cases jT:n=0
  ·have ax:R=d:=by rw[HV.out,HE.out,if_pos jT];simp
   have xE:j=jn:=by rw[←lV,jT,Nat.add_zero]
   clear lV tJ;subst xE jT;have cO:=qid ax;clear ax HE HV
   cases bo
   ·cases bt
    ·have kD:j=k:=by rw[lP];rfl
     subst kD;clear nU lP;go_wp2_with (first
     |(go_at_call 104;(with_reducible refine im.out.mono ?_);rintro e w2 ⟨rfl,rfl⟩)
     |(go_at_call 104;(with_reducible refine gR.out.mono ?_);rintro e w3 ⟨rfl,rfl⟩)
     |(go_at_call 153;(with_reducible refine gO.out.mono ?_);rintro e w4 ⟨⟨s,rfl,hs⟩,ai⟩;obtain⟨cH,jr⟩:=hZ2 ai hs;have eF:=qid (HJ.out.step ai);clear hs ai))
     go_ret;exact⟨_,rfl,by rw[cO.out];exact eF.out⟩
    ·have kD:j=k+1:=by rw[lP];rfl
     have hw:=nU kD;clear nU lP kD;go_wp2_with (first
     |(go_at_call 104;(with_reducible refine im.out.mono ?_);rintro e w2 ⟨rfl,rfl⟩)
     |(go_at_call 104;(with_reducible refine gR.out.mono ?_);rintro e w3 ⟨rfl,rfl⟩)
     |(go_at_call 153;(with_reducible refine gO.out.mono ?_);rintro e w4 ⟨⟨s,rfl,hs⟩,ai⟩;obtain⟨cH,jr⟩:=hZ2 ai hs;have eF:=qid (HJ.out.step ai);clear hs ai))
     go_ret;exact⟨_,rfl,by rw[cO.out];exact eF.out⟩
   ·have kD:j=k+1:=by rw[lP];rfl
    have hw:=nU kD;clear nU lP kD;go_wp2_with (first
     |(go_at_call 104;(with_reducible refine im.out.mono ?_);rintro e w2 ⟨rfl,rfl⟩)
     |(go_at_call 104;(with_reducible refine gR.out.mono ?_);rintro e w3 ⟨rfl,rfl⟩)
     |(go_at_call 153;(with_reducible refine gO.out.mono ?_);rintro e w4 ⟨⟨s,rfl,hs⟩,ai⟩;obtain⟨cH,jr⟩:=hZ2 ai hs;have eF:=qid (HJ.out.step ai);clear hs ai))
    go_ret;exact⟨_,rfl,by rw[cO.out];exact eF.out⟩
  ·have en:((jn:Int)==(j:Int))=false:=by rw[beq_eq_false_iff_ne];omega
   obtain⟨dk,dj⟩:=tJ jT;have kf:=qid dk;obtain⟨t,ht⟩:∃t,asB l jn=t:=⟨_,rfl⟩;obtain⟨q,hq⟩:∃q,Fn l jn=q:=⟨_,rfl⟩;obtain⟨q1,na⟩:∃q1,q+1=q1:=⟨_,rfl⟩;have BJ:t=if bi 1 [Rc] l jn=true then jn+1 else jn:=by rw[←ht];rfl
   have BK:q=if li l t=true then t+1 else t:=by rw[←hq,←ht];rfl
   have has:∀W,Below w.heap.size w W→Calls Tryz.prog 104 #[v,.int .i64 (jn:Int),.string ⟨#[97,115]⟩] W fun e w'=>e=.returned (.bool (bi 1 [Rc] l jn))∧w'=W:=fun W hW=>by
    have:=Kg v l jn ⟨#[97,115]⟩ W (HT.out _ hW) (by omega)
    rwa[show [(⟨#[97,115]⟩:ByteArray).toList]=[Rc] by rw[Lib.toList_data];rfl]at this
   have vG:∀W,Calls Tryz.prog 154 #[v,.int .i64 (t:Int)] W (fun e w'=>e=.returned (.bool (li l t))∧Below W.heap.size W w')∨¬Below w.heap.size w W:=fun W=>by
    by_cases hW:Below w.heap.size w W
    ·exact .inl (Ls v l t W (HT.out _ hW) (by omega))
    ·exact .inr hW
   have BL:∀W,Below w.heap.size w W→Calls Tryz.prog 155 #[v,.int .i64 (q:Int),.string ⟨#[44]⟩] W fun e w'=>e=.returned (.bool (rd l q))∧w'=W:=fun W hW=>by
    have:=Mw v l q ⟨#[44]⟩ W (HT.out _ hW) (by omega)
    rwa[show [(⟨#[44]⟩:ByteArray).toList]=[[44]] by rw[Lib.toList_data]]at this
   have pZ:=Js l jn;rw[hq]at pZ;have gm:R=d++rt l j::(if rd l q=true then(Hc l q1).map (·.1)else []):=by
    rw[HV.out,HE.out,if_neg jT,hq,na]
    cases rd l q<;>simp
   have BM:t=jn+1→IntKind.i64.wrap ((jn:Int)+1)=(t:Int):=fun e=>by rw[show(jn:Int)+1=(t:Int) by omega];exact d7 (by omega)
   have BN:q=t+1→IntKind.i64.wrap ((t:Int)+1)=(q:Int):=fun e=>by rw[show(t:Int)+1=(q:Int) by omega];exact d7 (by omega)
   have Dj:IntKind.i64.wrap ((q:Int)+1)=(q1:Int):=by rw[show(q:Int)+1=(q1:Int) by omega];exact d7 (by omega)
   have kP:rd l q=true→q<l.length:=Ns
   generalize bi 1 [Rc] l jn=yj at*
   generalize li l t=bp at*
   generalize rd l q=bc at*
   obtain⟨dm,qg,dn,cB,jj,fB⟩:=hZ6 has vG BL gm pZ na;obtain⟨lQ,gA,oE,iq,iB⟩:=hZ5 BJ BK BM BN kP;clear has vG BL gm pZ na BJ BK BM BN ht hq kP HE HV
   cases bo
   ·cases bt
    ·have kD:j=k:=by rw[lP];rfl
     subst kD;clear nU lP;go_wp2_with (first
     |(go_at_call 104;(with_reducible refine im.out.mono ?_);rintro e w2 ⟨rfl,rfl⟩)
     |(go_at_call 104;(with_reducible refine gR.out.mono ?_);rintro e w3 ⟨rfl,rfl⟩)
     |(go_at_call 153;(with_reducible refine gO.out.mono ?_);rintro e w4 ⟨⟨s,rfl,hs⟩,ai⟩;obtain⟨cH,jr⟩:=hZ2 ai hs;have eF:=qid (HJ.out.step ai);clear hs ai)
     |(at_builtin;refine wpList_append_lies _ rfl _ _ 50 rfl w.heap.size 9 i0 (.string ByteArray.empty) 1 16 IV il eK dD bg rfl (by decide) _ d.length (d.map sV) rfl (eF.out.own.alloc _) ⟨w4.heap.size,0,none⟩ 1 1 [.string s] rfl rfl ?c1 ?c2 (by decide) ?c3 ?c4 ?c5 _ rfl ?_))
     case c1=>
      intro j u hj
      match j,hj with
      |0,hj=>simp at hj;subst hj;simp[Addr.add]
     case c2=>intro u hu;simp at hu;subst hu;rfl
     case c3=>have:=gX.out;unfold maxLen;omega
     case c4=>have:=gX.out;omega
     case c5=>have:=eF.out.bel.size;simp;omega
     intro g cap W1 aE aj al aD;have pM:=NJ.push (eF.out.step (gT _ _)) (Nat.le_refl _) (jr.out (by omega)) aE aj
     have cV:=qid pM;have bO:=qid ((qg.out W1).resolve_right (fun h=>h cV.out.bel))
     clear pM aE aj al aD qg
     cases yj
     ·obtain rfl:t=jn:=by rw[lQ.out];rfl
      clear oE lQ
      cases bp
      ·obtain rfl:q=t:=by rw[gA.out];rfl
       clear iq gA
       cases bc
       ·have bS:=cB.out
        have d':=qid bS;clear bS cB;go_wp2_with (first
         |(go_at_call 104;(with_reducible refine(dm.out _ cV.out.bel).mono ?_);rintro e w6 ⟨rfl,rfl⟩)
         |(go_at_call 154;(with_reducible refine bO.out.mono ?_);rintro e w7 ⟨rfl,bF⟩;have bT:=qid (cV.out.step bF);clear bF)
         |(go_at_call 155;(with_reducible refine(dn.out _ bT.out.bel).mono ?_);rintro e w8 ⟨rfl,rfl⟩))
        go_ret;exact⟨_,rfl,by rw[d'.out];exact bT.out⟩
       ·have bS:=cB.out
        have d':=qid bS;clear bS cB;obtain⟨g2,rfl⟩:∃g2,gk=g2+1:=⟨gk-1,by omega⟩
        go_wp2_with (first
         |(go_at_call 104;(with_reducible refine(dm.out _ cV.out.bel).mono ?_);rintro e w6 ⟨rfl,rfl⟩)
         |(go_at_call 154;(with_reducible refine bO.out.mono ?_);rintro e w7 ⟨rfl,bF⟩;have bT:=qid (cV.out.step bF);clear bF)
         |(go_at_call 155;(with_reducible refine(dn.out _ bT.out.bel).mono ?_);rintro e w8 ⟨rfl,rfl⟩))
        go_roundg g2
        case measure=>exact Nat.lt_succ_self _
        case rel=>
         have r1:=d'.out;have r2:=jj.out;have r3:=jk.out;have r4:=fB.out;have r5:=jV.out;have r6:=gX.out;have r7:=iB.out (by first|rfl|trivial)
         clear im gR gO dm bO dn;refine⟨q1,d++[rt l j],rfl,by omega,by omega,by simpa using bT.out,by rw[List.length_append,List.length_singleton];omega,?_⟩
         rw[r1];simp
      ·have vH:=iq.out (by rw[gA.out];rfl)
       clear iq gA
       cases bc
       ·have bS:=cB.out
        have d':=qid bS;clear bS cB;go_wp2_with (first
         |(go_at_call 104;(with_reducible refine(dm.out _ cV.out.bel).mono ?_);rintro e w6 ⟨rfl,rfl⟩)
         |(go_at_call 154;(with_reducible refine bO.out.mono ?_);rintro e w7 ⟨rfl,bF⟩;have bT:=qid (cV.out.step bF);clear bF)
         |(go_at_call 155;(with_reducible refine(dn.out _ bT.out.bel).mono ?_);rintro e w8 ⟨rfl,rfl⟩))
        go_ret;exact⟨_,rfl,by rw[d'.out];exact bT.out⟩
       ·have bS:=cB.out
        have d':=qid bS;clear bS cB;obtain⟨g2,rfl⟩:∃g2,gk=g2+1:=⟨gk-1,by omega⟩
        go_wp2_with (first
         |(go_at_call 104;(with_reducible refine(dm.out _ cV.out.bel).mono ?_);rintro e w6 ⟨rfl,rfl⟩)
         |(go_at_call 154;(with_reducible refine bO.out.mono ?_);rintro e w7 ⟨rfl,bF⟩;have bT:=qid (cV.out.step bF);clear bF)
         |(go_at_call 155;(with_reducible refine(dn.out _ bT.out.bel).mono ?_);rintro e w8 ⟨rfl,rfl⟩))
        go_roundg g2
        case measure=>exact Nat.lt_succ_self _
        case rel=>
         have r1:=d'.out;have r2:=jj.out;have r3:=jk.out;have r4:=fB.out;have r5:=jV.out;have r6:=gX.out;have r7:=iB.out (by first|rfl|trivial)
         clear im gR gO dm bO dn;refine⟨q1,d++[rt l j],rfl,by omega,by omega,by simpa using bT.out,by rw[List.length_append,List.length_singleton];omega,?_⟩
         rw[r1];simp
     ·have BO:=oE.out (by rw[lQ.out];rfl)
      clear oE lQ
      cases bp
      ·obtain rfl:q=t:=by rw[gA.out];rfl
       clear iq gA
       cases bc
       ·have bS:=cB.out
        have d':=qid bS;clear bS cB;go_wp2_with (first
         |(go_at_call 104;(with_reducible refine(dm.out _ cV.out.bel).mono ?_);rintro e w6 ⟨rfl,rfl⟩)
         |(go_at_call 154;(with_reducible refine bO.out.mono ?_);rintro e w7 ⟨rfl,bF⟩;have bT:=qid (cV.out.step bF);clear bF)
         |(go_at_call 155;(with_reducible refine(dn.out _ bT.out.bel).mono ?_);rintro e w8 ⟨rfl,rfl⟩))
        go_ret;exact⟨_,rfl,by rw[d'.out];exact bT.out⟩
       ·have bS:=cB.out
        have d':=qid bS;clear bS cB;obtain⟨g2,rfl⟩:∃g2,gk=g2+1:=⟨gk-1,by omega⟩
        go_wp2_with (first
         |(go_at_call 104;(with_reducible refine(dm.out _ cV.out.bel).mono ?_);rintro e w6 ⟨rfl,rfl⟩)
         |(go_at_call 154;(with_reducible refine bO.out.mono ?_);rintro e w7 ⟨rfl,bF⟩;have bT:=qid (cV.out.step bF);clear bF)
         |(go_at_call 155;(with_reducible refine(dn.out _ bT.out.bel).mono ?_);rintro e w8 ⟨rfl,rfl⟩))
        go_roundg g2
        case measure=>exact Nat.lt_succ_self _
        case rel=>
         have r1:=d'.out;have r2:=jj.out;have r3:=jk.out;have r4:=fB.out;have r5:=jV.out;have r6:=gX.out;have r7:=iB.out (by first|rfl|trivial)
         clear im gR gO dm bO dn;refine⟨q1,d++[rt l j],rfl,by omega,by omega,by simpa using bT.out,by rw[List.length_append,List.length_singleton];omega,?_⟩
         rw[r1];simp
      ·have vH:=iq.out (by rw[gA.out];rfl)
       clear iq gA
       cases bc
       ·have bS:=cB.out
        have d':=qid bS;clear bS cB;go_wp2_with (first
         |(go_at_call 104;(with_reducible refine(dm.out _ cV.out.bel).mono ?_);rintro e w6 ⟨rfl,rfl⟩)
         |(go_at_call 154;(with_reducible refine bO.out.mono ?_);rintro e w7 ⟨rfl,bF⟩;have bT:=qid (cV.out.step bF);clear bF)
         |(go_at_call 155;(with_reducible refine(dn.out _ bT.out.bel).mono ?_);rintro e w8 ⟨rfl,rfl⟩))
        go_ret;exact⟨_,rfl,by rw[d'.out];exact bT.out⟩
       ·have bS:=cB.out
        have d':=qid bS;clear bS cB;obtain⟨g2,rfl⟩:∃g2,gk=g2+1:=⟨gk-1,by omega⟩
        go_wp2_with (first
         |(go_at_call 104;(with_reducible refine(dm.out _ cV.out.bel).mono ?_);rintro e w6 ⟨rfl,rfl⟩)
         |(go_at_call 154;(with_reducible refine bO.out.mono ?_);rintro e w7 ⟨rfl,bF⟩;have bT:=qid (cV.out.step bF);clear bF)
         |(go_at_call 155;(with_reducible refine(dn.out _ bT.out.bel).mono ?_);rintro e w8 ⟨rfl,rfl⟩))
        go_roundg g2
        case measure=>exact Nat.lt_succ_self _
        case rel=>
         have r1:=d'.out;have r2:=jj.out;have r3:=jk.out;have r4:=fB.out;have r5:=jV.out;have r6:=gX.out;have r7:=iB.out (by first|rfl|trivial)
         clear im gR gO dm bO dn;refine⟨q1,d++[rt l j],rfl,by omega,by omega,by simpa using bT.out,by rw[List.length_append,List.length_singleton];omega,?_⟩
         rw[r1];simp
    ·have kD:j=k+1:=by rw[lP];rfl
     have hw:=nU kD;clear nU lP kD;go_wp2_with (first
     |(go_at_call 104;(with_reducible refine im.out.mono ?_);rintro e w2 ⟨rfl,rfl⟩)
     |(go_at_call 104;(with_reducible refine gR.out.mono ?_);rintro e w3 ⟨rfl,rfl⟩)
     |(go_at_call 153;(with_reducible refine gO.out.mono ?_);rintro e w4 ⟨⟨s,rfl,hs⟩,ai⟩;obtain⟨cH,jr⟩:=hZ2 ai hs;have eF:=qid (HJ.out.step ai);clear hs ai)
     |(at_builtin;refine wpList_append_lies _ rfl _ _ 50 rfl w.heap.size 9 i0 (.string ByteArray.empty) 1 16 IV il eK dD bg rfl (by decide) _ d.length (d.map sV) rfl (eF.out.own.alloc _) ⟨w4.heap.size,0,none⟩ 1 1 [.string s] rfl rfl ?c1 ?c2 (by decide) ?c3 ?c4 ?c5 _ rfl ?_))
     case c1=>
      intro j u hj
      match j,hj with
      |0,hj=>simp at hj;subst hj;simp[Addr.add]
     case c2=>intro u hu;simp at hu;subst hu;rfl
     case c3=>have:=gX.out;unfold maxLen;omega
     case c4=>have:=gX.out;omega
     case c5=>have:=eF.out.bel.size;simp;omega
     intro g cap W1 aE aj al aD;have pM:=NJ.push (eF.out.step (gT _ _)) (Nat.le_refl _) (jr.out (by omega)) aE aj
     have cV:=qid pM;have bO:=qid ((qg.out W1).resolve_right (fun h=>h cV.out.bel))
     clear pM aE aj al aD qg
     cases yj
     ·obtain rfl:t=jn:=by rw[lQ.out];rfl
      clear oE lQ
      cases bp
      ·obtain rfl:q=t:=by rw[gA.out];rfl
       clear iq gA
       cases bc
       ·have bS:=cB.out
        have d':=qid bS;clear bS cB;go_wp2_with (first
         |(go_at_call 104;(with_reducible refine(dm.out _ cV.out.bel).mono ?_);rintro e w6 ⟨rfl,rfl⟩)
         |(go_at_call 154;(with_reducible refine bO.out.mono ?_);rintro e w7 ⟨rfl,bF⟩;have bT:=qid (cV.out.step bF);clear bF)
         |(go_at_call 155;(with_reducible refine(dn.out _ bT.out.bel).mono ?_);rintro e w8 ⟨rfl,rfl⟩))
        go_ret;exact⟨_,rfl,by rw[d'.out];exact bT.out⟩
       ·have bS:=cB.out
        have d':=qid bS;clear bS cB;obtain⟨g2,rfl⟩:∃g2,gk=g2+1:=⟨gk-1,by omega⟩
        go_wp2_with (first
         |(go_at_call 104;(with_reducible refine(dm.out _ cV.out.bel).mono ?_);rintro e w6 ⟨rfl,rfl⟩)
         |(go_at_call 154;(with_reducible refine bO.out.mono ?_);rintro e w7 ⟨rfl,bF⟩;have bT:=qid (cV.out.step bF);clear bF)
         |(go_at_call 155;(with_reducible refine(dn.out _ bT.out.bel).mono ?_);rintro e w8 ⟨rfl,rfl⟩))
        go_roundg g2
        case measure=>exact Nat.lt_succ_self _
        case rel=>
         have r1:=d'.out;have r2:=jj.out;have r3:=jk.out;have r4:=fB.out;have r5:=jV.out;have r6:=gX.out;have r7:=iB.out (by first|rfl|trivial)
         clear im gR gO dm bO dn;refine⟨q1,d++[rt l j],rfl,by omega,by omega,by simpa using bT.out,by rw[List.length_append,List.length_singleton];omega,?_⟩
         rw[r1];simp
      ·have vH:=iq.out (by rw[gA.out];rfl)
       clear iq gA
       cases bc
       ·have bS:=cB.out
        have d':=qid bS;clear bS cB;go_wp2_with (first
         |(go_at_call 104;(with_reducible refine(dm.out _ cV.out.bel).mono ?_);rintro e w6 ⟨rfl,rfl⟩)
         |(go_at_call 154;(with_reducible refine bO.out.mono ?_);rintro e w7 ⟨rfl,bF⟩;have bT:=qid (cV.out.step bF);clear bF)
         |(go_at_call 155;(with_reducible refine(dn.out _ bT.out.bel).mono ?_);rintro e w8 ⟨rfl,rfl⟩))
        go_ret;exact⟨_,rfl,by rw[d'.out];exact bT.out⟩
       ·have bS:=cB.out
        have d':=qid bS;clear bS cB;obtain⟨g2,rfl⟩:∃g2,gk=g2+1:=⟨gk-1,by omega⟩
        go_wp2_with (first
         |(go_at_call 104;(with_reducible refine(dm.out _ cV.out.bel).mono ?_);rintro e w6 ⟨rfl,rfl⟩)
         |(go_at_call 154;(with_reducible refine bO.out.mono ?_);rintro e w7 ⟨rfl,bF⟩;have bT:=qid (cV.out.step bF);clear bF)
         |(go_at_call 155;(with_reducible refine(dn.out _ bT.out.bel).mono ?_);rintro e w8 ⟨rfl,rfl⟩))
        go_roundg g2
        case measure=>exact Nat.lt_succ_self _
        case rel=>
         have r1:=d'.out;have r2:=jj.out;have r3:=jk.out;have r4:=fB.out;have r5:=jV.out;have r6:=gX.out;have r7:=iB.out (by first|rfl|trivial)
         clear im gR gO dm bO dn;refine⟨q1,d++[rt l j],rfl,by omega,by omega,by simpa using bT.out,by rw[List.length_append,List.length_singleton];omega,?_⟩
         rw[r1];simp
     ·have BO:=oE.out (by rw[lQ.out];rfl)
      clear oE lQ
      cases bp
      ·obtain rfl:q=t:=by rw[gA.out];rfl
       clear iq gA
       cases bc
       ·have bS:=cB.out
        have d':=qid bS;clear bS cB;go_wp2_with (first
         |(go_at_call 104;(with_reducible refine(dm.out _ cV.out.bel).mono ?_);rintro e w6 ⟨rfl,rfl⟩)
         |(go_at_call 154;(with_reducible refine bO.out.mono ?_);rintro e w7 ⟨rfl,bF⟩;have bT:=qid (cV.out.step bF);clear bF)
         |(go_at_call 155;(with_reducible refine(dn.out _ bT.out.bel).mono ?_);rintro e w8 ⟨rfl,rfl⟩))
        go_ret;exact⟨_,rfl,by rw[d'.out];exact bT.out⟩
       ·have bS:=cB.out
        have d':=qid bS;clear bS cB;obtain⟨g2,rfl⟩:∃g2,gk=g2+1:=⟨gk-1,by omega⟩
        go_wp2_with (first
         |(go_at_call 104;(with_reducible refine(dm.out _ cV.out.bel).mono ?_);rintro e w6 ⟨rfl,rfl⟩)
         |(go_at_call 154;(with_reducible refine bO.out.mono ?_);rintro e w7 ⟨rfl,bF⟩;have bT:=qid (cV.out.step bF);clear bF)
         |(go_at_call 155;(with_reducible refine(dn.out _ bT.out.bel).mono ?_);rintro e w8 ⟨rfl,rfl⟩))
        go_roundg g2
        case measure=>exact Nat.lt_succ_self _
        case rel=>
         have r1:=d'.out;have r2:=jj.out;have r3:=jk.out;have r4:=fB.out;have r5:=jV.out;have r6:=gX.out;have r7:=iB.out (by first|rfl|trivial)
         clear im gR gO dm bO dn;refine⟨q1,d++[rt l j],rfl,by omega,by omega,by simpa using bT.out,by rw[List.length_append,List.length_singleton];omega,?_⟩
         rw[r1];simp
      ·have vH:=iq.out (by rw[gA.out];rfl)
       clear iq gA
       cases bc
       ·have bS:=cB.out
        have d':=qid bS;clear bS cB;go_wp2_with (first
         |(go_at_call 104;(with_reducible refine(dm.out _ cV.out.bel).mono ?_);rintro e w6 ⟨rfl,rfl⟩)
         |(go_at_call 154;(with_reducible refine bO.out.mono ?_);rintro e w7 ⟨rfl,bF⟩;have bT:=qid (cV.out.step bF);clear bF)
         |(go_at_call 155;(with_reducible refine(dn.out _ bT.out.bel).mono ?_);rintro e w8 ⟨rfl,rfl⟩))
        go_ret;exact⟨_,rfl,by rw[d'.out];exact bT.out⟩
       ·have bS:=cB.out
        have d':=qid bS;clear bS cB;obtain⟨g2,rfl⟩:∃g2,gk=g2+1:=⟨gk-1,by omega⟩
        go_wp2_with (first
         |(go_at_call 104;(with_reducible refine(dm.out _ cV.out.bel).mono ?_);rintro e w6 ⟨rfl,rfl⟩)
         |(go_at_call 154;(with_reducible refine bO.out.mono ?_);rintro e w7 ⟨rfl,bF⟩;have bT:=qid (cV.out.step bF);clear bF)
         |(go_at_call 155;(with_reducible refine(dn.out _ bT.out.bel).mono ?_);rintro e w8 ⟨rfl,rfl⟩))
        go_roundg g2
        case measure=>exact Nat.lt_succ_self _
        case rel=>
         have r1:=d'.out;have r2:=jj.out;have r3:=jk.out;have r4:=fB.out;have r5:=jV.out;have r6:=gX.out;have r7:=iB.out (by first|rfl|trivial)
         clear im gR gO dm bO dn;refine⟨q1,d++[rt l j],rfl,by omega,by omega,by simpa using bT.out,by rw[List.length_append,List.length_singleton];omega,?_⟩
         rw[r1];simp
   ·have kD:j=k+1:=by rw[lP];rfl
    have hw:=nU kD;clear nU lP kD;go_wp2_with (first
     |(go_at_call 104;(with_reducible refine im.out.mono ?_);rintro e w2 ⟨rfl,rfl⟩)
     |(go_at_call 104;(with_reducible refine gR.out.mono ?_);rintro e w3 ⟨rfl,rfl⟩)
     |(go_at_call 153;(with_reducible refine gO.out.mono ?_);rintro e w4 ⟨⟨s,rfl,hs⟩,ai⟩;obtain⟨cH,jr⟩:=hZ2 ai hs;have eF:=qid (HJ.out.step ai);clear hs ai)
     |(at_builtin;refine wpList_append_lies _ rfl _ _ 50 rfl w.heap.size 9 i0 (.string ByteArray.empty) 1 16 IV il eK dD bg rfl (by decide) _ d.length (d.map sV) rfl (eF.out.own.alloc _) ⟨w4.heap.size,0,none⟩ 1 1 [.string s] rfl rfl ?c1 ?c2 (by decide) ?c3 ?c4 ?c5 _ rfl ?_))
    case c1=>
     intro j u hj
     match j,hj with
     |0,hj=>simp at hj;subst hj;simp[Addr.add]
    case c2=>intro u hu;simp at hu;subst hu;rfl
    case c3=>have:=gX.out;unfold maxLen;omega
    case c4=>have:=gX.out;omega
    case c5=>have:=eF.out.bel.size;simp;omega
    intro g cap W1 aE aj al aD;have pM:=NJ.push (eF.out.step (gT _ _)) (Nat.le_refl _) (jr.out (by omega)) aE aj
    have cV:=qid pM;have bO:=qid ((qg.out W1).resolve_right (fun h=>h cV.out.bel))
    clear pM aE aj al aD qg
    cases yj
    ·obtain rfl:t=jn:=by rw[lQ.out];rfl
     clear oE lQ
     cases bp
     ·obtain rfl:q=t:=by rw[gA.out];rfl
      clear iq gA
      cases bc
      ·have bS:=cB.out
       have d':=qid bS;clear bS cB;go_wp2_with (first
        |(go_at_call 104;(with_reducible refine(dm.out _ cV.out.bel).mono ?_);rintro e w6 ⟨rfl,rfl⟩)
        |(go_at_call 154;(with_reducible refine bO.out.mono ?_);rintro e w7 ⟨rfl,bF⟩;have bT:=qid (cV.out.step bF);clear bF)
        |(go_at_call 155;(with_reducible refine(dn.out _ bT.out.bel).mono ?_);rintro e w8 ⟨rfl,rfl⟩))
       go_ret;exact⟨_,rfl,by rw[d'.out];exact bT.out⟩
      ·have bS:=cB.out
       have d':=qid bS;clear bS cB;obtain⟨g2,rfl⟩:∃g2,gk=g2+1:=⟨gk-1,by omega⟩
       go_wp2_with (first
        |(go_at_call 104;(with_reducible refine(dm.out _ cV.out.bel).mono ?_);rintro e w6 ⟨rfl,rfl⟩)
        |(go_at_call 154;(with_reducible refine bO.out.mono ?_);rintro e w7 ⟨rfl,bF⟩;have bT:=qid (cV.out.step bF);clear bF)
        |(go_at_call 155;(with_reducible refine(dn.out _ bT.out.bel).mono ?_);rintro e w8 ⟨rfl,rfl⟩))
       go_roundg g2
       case measure=>exact Nat.lt_succ_self _
       case rel=>
        have r1:=d'.out;have r2:=jj.out;have r3:=jk.out;have r4:=fB.out;have r5:=jV.out;have r6:=gX.out;have r7:=iB.out (by first|rfl|trivial)
        clear im gR gO dm bO dn;refine⟨q1,d++[rt l j],rfl,by omega,by omega,by simpa using bT.out,by rw[List.length_append,List.length_singleton];omega,?_⟩
        rw[r1];simp
     ·have vH:=iq.out (by rw[gA.out];rfl)
      clear iq gA
      cases bc
      ·have bS:=cB.out
       have d':=qid bS;clear bS cB;go_wp2_with (first
        |(go_at_call 104;(with_reducible refine(dm.out _ cV.out.bel).mono ?_);rintro e w6 ⟨rfl,rfl⟩)
        |(go_at_call 154;(with_reducible refine bO.out.mono ?_);rintro e w7 ⟨rfl,bF⟩;have bT:=qid (cV.out.step bF);clear bF)
        |(go_at_call 155;(with_reducible refine(dn.out _ bT.out.bel).mono ?_);rintro e w8 ⟨rfl,rfl⟩))
       go_ret;exact⟨_,rfl,by rw[d'.out];exact bT.out⟩
      ·have bS:=cB.out
       have d':=qid bS;clear bS cB;obtain⟨g2,rfl⟩:∃g2,gk=g2+1:=⟨gk-1,by omega⟩
       go_wp2_with (first
        |(go_at_call 104;(with_reducible refine(dm.out _ cV.out.bel).mono ?_);rintro e w6 ⟨rfl,rfl⟩)
        |(go_at_call 154;(with_reducible refine bO.out.mono ?_);rintro e w7 ⟨rfl,bF⟩;have bT:=qid (cV.out.step bF);clear bF)
        |(go_at_call 155;(with_reducible refine(dn.out _ bT.out.bel).mono ?_);rintro e w8 ⟨rfl,rfl⟩))
       go_roundg g2
       case measure=>exact Nat.lt_succ_self _
       case rel=>
        have r1:=d'.out;have r2:=jj.out;have r3:=jk.out;have r4:=fB.out;have r5:=jV.out;have r6:=gX.out;have r7:=iB.out (by first|rfl|trivial)
        clear im gR gO dm bO dn;refine⟨q1,d++[rt l j],rfl,by omega,by omega,by simpa using bT.out,by rw[List.length_append,List.length_singleton];omega,?_⟩
        rw[r1];simp
    ·have BO:=oE.out (by rw[lQ.out];rfl)
     clear oE lQ
     cases bp
     ·obtain rfl:q=t:=by rw[gA.out];rfl
      clear iq gA
      cases bc
      ·have bS:=cB.out
       have d':=qid bS;clear bS cB;go_wp2_with (first
        |(go_at_call 104;(with_reducible refine(dm.out _ cV.out.bel).mono ?_);rintro e w6 ⟨rfl,rfl⟩)
        |(go_at_call 154;(with_reducible refine bO.out.mono ?_);rintro e w7 ⟨rfl,bF⟩;have bT:=qid (cV.out.step bF);clear bF)
        |(go_at_call 155;(with_reducible refine(dn.out _ bT.out.bel).mono ?_);rintro e w8 ⟨rfl,rfl⟩))
       go_ret;exact⟨_,rfl,by rw[d'.out];exact bT.out⟩
      ·have bS:=cB.out
       have d':=qid bS;clear bS cB;obtain⟨g2,rfl⟩:∃g2,gk=g2+1:=⟨gk-1,by omega⟩
       go_wp2_with (first
        |(go_at_call 104;(with_reducible refine(dm.out _ cV.out.bel).mono ?_);rintro e w6 ⟨rfl,rfl⟩)
        |(go_at_call 154;(with_reducible refine bO.out.mono ?_);rintro e w7 ⟨rfl,bF⟩;have bT:=qid (cV.out.step bF);clear bF)
        |(go_at_call 155;(with_reducible refine(dn.out _ bT.out.bel).mono ?_);rintro e w8 ⟨rfl,rfl⟩))
       go_roundg g2
       case measure=>exact Nat.lt_succ_self _
       case rel=>
        have r1:=d'.out;have r2:=jj.out;have r3:=jk.out;have r4:=fB.out;have r5:=jV.out;have r6:=gX.out;have r7:=iB.out (by first|rfl|trivial)
        clear im gR gO dm bO dn;refine⟨q1,d++[rt l j],rfl,by omega,by omega,by simpa using bT.out,by rw[List.length_append,List.length_singleton];omega,?_⟩
        rw[r1];simp
     ·have vH:=iq.out (by rw[gA.out];rfl)
      clear iq gA
      cases bc
      ·have bS:=cB.out
       have d':=qid bS;clear bS cB;go_wp2_with (first
        |(go_at_call 104;(with_reducible refine(dm.out _ cV.out.bel).mono ?_);rintro e w6 ⟨rfl,rfl⟩)
        |(go_at_call 154;(with_reducible refine bO.out.mono ?_);rintro e w7 ⟨rfl,bF⟩;have bT:=qid (cV.out.step bF);clear bF)
        |(go_at_call 155;(with_reducible refine(dn.out _ bT.out.bel).mono ?_);rintro e w8 ⟨rfl,rfl⟩))
       go_ret;exact⟨_,rfl,by rw[d'.out];exact bT.out⟩
      ·have bS:=cB.out
       have d':=qid bS;clear bS cB;obtain⟨g2,rfl⟩:∃g2,gk=g2+1:=⟨gk-1,by omega⟩
       go_wp2_with (first
        |(go_at_call 104;(with_reducible refine(dm.out _ cV.out.bel).mono ?_);rintro e w6 ⟨rfl,rfl⟩)
        |(go_at_call 154;(with_reducible refine bO.out.mono ?_);rintro e w7 ⟨rfl,bF⟩;have bT:=qid (cV.out.step bF);clear bF)
        |(go_at_call 155;(with_reducible refine(dn.out _ bT.out.bel).mono ?_);rintro e w8 ⟨rfl,rfl⟩))
       go_roundg g2
       case measure=>exact Nat.lt_succ_self _
       case rel=>
        have r1:=d'.out;have r2:=jj.out;have r3:=jk.out;have r4:=fB.out;have r5:=jV.out;have r6:=gX.out;have r7:=iB.out (by first|rfl|trivial)
        clear im gR gO dm bO dn;refine⟨q1,d++[rt l j],rfl,by omega,by omega,by simpa using bT.out,by rw[List.length_append,List.length_singleton];omega,?_⟩
        rw[r1];simp
theorem Qn{p:Tx→Bool}:∀(l:List Tx) (i:Nat),(∀y∈l.take i,p y=true)→(∀y,l[i]? =some y→p y=false)→l.takeWhile p=l.take i∧l.dropWhile p=l.drop i:=by
 intro l
 induction l with
 |nil=>intro i _ _;simp
 |cons x r ih=>
  intro i h1 h2
  cases i with
  |zero=>
   have:=h2 x rfl;rw[List.takeWhile_cons,List.dropWhile_cons,this];exact⟨rfl,rfl⟩
  |succ i=>
   have:=h1 x (by simp)
   obtain⟨a,b⟩:=ih i (fun y hy=>h1 y (by rw[List.take_succ_cons];exact List.mem_cons_of_mem _ hy)) (fun y hy=>h2 y (by simpa using hy))
   rw[List.takeWhile_cons,List.dropWhile_cons,this,List.take_succ_cons,List.drop_succ_cons];exact⟨by simp only[if_true];rw[a],by simp only[if_true];exact b⟩
def PRT(w:World)(v:Value)(d:List Tx):Prop:=
 (v=.slice none 0 0∧d=[])∨
 ∃h off cap,v=.slice (some ⟨h,off,none⟩) d.length cap∧d.length≤cap∧∀(i:Nat) (x:Tx),d[i]? =some x→w.cell? ⟨h,off+i,none⟩=some (sV x)
theorem PRT.sr{w:World}{v:Value}{d:List Tx}(h:PRT w v d):SRT w v d:=by
 rcases h with⟨rfl,rfl⟩|h
 ·exact .inl ⟨none,0,rfl,rfl⟩
 ·exact .inr h
theorem PRT.keep{w w':World}{v:Value}{d:List Tx}(h:PRT w v d)(hk:∀p:Addr,(w.cell? p).isSome=true→w'.cell? p=w.cell? p):PRT w' v d:=by
 rcases h with h|⟨h,off,cap,e,hc,hm⟩
 ·exact .inl h
 ·exact .inr ⟨h,off,cap,e,hc,fun i x hi=>(hk _ (by rw[hm i x hi];rfl)).trans (hm i x hi)⟩
theorem PRT.below{w w':World}{v:Value}{d:List Tx}(h:PRT w v d)(hb:Below w.heap.size w w'):PRT w' v d:=
 h.keep fun p hp=>by
  obtain⟨u,hu⟩:=Option.isSome_iff_exists.1 hp;exact hb.cell (World.block_lt_of_cell? w p hu)
theorem PRT.own{w:World}{B:Nat}{v:Value}{d:List Tx}(h:w.ownsRow B 9 1 v d.length (d.map sV)):PRT w v d:=by
 rcases h.2 with⟨rfl,hz⟩|⟨g,cap,cur,rfl,hb,hh,hc,hm,hs,ht⟩
 ·exact .inl ⟨rfl,List.eq_nil_of_length_eq_zero hz⟩
 ·refine .inr ⟨g,0,cap,rfl,hc,fun i x hi=>?_⟩
  have:=h.cells (g:=g) rfl i (sV x) (by rw[List.getElem?_map,hi];rfl)
  rw[Addr.add_lit,Nat.zero_add]at this;rw[Nat.zero_add];exact this
theorem PRT.at_{w:World}{v:Value}{d:List Tx}(h:PRT w v d):(v=.slice none 0 0∧d=[])∨∃g off cap,v=.slice (some ⟨g,off,none⟩) d.length cap∧d.length≤cap∧∀k (hk:k<d.length),w.cell? ⟨g,off+k,none⟩=some (sV d[k]):=by
 rcases h with h|⟨g,off,cap,rfl,hc,hx⟩
 ·exact .inl h
 ·exact .inr ⟨g,off,cap,rfl,hc,fun k hk=>hx k d[k] (List.getElem?_eq_getElem hk)⟩
theorem Lb(l:List Tx)(s:Tx):(Hs l s).length≤l.length+1:=by
 unfold Hs
 split
 ·omega
 ·have:(l.takeWhile (fun x=>decide (x<s))++l.dropWhile (fun x=>decide (x<s))).length=l.length:=by rw[List.takeWhile_append_dropWhile]
  rw[List.length_append]at this;rw[List.length_append,List.length_append,List.length_singleton];omega
theorem Lc(x:Tx):∃s:ByteArray,sV x=.string s∧s.toList=x∧s.size=x.length:=⟨⟨x.toArray⟩,rfl,KP x,by show x.toArray.size=_;simp⟩
theorem PRT.cells{w:World}{g off n c:Nat}{d:List Tx}(h:PRT w (.slice (some ⟨g,off,none⟩) n c) d):∀k (hk:k<d.length),w.cell? ⟨g,off+k,none⟩=some (sV d[k]):=by
 rcases h with⟨e,_⟩|⟨g2,pY,c2,e,_,hx⟩
 ·cases e
 ·injection e with e1 e2 e3
  injection e1 with e1;injection e1 with e1 e4;subst e1 e4;exact fun k hk=>hx k d[k] (List.getElem?_eq_getElem hk)
theorem NJ.push2{w W W1:World}{B g cap n:Nat}{d:List Tx}{s:ByteArray}{vs:Value}{x:Tx}(h:NJ w B d vs W)(hB:w.heap.size≤B)(hs:s.toList=x)(hn:n=d.length)(aE:W1.ownsRow B 9 1 (.slice (some ⟨g,0,none⟩) (n+1) cap) (n+1) (d.map sV++[.string s]))(hg:W.grownBy W1 vs.ownBlock):NJ w B (d++[x]) (.slice (some ⟨g,0,none⟩) (n+1) cap) W1:=by
 subst hn;exact NJ.push h hB hs aE hg
theorem NJ.more{w W W1:World}{B g cap n1 m:Nat}{d e:List Tx}{vs:Value}{xs:List Value}(h:NJ w B d vs W)(hB:w.heap.size≤B)(h1:n1=d.length)(h2:xs=d.map sV)(h3:m=e.length)(aE:W1.ownsRow B 9 1 (.slice (some ⟨g,0,none⟩) (n1+m) cap) (n1+m) (xs++e.map sV))(hg:W.grownBy W1 vs.ownBlock):NJ w B (d++e) (.slice (some ⟨g,0,none⟩) (n1+m) cap) W1:=by
 refine⟨h.bel.grown hg h.bel.size fun k hk=>Nat.le_trans hB (World.ownsRow.lt h.own k hk).1,?_⟩
 rw[List.length_append,List.map_append,←h1,←h2,←h3];exact aE
theorem J0(W:World)(g n cap:Nat)(h:n≤cap)(ty:TypeId)(a:Option Addr)(c:Nat):
  (Builtin.append_ #[50,50] ty #[.slice (some ⟨g,0,none⟩) n cap,.slice a 0 c]).run Tryz.prog W=.ok (.slice (some ⟨g,0,none⟩) n cap) W:=by
 obtain⟨i0,hi,eK,dD,bg⟩:=info_parts NL;refine run_append_nothing W _ _ ty _ i0 IV hi _ n cap h _ ?_
 cases a with
 |none=>exact Src.ofNil W IV c
 |some ad=>exact Src.ofSlice W IV ad 0 c [] (by simp) (fun j u hj=>by simp at hj) (fun u hu=>by cases hu)
theorem MU(v1 v2:Value)(d e:List Tx)(w:World)(h1:SRT w v1 d)(h2:SRT w v2 e)(hl:d.length≤2000000000)(gy:e.length≤2000000000):
  Calls Tryz.prog 18 #[v1,v2] w fun r w'=>r=.returned (.bool (decide (d=e)))∧∃n,w'=w.drewN n:=by
 obtain⟨a1,c1,rfl,ct⟩:=h1.at_;obtain⟨a2,c2,rfl,dX⟩:=h2.at_
 by_cases hlen:d.length=e.length
 ·obtain⟨R,hR⟩:∃R,decide (d=e)=R:=⟨_,rfl⟩
  rw[hR];obtain⟨HR,bX,iw,fW⟩:=hZ4 hR ct dX hlen;clear ct dX hR h1 h2;have ne:((d.length:Int) != (e.length:Int))=false:=by rw[bne_eq_false_iff_eq,hlen]
  rw[←hlen]at ne⊢;clear hlen;go_enter Tryz.func18,Tryz.ntmps18;go_wp2
  go_loopg [5] d.length (fun g u5 wx=>∃k:Nat,u5=.int .i64 (k:Int)∧k+g=d.length∧R=decide (d.drop k=e.drop k)∧∃n,wx=w.drewN n)
  case atStart=>exact⟨0,rfl,by omega,by rw[List.drop_zero,List.drop_zero];exact HR.out.symm,0,rfl⟩
  case round=>
   obtain⟨k,rfl,hk,hv,n0,rfl⟩:=hrel
   cases gk with
   |zero=>
    have gY:k=d.length:=by omega
    have ax:R=true:=by rw[hv,gY,List.drop_length,show e.drop d.length=[] by rw[fW.out,List.drop_length]];rfl
    have l1:¬((k:Int)<(d.length:Int)):=by omega
    subst ax;clear hv bX iw HR;go_wp2;go_ret;exact⟨rfl,_,rfl⟩
   |succ g=>
    have aD:k<d.length:=by omega
    have dW:k<e.length:=by have:=fW.out;omega
    rcases bX.out with h0|⟨b1,o1,rfl,fe,ct⟩
    ·omega
    rcases iw.out with h0|⟨b2,o2,rfl,ey,dX⟩
    ·omega
    have x1:=ct k aD;have x2:=dX k dW;rw[List.drop_eq_getElem_cons aD,List.drop_eq_getElem_cons dW]at hv;obtain⟨x,eL⟩:∃x,d[k]=x:=⟨_,rfl⟩;obtain⟨y,oG⟩:∃y,e[k]=y:=⟨_,rfl⟩;obtain⟨s,az,bC,_⟩:=Lc x;obtain⟨t,pL,fK,_⟩:=Lc y;rw[eL,az]at x1;rw[oG,pL]at x2;rw[eL,oG]at hv;have l0:(0:Int)≤(k:Int):=by omega
    have l1:(k:Int)<(d.length:Int):=by omega
    obtain⟨k1,bq⟩:∃k1,k+1=k1:=⟨_,rfl⟩;have wk:IntKind.i64.wrap ((k:Int)+1)=(k1:Int):=by rw[show(k:Int)+1=(k1:Int) by omega];exact d7 (by omega)
    rw[bq]at hv;have cC:=qid bq;clear ct dX bX iw HR bq eL oG az pL aD dW
    by_cases pN:x=y
    ·have es:(s.toList==t.toList)=true:=by rw[bC,fK,beq_iff_eq];exact pN
     have Dk:(!(s.toList==t.toList))=false:=by rw[es];rfl
     have ax:R=decide (d.drop k1=e.drop k1):=by rw[hv,pN];simp
     have HV:=qid ax;clear hv ax pN bC fK;go_wp2
     go_quiet (fail)
     go_wp2;go_roundg g
     case measure=>exact Nat.lt_succ_self _
     case rel=>exact⟨k1,rfl,by have:=cC.out;omega,HV.out,_,rfl⟩
    ·have es:(s.toList==t.toList)=false:=by rw[bC,fK,beq_eq_false_iff_ne];exact pN
     have Dk:(!(s.toList==t.toList))=true:=by rw[es];rfl
     have ax:R=false:=by rw[hv];simp[pN]
     subst ax;clear hv pN bC fK;go_wp2
     go_quiet (fail)
     go_wp2;go_ret;refine⟨rfl,?_⟩
     first|exact⟨_,rfl⟩|(rw[World.drewN_drewN];exact⟨_,rfl⟩)
 ·have ne:((d.length:Int) != (e.length:Int))=true:=by rw[bne_iff_ne];omega
  rw[show decide (d=e)=false by rw[decide_eq_false_iff_not];exact fun h=>hlen (by rw[h])]
  clear ct dX h1 h2 hlen;go_enter Tryz.func18,Tryz.ntmps18;go_wp2;go_ret;exact⟨rfl,0,rfl⟩
end Go.Proofs.YtpgddamhdfmdjaaGreatDoor
