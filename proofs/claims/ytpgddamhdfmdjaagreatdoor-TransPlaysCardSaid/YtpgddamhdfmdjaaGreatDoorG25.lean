/- Seu Sev -/
import Derived.Test.YtpgddamhdfmdjaaGreatDoorG23
import Derived.Test.YtpgddamhdfmdjaaGreatDoorG1
set_option linter.unusedSimpArgs false
set_option linter.unusedVariables false
set_option maxRecDepth 100000
set_option maxHeartbeats 16000000
namespace Go.Proofs.YtpgddamhdfmdjaaGreatDoor
open Go.ChangeShapes Go.WideShapes Go.ChangeAt Go.RowKit
def qdh(w:World)(R:List Tx)(e:Ending)(w':World):Prop:=∃v,e=.returned v∧PRT w' v R∧Below w.heap.size w w'
theorem Vl(vl vm:Value)(L M:List Tx)(w:World)(hL:PRT w vl L)(hM:SRT w vm M)(hlen:L.length+M.length≤2000000000)(hz:∀x∈L++M,x.length≤2000000001):
  Calls Tryz.prog 105 #[vl,vm] w (qdh w (M.foldl Hs L)):=by
 obtain⟨am,cm,rfl,vI⟩:=hM.at_;obtain⟨R,hR⟩:∃R,M.foldl Hs L=R:=⟨_,rfl⟩;rw[hR];obtain⟨i0,il,eK,dD,bg⟩:=info_parts NL;obtain⟨HL,HM,Dl,fW,HZ,HR⟩:=hZ6 hL hM vI hlen hz hR;clear hL hM vI hlen hz hR;go_enter Tryz.func105,Tryz.ntmps105;go_wp2
 go_loopg [0,5] M.length (fun g u0 u5 wx=>∃(k:Nat) (K:List Tx),u5=.int .i64 (k:Int)∧k+g=M.length∧PRT wx u0 K∧Below w.heap.size w wx∧K.length≤L.length+k∧(∀x∈K,x.length≤2000000001)∧R=(M.drop k).foldl Hs K)
 case atStart=>exact⟨0,L,rfl,by omega,HL.out,Below.refl _ _,by omega,fun x hx=>HZ.out x (List.mem_append_left _ hx),HR.out.symm⟩
 case round=>
  obtain⟨k,K,rfl,hk,hP,hB,BP,BQ,hv⟩:=hrel;obtain⟨HP,HB,qh,sZ,HV⟩:=hZ5 hP hB BP BQ hv;clear hP hB BP BQ hv HL HR
  cases gk with
  |zero=>
   have gY:k=M.length:=by omega
   have ax:R=K:=by rw[HV.out,gY,List.drop_length];rfl
   have l1:¬((k:Int)<(M.length:Int)):=by omega
   clear HV;go_wp2;go_ret;exact⟨_,rfl,HP.out,HB.out⟩
  |succ g=>
   have aD:k<M.length:=by omega
   rcases Dl.out with h0|⟨bm,om,rfl,kO,vI⟩
   ·omega
   have c1:=vI k aD;have Dm:bm<w.heap.size:=World.block_lt_of_cell? w _ c1;rw[←HB.out.cell (p:=⟨bm,om+k,none⟩) Dm]at c1;obtain⟨x,eL⟩:∃x,M[k]=x:=⟨_,rfl⟩;obtain⟨s,az,bC,ki⟩:=Lc x;have BR:x.length≤2000000001:=HZ.out x (List.mem_append_right _ (by rw[←eL];exact List.getElem_mem aD))
   rw[eL,az]at c1;have hd:M.drop k=x::M.drop (k+1):=by rw[List.drop_eq_getElem_cons aD,eL]
   have l0:(0:Int)≤(k:Int):=by omega
   have l1:(k:Int)<(M.length:Int):=by omega
   obtain⟨k1,bq⟩:∃k1,k+1=k1:=⟨_,rfl⟩;have wk:IntKind.i64.wrap ((k:Int)+1)=(k1:Int):=by have:=fW.out;rw[show(k:Int)+1=(k1:Int) by omega];exact d7 (by omega)
   have ax:R=(M.drop k1).foldl Hs (Hs K x):=by rw[HV.out,hd,bq];rfl
   have eO:=Ta u0 K s wr HP.out.sr (by have:=qh.out;have:=fW.out;omega)
   rw[bC]at eO;obtain⟨c,hc⟩:∃c,K.contains x=c:=⟨_,rfl⟩;rw[hc]at eO;obtain⟨q8,cO,cC,bx,vJ,Dn⟩:=hZ6 eO ax bq bC BR ki;obtain⟨HC,jr⟩:=hZ2 hc az;clear eO ax bq bC BR ki hc hd eL az HV vI aD
   cases c
   ·have mN:Hs K x=K.takeWhile (fun y=>decide (y<x))++[x]++K.dropWhile (fun y=>decide (y<x)):=by unfold Hs;rw[HC.out];rfl
    have oH:=qid mN;clear mN;have kV:=qid (NJ.mk (Below.refl wr.heap.size wr) (World.ownsRow_nil wr wr.heap.size 9 1):NJ wr wr.heap.size [] (.slice none 0 0) wr);go_wp2_with (go_at_call 152;(with_reducible refine q8.out.mono ?_);rintro e w2 ⟨rfl,rfl⟩)
    go_loopg [7,8] K.length (fun g2 u7 u8 wx=>∃i:Nat,u8=.int .i64 (i:Int)∧i+g2=K.length∧NJ w2 w2.heap.size (K.take i) u7 wx∧∀y∈K.take i,decide (y<x)=true)
    case atStart=>exact⟨0,rfl,by omega,kV.out,fun y hy=>by simp at hy⟩
    case round=>
     obtain⟨i,rfl,hi,hN,hy⟩:=hrel;have vK:(K.take i).length=i:=by rw[List.length_take];omega
     obtain⟨a7,c7,BS⟩:=hN.form;rw[vK]at BS;subst BS;have HY:=qid hy;have sb:=(HP.out.below hN.bel).at_;have Fv:K.length≤2000000000:=by have:=qh.out;have:=fW.out;omega
     have mw:∀W,Below wr.heap.size wr W→W.ownsRow w2.heap.size 9 1 (.slice a7 i c7) i ((K.take i).map sV):=fun W hW=>by
      have:=Gq hN.own hW
      rwa[vK]at this
     obtain⟨iC,sd,HN⟩:=hZ3 mw vK hN;have qg:=qid (HP.out.below hN.bel);clear hN hy kV q8 mw vK;obtain⟨i1,aN⟩:∃i1,i+1=i1:=⟨_,rfl⟩;have wi:IntKind.i64.wrap ((i:Int)+1)=(i1:Int):=by rw[show(i:Int)+1=(i1:Int) by omega];exact d7 (by omega)
     have Fw:(0:Int)≤(i:Int):=by omega
     have aQ:=qid aN;clear aN
     by_cases pK:i<K.length
     ·rcases sb with⟨rfl,rfl⟩|⟨ga,off,ck,rfl,Dp,dE⟩
      ·exact absurd pK (by simp)
      have c2:=dE i pK;obtain⟨y,oG⟩:∃y,K[i]=y:=⟨_,rfl⟩;obtain⟨t,pL,fK,lg⟩:=Lc y;have Dq:y.length≤2000000001:=sZ.out y (by rw[←oG];exact List.getElem_mem pK)
      rw[oG,pL]at c2;have iJ:∀W,Calls Tryz.prog 49 #[.string t,.string s] W fun e w'=>e=.returned (.bool (decide (y<x)))∧Below W.heap.size W w':=fun W=>by
       have:=Lt t s W (by omega) (by have:=Dn.out;have:=vJ.out;omega)
       rw[fK,bx.out]at this;exact this.mono fun e w' ⟨h1,n,h2⟩=>⟨h1,by rw[h2];exact⟨rfl,rfl,rfl,Nat.le_refl _,fun _ _=>rfl⟩⟩
      have Dr:ga<wr.heap.size:=World.block_lt_of_cell? _ _ c2;have c3:∀W,Below wr.heap.size wr W→W.cell? ⟨ga,off+i,none⟩=some (.string t):=fun W hW=>(hW.cell (p:=⟨ga,off+i,none⟩) Dr).trans c2
      have Ds:(i:Int)<(K.length:Int):=by omega
      obtain⟨b,hb⟩:∃b,decide (y<x)=b:=⟨_,rfl⟩;simp only[hb]at iJ;obtain⟨j',aO,BU,uS⟩:=hZ4 iJ hb c3 dE;have BV:=qid (show K.take (i+1)=K.take i++[y] by rw[List.take_succ_eq_append_getElem pK,oG])
      have Dt:=qid (show K[i]? =some y by rw[List.getElem?_eq_getElem pK,oG])
      have nG:=qid fK;clear iJ hb c3 dE oG pL fK lg Dq
      cases b
      ·have mO:=Qn (p:=fun z=>decide (z<x)) K i HY.out (fun z hz=>by rw[Dt.out]at hz;cases hz;exact aO.out)
       have iZ:=qid mO;clear mO;have Du:(0:Nat)<K.length-i:=by omega
       have Dv:¬ck=i:=by omega
       have oI:¬i=ck:=by omega
       have Dw:(i:Int)≤(K.length:Int):=by omega
       have Dx:(i:Int)≤(ck:Int):=by omega
       have Dy:(K.length:Int)≤(ck:Int):=by omega
       have BW:=(HP.out).cells;have Dz:=qid BW;clear BW;go_wp2_with (first
        |(go_at_call 49;(with_reducible refine(j'.out _).mono ?_);rintro e w5 ⟨rfl,bh⟩;have cZ:=qid bh;have c5:=BU.out _ bh;clear bh)
        |(at_builtin;refine wpList_append_lies _ rfl _ _ 50 rfl w2.heap.size 9 i0 (.string ByteArray.empty) 1 16 IV il eK dD bg rfl (by decide) _ i ((K.take i).map sV) rfl ((iC.out _ cZ.out).alloc _) ⟨w5.heap.size,0,none⟩ 1 1 [.string s] rfl rfl ?_ ?_ (by decide) ?_ ?_ ?_ _ rfl ?_))
       any_goals(first
        |(intro j u hj;match j,hj with|0,hj=>(simp at hj;subst hj;simp[Addr.add];done))
        |rfl
        |(intro u hu;simp at hu;subst hu;rfl)
        |(unfold maxLen;omega)
        |omega
        |(have h1:=HN.out.bel.size;have h2:=cZ.out.size;simp;omega))
       intro g1 fo W1 aE aj al aD
       try rw[←List.map_take]at aE
       have ik:=qid (NJ.push2 ((HN.out.step cZ.out).step (gT _ _)) (Nat.le_refl _) bx.out sd.out.symm aE aj);have nI:=qid aE;clear aE aj al aD;go_wp2_with ((at_builtin;refine wpList_append_lies _ rfl _ _ 50 rfl w2.heap.size 9 i0 (.string ByteArray.empty) 1 16 IV il eK dD bg rfl (by decide) _ (i+1) ((K.take i).map sV++[Value.string s]) rfl nI.out ⟨ga,off+i,none⟩ (K.length-i) (ck-i) ((K.drop i).map sV) rfl ?b0 ?b1 ?b2 ?b6 ?b3 ?b4 ?b5 _ rfl ?_))
       case b0=>rw[List.length_map,List.length_drop,Nat.mul_one]
       case b1=>
        intro j u hj;rw[List.getElem?_map,List.getElem?_drop]at hj
        by_cases dk:i+j<K.length
        ·rw[List.getElem?_eq_getElem dk]at hj
         simp only[Option.map_some,Option.some.injEq]at hj;have h5:=Dz.out (i+j) dk;have h6:=(ik.out.bel.cell (p:=⟨ga,off+(i+j),none⟩) (World.block_lt_of_cell? _ _ h5)).trans h5;rw[hj,←Nat.add_assoc]at h6;rw[Addr.add_lit];exact h6
        ·rw[List.getElem?_eq_none (by omega)]at hj;cases hj
       case b2=>intro u hu;obtain⟨z,_,rfl⟩:=List.mem_map.1 hu;rfl
       case b6=>exact Du
       case b3=>unfold maxLen;omega
       case b4=>omega
       case b5=>exact ik.out.bel.size
       intro g9 bN W9 aB mP af cE
       try rw[←List.map_take]at aB
       try rw[←List.map_drop]at aB
       have fG:=NJ.more (d:=K.take i++[x]) (e:=K.drop i) (m:=K.length-i) (n1:=i+1) (xs:=(K.take i).map sV++[Value.string s]) ik.out (Nat.le_refl _) (by rw[List.length_append,List.length_singleton,sd.out]) (by rw[List.map_append,List.map_cons,List.map_nil,show(sV x)=.string s from(jr.out)]) (by rw[List.length_drop]) (by first|exact aB|(rw[List.append_assoc,List.singleton_append];exact aB)) mP
       clear aB mP af cE;have r1:=oH.out;rw[iZ.out.1,iZ.out.2]at r1;obtain⟨eC,qj⟩:=hZ2 r1 fG;clear fG r1;go_wp2;go_roundg g
       case measure=>exact Nat.lt_succ_self _
       case rel=>
        have fG:=qj.out;rw[←eC.out]at fG;refine⟨k1,Hs K x,rfl,by have:=cC.out;omega,PRT.own fG.own,HB.out.trans (fG.bel.mono HB.out.size),by have:=cC.out;have:=qh.out;have:=Lb K x;omega,fun y hy=>?_,cO.out⟩
        rcases(Lo K x y).1 hy with e|e
        ·rw[e];exact vJ.out
        ·exact sZ.out y e
      ·obtain⟨g3,rfl⟩:∃g3,gk=g3+1:=⟨gk-1,by omega⟩
       go_wp2_with (first
        |(go_at_call 49;(with_reducible refine(j'.out _).mono ?_);rintro e w5 ⟨rfl,bh⟩;have cZ:=qid bh;have c5:=BU.out _ bh;clear bh)
        |(at_builtin;refine wpList_append_lies _ rfl _ _ 50 rfl w2.heap.size 9 i0 (.string ByteArray.empty) 1 16 IV il eK dD bg rfl (by decide) _ i ((K.take i).map sV) rfl ((iC.out _ cZ.out).alloc _) ⟨w5.heap.size,0,none⟩ 1 1 [.string t] rfl rfl ?_ ?_ (by decide) ?_ ?_ ?_ _ rfl ?_))
       any_goals(first
        |(intro j u hj;match j,hj with|0,hj=>(simp at hj;subst hj;simp[Addr.add];done))
        |rfl
        |(intro u hu;simp at hu;subst hu;rfl)
        |(unfold maxLen;omega)
        |omega
        |(have h1:=HN.out.bel.size;have h2:=cZ.out.size;simp;omega))
       intro g1 fo W1 aE aj al aD
       try rw[←List.map_take]at aE
       have ik:=qid (NJ.push2 ((HN.out.step cZ.out).step (gT _ _)) (Nat.le_refl _) nG.out sd.out.symm aE aj);clear aE aj al aD;go_wp2;go_roundg g3
       case measure=>exact Nat.lt_succ_self _
       case rel=>
        refine⟨i1,rfl,by have:=aQ.out;omega,by rw[←aQ.out,BV.out];exact ik.out,fun z hz=>?_⟩
        rw[←aQ.out,BV.out,List.mem_append,List.mem_singleton]at hz;rcases hz with e|e
        ·exact HY.out z e
        ·rw[e];exact aO.out
     ·have fV:i=K.length:=by omega
      have mO:=Qn (p:=fun z=>decide (z<x)) K i HY.out (fun z hz=>by rw[List.getElem?_eq_none (by omega)]at hz;cases hz)
      have iZ:=qid mO;have yl:=qid (show K.drop i=[] by rw[fV,List.drop_length])
      have Ds:¬((i:Int)<(K.length:Int)):=by omega
      have Dw:(i:Int)≤(K.length:Int):=by omega
      have E1:K.length-i=0:=by omega
      clear mO;rcases sb with⟨rfl,ym⟩|⟨ga,off,ck,rfl,Dp,dE⟩
      ·have yn:i=0:=by rw[fV,ym];rfl
       have Fx:K.length=0:=by rw[ym];rfl
       subst yn;clear ym fV;go_wp2_with ((at_builtin;refine wpList_append_lies _ rfl _ _ 50 rfl w2.heap.size 9 i0 (.string ByteArray.empty) 1 16 IV il eK dD bg rfl (by decide) _ 0 ((K.take 0).map sV) rfl ((iC.out _ (Below.refl _ _)).alloc _) ⟨wr.heap.size,0,none⟩ 1 1 [.string s] rfl rfl ?_ ?_ (by decide) ?_ ?_ ?_ _ rfl ?_))
       any_goals(first
        |(intro j u hj;match j,hj with|0,hj=>(simp at hj;subst hj;simp[Addr.add];done))
        |rfl
        |(intro u hu;simp at hu;subst hu;rfl)
        |(unfold maxLen;omega)
        |omega
        |(have h1:=HN.out.bel.size;simp;omega))
       intro g1 fo W1 aE aj al aD
       try rw[←List.map_take]at aE
       have jN:0+1≤fo:=by
        rcases aE.2 with⟨e,_⟩|⟨_,_,_,e,_,_,h5,_⟩
        ·cases e
        ·injection e with _ _ e3;rw[e3];exact h5
       have BX:=J0 W1 g1 _ fo jN;have ik:=qid (NJ.push2 (HN.out.step (gT _ _)) (Nat.le_refl _) bx.out sd.out.symm aE aj);clear aE aj al aD;have fG:=ik.out;have r1:=oH.out;rw[iZ.out.1,iZ.out.2]at r1;obtain⟨eC,qj⟩:=hZ2 r1 fG;clear fG r1;go_wp2;go_roundg g
       case measure=>exact Nat.lt_succ_self _
       case rel=>
        have fG:=qj.out;rw[show K.take 0++[x]=K.take 0++[x]++K.drop 0 by rw[yl.out,List.append_nil],←eC.out]at fG
        refine⟨k1,Hs K x,rfl,by have:=cC.out;omega,PRT.own fG.own,HB.out.trans (fG.bel.mono HB.out.size),by have:=cC.out;have:=qh.out;have:=Lb K x;omega,fun y hy=>?_,cO.out⟩
        rcases(Lo K x y).1 hy with e|e
        ·rw[e];exact vJ.out
        ·exact sZ.out y e
      ·have Dx:(i:Int)≤(ck:Int):=by omega
       have Dy:(K.length:Int)≤(ck:Int):=by omega
       by_cases ql:ck=i
       ·have vL:i=ck:=ql.symm
        clear ql;subst vL;clear fV dE;go_wp2_with ((at_builtin;refine wpList_append_lies _ rfl _ _ 50 rfl w2.heap.size 9 i0 (.string ByteArray.empty) 1 16 IV il eK dD bg rfl (by decide) _ i ((K.take i).map sV) rfl ((iC.out _ (Below.refl _ _)).alloc _) ⟨wr.heap.size,0,none⟩ 1 1 [.string s] rfl rfl ?_ ?_ (by decide) ?_ ?_ ?_ _ rfl ?_))
        any_goals(first
         |(intro j u hj;match j,hj with|0,hj=>(simp at hj;subst hj;simp[Addr.add];done))
         |rfl
         |(intro u hu;simp at hu;subst hu;rfl)
         |(unfold maxLen;omega)
         |omega
         |(have h1:=HN.out.bel.size;simp;omega))
        intro g1 fo W1 aE aj al aD
        try rw[←List.map_take]at aE
        have jN:i+1≤fo:=by
         rcases aE.2 with⟨e,_⟩|⟨_,_,_,e,_,_,h5,_⟩
         ·cases e
         ·injection e with _ _ e3;rw[e3];exact h5
        have BX:=J0 W1 g1 _ fo jN;have ik:=qid (NJ.push2 (HN.out.step (gT _ _)) (Nat.le_refl _) bx.out sd.out.symm aE aj);clear aE aj al aD;have fG:=ik.out;have r1:=oH.out;rw[iZ.out.1,iZ.out.2]at r1;obtain⟨eC,qj⟩:=hZ2 r1 fG;clear fG r1;go_wp2;go_roundg g
        case measure=>exact Nat.lt_succ_self _
        case rel=>
         have fG:=qj.out;rw[show K.take i++[x]=K.take i++[x]++K.drop i by rw[yl.out,List.append_nil],←eC.out]at fG
         refine⟨k1,Hs K x,rfl,by have:=cC.out;omega,PRT.own fG.own,HB.out.trans (fG.bel.mono HB.out.size),by have:=cC.out;have:=qh.out;have:=Lb K x;omega,fun y hy=>?_,cO.out⟩
         rcases(Lo K x y).1 hy with e|e
         ·rw[e];exact vJ.out
         ·exact sZ.out y e
       ·have vL:¬i=ck:=fun e=>ql e.symm
        clear fV dE;go_wp2_with ((at_builtin;refine wpList_append_lies _ rfl _ _ 50 rfl w2.heap.size 9 i0 (.string ByteArray.empty) 1 16 IV il eK dD bg rfl (by decide) _ i ((K.take i).map sV) rfl ((iC.out _ (Below.refl _ _)).alloc _) ⟨wr.heap.size,0,none⟩ 1 1 [.string s] rfl rfl ?_ ?_ (by decide) ?_ ?_ ?_ _ rfl ?_))
        any_goals(first
         |(intro j u hj;match j,hj with|0,hj=>(simp at hj;subst hj;simp[Addr.add];done))
         |rfl
         |(intro u hu;simp at hu;subst hu;rfl)
         |(unfold maxLen;omega)
         |omega
         |(have h1:=HN.out.bel.size;simp;omega))
        intro g1 fo W1 aE aj al aD
        try rw[←List.map_take]at aE
        have jN:i+1≤fo:=by
         rcases aE.2 with⟨e,_⟩|⟨_,_,_,e,_,_,h5,_⟩
         ·cases e
         ·injection e with _ _ e3;rw[e3];exact h5
        have BX:=J0 W1 g1 _ fo jN;have ik:=qid (NJ.push2 (HN.out.step (gT _ _)) (Nat.le_refl _) bx.out sd.out.symm aE aj);clear aE aj al aD;have fG:=ik.out;have r1:=oH.out;rw[iZ.out.1,iZ.out.2]at r1;obtain⟨eC,qj⟩:=hZ2 r1 fG;clear fG r1;go_wp2;go_roundg g
        case measure=>exact Nat.lt_succ_self _
        case rel=>
         have fG:=qj.out;rw[show K.take i++[x]=K.take i++[x]++K.drop i by rw[yl.out,List.append_nil],←eC.out]at fG
         refine⟨k1,Hs K x,rfl,by have:=cC.out;omega,PRT.own fG.own,HB.out.trans (fG.bel.mono HB.out.size),by have:=cC.out;have:=qh.out;have:=Lb K x;omega,fun y hy=>?_,cO.out⟩
         rcases(Lo K x y).1 hy with e|e
         ·rw[e];exact vJ.out
         ·exact sZ.out y e
   ·have mN:Hs K x=K:=by unfold Hs;rw[HC.out];rfl
    have ix:R=(M.drop k1).foldl Hs K:=by rw[cO.out,mN]
    have kg:=qid ix;clear mN ix cO HC;go_wp2_with (go_at_call 152;(with_reducible refine q8.out.mono ?_);rintro e w2 ⟨rfl,rfl⟩);go_roundg g
    case measure=>exact Nat.lt_succ_self _
    case rel=>exact⟨k1,K,rfl,by have:=cC.out;omega,HP.out,HB.out,by have:=cC.out;have:=qh.out;omega,sZ.out,kg.out⟩
theorem Vm:∀(m l:List Tx),(m.foldl Hs l).length≤l.length+m.length:=by
 intro m
 induction m with
 |nil=>intro l;exact Nat.le_refl _
 |cons x r ih=>intro l;have:=ih (Hs l x);have:=Lb l x;rw[List.foldl_cons,List.length_cons];omega
theorem XI(l:List Tx):(Gw l).length≤l.length:=by have:=Vm l [];unfold Gw;simpa using this
theorem N4(f:Nat→List Tx)(k:Nat):Gw (H6 f (k+1))=(f k).foldl Hs (Gw (H6 f k)):=by rw[H6,Rg]
theorem Vn{l:List Tok}(hl:l.length≤40000){k:Nat}(hk:k≤l.length):(Gw (H6 (ci l) k)).length≤1600000000:=by
 have h1:=XI (H6 (ci l) k);have h2:=Mr (JS l) k;have h3:k*l.length≤40000*40000:=Nat.mul_le_mul (by omega) hl
 omega
def Z0(w:World)(R:List Tx)(e:Ending)(w':World):Prop:=∃v,e=.returned v∧PRT w' v R∧Below w.heap.size w w'
theorem XJ(vl u3:Value)(l:List Tok)(k1:Nat)(w wr:World)(O:List Tx)(h:TR wr vl l)(hl:l.length≤40000)(hk:k1≤l.length)(hz:∀t∈l,t.2.1.size≤1000000000)(hP:PRT wr u3 O)(hO:O.length≤1600000000)(E2:∀x∈O,x.length≤2000000001):
  Calls Tryz.prog 106 #[vl,.int .i64 (k1:Int)] wr fun e w2=>∃vo,e=.returned vo∧Below wr.heap.size wr w2∧
   Calls Tryz.prog 105 #[u3,vo] w2 fun e w3=>∃v,e=.returned v∧PRT w3 v (((Hc l k1).map (·.1)).foldl Hs O)∧Below wr.heap.size wr w3:=by
 refine(Vk vl l k1 wr h (by omega) hk hz).mono ?_
 rintro e w2 ⟨vo,rfl,hJ⟩;have hlen:((Hc l k1).map (·.1)).length≤40000:=by rw[List.length_map];have:=Ov l _ k1 (Nat.le_refl _);omega
 refine⟨vo,rfl,hJ.bel,?_⟩;refine(Vl u3 vo O _ w2 (hP.below hJ.bel) (SRT.own hJ.own) (by omega) (fun x hx=>?_)).mono ?_
 ·rcases List.mem_append.1 hx with e|e
  ·exact E2 x e
  ·obtain⟨y,hy,rfl⟩:=List.mem_map.1 e
   exact Mq hz _ _ (Nat.le_refl _) y hy
 ·rintro e w3 ⟨v,rfl,h1,h2⟩
  exact⟨v,rfl,h1,hJ.bel.trans (h2.mono hJ.bel.size)⟩
theorem RN(v:Value)(l:List Tok)(w:World)(h:TR w v l)(hl:l.length≤40000)(hz:∀t∈l,t.2.1.size≤1000000000):
  Calls Tryz.prog 83 #[v] w (Z0 w (JK l)):=by
 obtain⟨a,cap,rfl⟩:=h.form;obtain⟨HH,HZ⟩:=hZ2 h hz;clear h hz;go_enter Tryz.func83,Tryz.ntmps83;go_wp2
 go_loopg [3,4] l.length (fun g u3 u4 wx=>∃k:Nat,u4=.int .i64 (k:Int)∧k+g=l.length∧PRT wx u3 (Gw (H6 (ci l) k))∧Below w.heap.size w wx)
 case atStart=>exact⟨0,rfl,by omega,.inl ⟨rfl,rfl⟩,Below.refl _ _⟩
 case round=>
  obtain⟨k,rfl,hk,hP,hB⟩:=hrel;obtain⟨HP,HB⟩:=hZ2 hP hB;clear hP hB
  cases gk with
  |zero=>
   have gY:k=l.length:=by omega
   have l1:¬((k:Int)<(l.length:Int)):=by omega
   have sb:=HP.out;rw[gY]at sb;have tw:=qid sb;clear sb HP;go_wp2;go_ret;exact⟨_,rfl,tw.out,HB.out⟩
  |succ g=>
   have aD:k<l.length:=by omega
   have hT:=HH.out.below HB.out;have l1:(k:Int)<(l.length:Int):=by omega
   obtain⟨k1,bq⟩:∃k1,k+1=k1:=⟨_,rfl⟩;have wk:IntKind.i64.wrap ((k:Int)+1)=(k1:Int):=by rw[show(k:Int)+1=(k1:Int) by omega];exact d7 (by omega)
   have hw:=fun(i:Nat) (s:ByteArray)=>Kg (.slice a l.length cap) l i s wr hT (by omega)
   have ie:=hw k ⟨#[102,114,111,109]⟩;have fP:=hw (k-1) ⟨#[100,101,108,101,116,101]⟩;have mz:=hw k ⟨#[106,111,105,110]⟩;have yo:=hw k ⟨#[117,115,105,110,103]⟩;have qf:=hw k ⟨#[116,97,98,108,101]⟩;have BZ:=UO (.slice a l.length cap) (.string ⟨#[100,101,108,101,116,101]⟩) wr;rw[show [(⟨#[102,114,111,109]⟩:ByteArray).toList]=[KO] by rw[Lib.toList_data];rfl]at ie
   rw[show [(⟨#[100,101,108,101,116,101]⟩:ByteArray).toList]=[Jr] by rw[Lib.toList_data];rfl]at fP
   rw[show [(⟨#[106,111,105,110]⟩:ByteArray).toList]=[LP] by rw[Lib.toList_data];rfl]at mz
   rw[show [(⟨#[117,115,105,110,103]⟩:ByteArray).toList]=[Kp] by rw[Lib.toList_data];rfl]at yo
   rw[show [(⟨#[116,97,98,108,101]⟩:ByteArray).toList]=[Fd] by rw[Lib.toList_data];rfl]at qf
   have Ba:=XJ (.slice a l.length cap) u3 l k1 w wr _ hT hl (by omega) HZ.out HP.out (Vn hl (by omega)) (fun x hx=>NM (KS HZ.out) k x ((Rf _ x).1 hx))
   have hb:Iq l k=(bi 1 [LP] l k||bi 1 [Kp] l k||bi 1 [KO] l k&& !(k != 0&&bi 1 [Jr] l (k-1))||k==0&&bi 1 [Fd] l k):=by rw[Iq,TH]
   have gB:Iq l k=true→Gw (H6 (ci l) k1)=((Hc l k1).map (·.1)).foldl Hs (Gw (H6 (ci l) k)):=fun e=>by
    rw[←bq,N4,ci,if_pos e]
   have cW:Iq l k=false→Gw (H6 (ci l) k1)=Gw (H6 (ci l) k):=fun e=>by
    rw[←bq,N4,ci,if_neg (by rw[e];decide)];rfl
   generalize Iq l k=b at*
   generalize bi 1 [KO] l k=bf at*
   generalize bi 1 [Jr] l (k-1)=bd at*
   generalize bi 1 [LP] l k=bj at*
   generalize bi 1 [Kp] l k=bu at*
   generalize bi 1 [Fd] l k=bt at*
   generalize Gw (H6 (ci l) k)=O at*
   obtain⟨oC,yp,xI,xJ,gR,Bb⟩:=hZ6 ie fP mz yo qf BZ;obtain⟨yq,cC,vM,xK⟩:=hZ4 Ba bq gB cW;clear ie fP mz yo qf BZ Ba gB cW hT bq aD hw
   cases k with
   |zero=>
    have wm:IntKind.i64.wrap ((0:Int)-1)= -1:=by decide
    clear yp;obtain rfl:k1=1:=by have:=cC.out;omega
    simp only[Int.natCast_zero,Int.natCast_one]at oC xI xJ gR yq wk l1⊢
    cases bf<;>cases bj<;>cases bu<;>cases bt<;>
    ·simp at hb
     subst hb;go_wp2_with (first
      |(go_at_call 104;(with_reducible refine oC.out.mono ?_);rintro e w2 ⟨rfl,rfl⟩)
      |(go_at_call 104;(with_reducible refine Bb.out.mono ?_);rintro e w2 ⟨rfl,rfl⟩)
      |(go_at_call 104;(with_reducible refine xI.out.mono ?_);rintro e w2 ⟨rfl,rfl⟩)
      |(go_at_call 104;(with_reducible refine xJ.out.mono ?_);rintro e w2 ⟨rfl,rfl⟩)
      |(go_at_call 104;(with_reducible refine gR.out.mono ?_);rintro e w2 ⟨rfl,rfl⟩)
      |(go_at_call 106;(with_reducible refine yq.out.mono ?_);rintro e w4 ⟨vo,rfl,ai,oJ⟩;have vN:=qid oJ;clear oJ ai)
      |(go_at_call 105;(with_reducible refine vN.out.mono ?_);rintro e w5 ⟨v5,rfl,vO,bh⟩;obtain⟨qm,cZ⟩:=hZ2 vO bh;clear vO bh))
     go_roundg g
     case measure=>exact Nat.lt_succ_self _
     case rel=>first
      |exact⟨1,rfl,by omega,by rw[vM.out (by first|rfl|trivial)];exact qm.out,HB.out.trans (cZ.out.mono HB.out.size)⟩
      |exact⟨1,rfl,by omega,by rw[xK.out (by first|rfl|trivial)];exact HP.out,HB.out⟩
   |succ j=>
    have wm:IntKind.i64.wrap (((j+1:Nat):Int)-1)=(j:Int):=by rw[show((j+1:Nat):Int)-1=(j:Int) by omega];exact d7 (by omega)
    have ne:(((j+1:Nat):Int)==0)=false:=by rw[beq_eq_false_iff_ne];omega
    rw[Nat.add_sub_cancel]at yp;have z1:((j+1)==0)=false:=rfl;have z2:((j+1) != 0)=true:=rfl;rw[z1,z2]at hb;clear z1 z2;have jO:=qid (show k1+g=l.length by have:=cC.out;omega)
    obtain⟨i1,aN⟩:∃i1,j+1=i1:=⟨_,rfl⟩;simp only[aN]at wm ne oC xI xJ gR cC wk l1⊢;clear hk;clear aN Bb gR cC
    cases bf<;>cases bj<;>cases bu<;>cases bd<;>
    ·simp only[Bool.false_and,Bool.true_and,Bool.or_false,Bool.false_or,Bool.not_false,Bool.not_true,Bool.true_or,Bool.or_true,Bool.and_false]at hb
     subst hb;go_wp2_with (first
      |(go_at_call 104;(with_reducible refine oC.out.mono ?_);rintro e w2 ⟨rfl,rfl⟩)
      |(go_at_call 104;(with_reducible refine yp.out.mono ?_);rintro e w2 ⟨rfl,rfl⟩)
      |(go_at_call 104;(with_reducible refine xI.out.mono ?_);rintro e w2 ⟨rfl,rfl⟩)
      |(go_at_call 104;(with_reducible refine xJ.out.mono ?_);rintro e w2 ⟨rfl,rfl⟩)
      |(go_at_call 106;(with_reducible refine yq.out.mono ?_);rintro e w4 ⟨vo,rfl,ai,oJ⟩;have vN:=qid oJ;clear oJ ai)
      |(go_at_call 105;(with_reducible refine vN.out.mono ?_);rintro e w5 ⟨v5,rfl,vO,bh⟩;obtain⟨qm,cZ⟩:=hZ2 vO bh;clear vO bh))
     go_roundg g
     case measure=>exact Nat.lt_succ_self _
     case rel=>first
      |exact⟨k1,rfl,jO.out,by rw[vM.out (by first|rfl|trivial)];exact qm.out,HB.out.trans (cZ.out.mono HB.out.size)⟩
      |exact⟨k1,rfl,jO.out,by rw[xK.out (by first|rfl|trivial)];exact HP.out,HB.out⟩
end Go.Proofs.YtpgddamhdfmdjaaGreatDoor
