/- Teq Ter Dcp Tcd -/
import Derived.Test.YtpgddamhdfmdjaaGreatDoorG3
import Derived.Test.YtpgddamhdfmdjaaGreatDoorG4
import Derived.Deep.RegionHeld3
import Derived.Test.YtpgddamhdfmdjaaGreatDoorG1
set_option linter.unusedSimpArgs false
set_option linter.unusedVariables false
set_option maxRecDepth 100000
set_option maxHeartbeats 16000000
namespace Go.Proofs.YtpgddamhdfmdjaaGreatDoor
open Go.ChangeShapes Go.WideShapes Go.ChangeAt Go.RowKit
def qcS(s:List Tb):Prop:=s.length≤1000000∧∀t∈s,t.2.length≤1000000
theorem qcT(a b:ByteArray):(a.toList==b.toList)=decide (a=b):=by
 rw[Bool.eq_iff_iff,beq_iff_eq,decide_eq_true_iff,Lib.toList_data,Lib.toList_data];exact⟨fun h=>by apply ByteArray.ext;exact Array.ext' h,fun h=>by rw[h]⟩
theorem M9{P:Program}{f:FuncId}{args:Array Value}{w:World}{n x:Nat}{v:Value}(h:Calls P f args (w.drewN (n+x)) fun e w'=>e=.returned v∧∃m,w'=(w.drewN (n+x)).drewN m):Calls P f args (w.drewN (n+x)) fun e xd=>e=.returned v∧∃m,xd=w.drewN (n+m):=
 h.mono fun _ _ ⟨he,m,hm⟩=>⟨he,x+m,by rw[hm,World.drewN_drewN,Nat.add_assoc]⟩
theorem VM(v1 v2:Value)(s t:List Tb)(w:World)(h1:SR w v1 s)(h2:SR w v2 t)(hs:qcS s):
  Calls Tryz.prog 14 #[v1,v2] w fun e w'=>e=.returned (.bool (decide (s=t)))∧∃n,w'=w.drewN n:=by
 obtain⟨R,hR⟩:∃R,decide (s=t)=R:=⟨_,rfl⟩;rw[hR];obtain⟨a1,fo,rfl⟩:=h1.form;obtain⟨a2,kh,rfl⟩:=h2.form;obtain⟨H1,H2,HS⟩:=hZ3 h1 h2 hs
 by_cases hlen:s.length=t.length
 ·have ne:((s.length:Int) != (t.length:Int))=false:=by rw[bne_eq_false_iff_eq];omega
  obtain⟨HR,HL⟩:=hZ2 hR hlen;clear h1 h2 hs hR hlen;go_enter Tryz.func14,Tryz.ntmps14;go_wp2
  go_loopg [5] s.length (fun gk u5 wx=>∃i:Nat,u5=.int .i64 (i:Int)∧i+gk=s.length∧(∃n,wx=w.drewN n)∧decide (s.drop i=t.drop i)=R)
  case atStart=>exact⟨0,rfl,by omega,⟨0,rfl⟩,HR.out⟩
  case round=>
   obtain⟨i,rfl,hi,⟨n0,rfl⟩,hr⟩:=hrel;have HI:=qid hi
   cases gk with
   |zero=>
    have l1:¬((i:Int)<(s.length:Int)):=by omega
    have hR:R=true:=by
     rw[←hr,List.drop_of_length_le (by omega:s.length≤i),List.drop_of_length_le (by have:=HL.out;omega:t.length≤i)];rfl
    subst hR;clear hi hr;go_wp2;go_ret;exact⟨rfl,_,rfl⟩
   |succ gk=>
    have aD:i<s.length:=by omega
    have dW:i<t.length:=by have:=HL.out;omega
    obtain⟨b1,o1,AZ,nk,tf,ct⟩:=H1.out.inv (by omega)
    obtain⟨b2,o2,Aa,np,pw,dX⟩:=H2.out.inv (by omega)
    injection nk with th _ ti;injection np with tj _ tl;subst th ti tj tl;obtain⟨p,hp⟩:∃p,s[i]=p:=⟨_,rfl⟩;obtain⟨q,hq⟩:∃q,t[i]=q:=⟨_,rfl⟩;obtain⟨x0,u,x1,hu⟩:=ct i p (by rw[List.getElem?_eq_getElem aD,hp])
    obtain⟨y0,u2,y1,lJ⟩:=dX i q (by rw[List.getElem?_eq_getElem dW,hq])
    have nC:p.2.length≤1000000:=by rw[←hp];exact HS.out.2 _ (List.getElem_mem aD)
    rw[Qy aD dW,hp,hq]at hr;obtain⟨p0,p1⟩:=p;obtain⟨q0,q1⟩:=q;obtain⟨ua,eJ,rfl⟩:=hu.form;obtain⟨Gc,CI,rfl⟩:=lJ.form;have HC:=qid (fun n=>Oc _ _ p1 q1 (w.drewN n) (hu.drewN n) (lJ.drewN n) nC)
    have ht:=qcT p0 q0;have l0:(0:Int)≤(i:Int):=by omega
    have l1:(i:Int)<(s.length:Int):=by omega
    have l2:(i:Int)<(t.length:Int):=by omega
    obtain⟨i1,aN⟩:∃i1,i+1=i1:=⟨_,rfl⟩;have wk:IntKind.i64.wrap ((i:Int)+1)=(i1:Int):=by rw[show(i:Int)+1=(i1:Int) by omega];exact IntWalk.i64_in _ (by have:=HS.out.1;omega)
    have aQ:=qid aN;rw[aN]at hr;have pT:decide (((p0,p1):Tb)=(q0,q1))=(decide (p0=q0)&&decide (p1=q1)):=by
     rw[Bool.eq_iff_iff,decide_eq_true_iff,Bool.and_eq_true,decide_eq_true_iff,decide_eq_true_iff,Prod.mk.injEq]
    rw[pT]at hr;obtain⟨Q,hQ⟩:∃Q,decide (p1=q1)=Q:=⟨_,rfl⟩;rw[hQ]at HC hr
    by_cases hn:p0=q0
    ·have e1:(p0.toList==q0.toList)=true:=by rw[ht];exact decide_eq_true hn
     have e2:(!(p0.toList==q0.toList))=false:=by rw[e1];rfl
     rw[decide_eq_true hn,Bool.true_and]at hr;have cM:=qid hr;clear hi hr ct dX hp hq aN aD dW hu lJ nC pT hQ ht hn
     cases Q with
     |true=>
      go_wp2
      go_quiet (first|(go_at_call 13;exact Calls.quiet_of (HC.out _))|(go_at_call 13;exact M9 (HC.out _)))
      go_wp2;go_roundg gk
      case measure=>exact Nat.lt_succ_self _
      case rel=>exact⟨i1,rfl,by have:=aQ.out;have:=HI.out;omega,⟨_,rfl⟩,by have:=cM.out;rw[Bool.true_and]at this;exact this⟩
     |false=>
      have gv:R=false:=by have:=cM.out;rw[Bool.false_and]at this;exact this.symm
      subst gv;go_wp2
      go_quiet (first|(go_at_call 13;exact Calls.quiet_of (HC.out _))|(go_at_call 13;exact M9 (HC.out _)))
      go_wp2;go_ret;exact⟨rfl,_,World.drewN_drewN _ _ _⟩
    ·have e1:(p0.toList==q0.toList)=false:=by rw[ht];exact decide_eq_false hn
     have e2:(!(p0.toList==q0.toList))=true:=by rw[e1];rfl
     have gv:R=false:=by rw[←hr,decide_eq_false hn,Bool.false_and,Bool.false_and]
     subst gv;clear hi hr ct dX hp hq aN aD dW hu lJ nC pT hQ ht hn;go_wp2
     go_quiet (fail)
     go_wp2;go_ret;exact⟨rfl,_,World.drewN_drewN _ _ _⟩
 ·have ne:((s.length:Int) != (t.length:Int))=true:=by rw[bne_iff_ne];omega
  have dC:R=false:=by rw[←hR];exact decide_eq_false (fun h=>hlen (by rw[h]))
  subst dC;clear h1 h2 hs hR hlen;go_enter Tryz.func14,Tryz.ntmps14;go_wp2;go_ret;exact⟨rfl,0,rfl⟩
def RcP(s:List Tb)(w:World)(e:Ending)(w':World):Prop:=∃v x,e=.returned v∧FS w.heap.size w' v x∧tbs x=s∧Below w.heap.size w w'
theorem I1{W:World}{g:Nat}{a b:Value}{t:TypeId}(h:Blk W g t #[a,b]):∀j u,[a,b][j]? =some u→W.cell? ((⟨g,0,none⟩:Addr).add j)=some u:=by
 intro j u hj;rw[Addr.add_lit,Nat.zero_add];rw[h.cell j]
 simpa using hj
theorem qaA{w:World}{B g:Nat}{v u:Value}{l:List Rw}{cs:Array Value}{i:Nat}(h:OR B w v l)(hk:Blk w g 55 cs):OR B (w.setCell ⟨g,i,none⟩ u) v l:=
 lE h fun k bK=>Below.heap_setCell _ _ _ _ (fun e=>by
  obtain⟨c,hc⟩:=m9 h bK;exact hk.ne_ hc JL e.symm)
theorem qb8{w:World}{ad:Addr}{c:Nat}{l:List Rw}(h:RR w (.slice (some ad) l.length c) l)(hp:0<l.length):∀j v,(rcs l)[j]? =some v→w.cell? (ad.add j)=some v:=by
 obtain⟨Gd,e2,h2⟩:=h.src hp;injection e2 with e2;subst e2;exact h2
theorem Gp(v:Value)(s:List Tb)(w:World)(h:SR w v s)(hf:IK s):
  Calls Tryz.prog 28 #[v] w (RcP s w):=by
 obtain⟨a,cap,rfl⟩:=h.form;obtain⟨i30,bQ,cS,bR,cY⟩:=OX;obtain⟨i31,bW,cP,cN,cR⟩:=Qb;have bE:=I8;have ak:=JX;obtain⟨HH,HF⟩:=hZ2 h hf;have eI:Hid (s.length≤1000000):=qid hf.1;clear h hf;go_enter Tryz.func28,Tryz.ntmps28;go_wp2
 go_loopg [3,4] s.length (fun gk u3 u4 wx=>∃(i:Nat) (x:List Tv),u4=.int .i64 (i:Int)∧i+gk=s.length∧FS w.heap.size wx u3 x∧tbs x=s.take i∧Below w.heap.size w wx)
 case atStart=>exact⟨0,[],rfl,by omega,⟨World.ownsRow_nil _ _ _ _,fun t ht=>by simp at ht,fun i j a b _ ha _=>by simp at ha⟩,rfl,Below.refl _ _⟩
 case round=>
  obtain⟨i,x,rfl,hi,xW,hT,hB⟩:=hrel;obtain⟨HB,HI,kX⟩:=hZ3 hB hi xW
  cases gk with
  |zero=>
   have l1:¬((i:Int)<(s.length:Int)):=by omega
   have bP:RcP s w (.returned u3) wr:=⟨u3,x,rfl,xW,by rw[hT,List.take_of_length_le (by omega)],hB⟩
   have gL:=qid bP;clear hB hi xW hT bP;go_wp2;go_ret;exact gL.out
  |succ gk=>
   have aD:i<s.length:=by omega
   have vt:=HH.out.below hB;obtain⟨b,o,cp,he,cL,hx⟩:=vt.inv (by omega)
   injection he with ea _ ec;subst ea ec;obtain⟨t,de⟩:∃t,s[i]=t:=⟨_,rfl⟩;have dr:s[i]? =some t:=by rw[List.getElem?_eq_getElem aD,de]
   obtain⟨x0,u,x1,hu⟩:=hx i t dr;have bH:=HF.out.2 t (List.mem_of_getElem? dr);have l0:(0:Int)≤(i:Int):=by omega
   have l1:(i:Int)<(s.length:Int):=by omega
   obtain⟨i1,aN⟩:∃i1,i+1=i1:=⟨_,rfl⟩;have wk:IntKind.i64.wrap ((i:Int)+1)=(i1:Int):=by rw[show(i:Int)+1=(i1:Int) by omega];exact IntWalk.i64_in _ (by have:=eI.out;omega)
   have aQ:=qid aN;obtain⟨nm,rs⟩:=t;simp only at bH x0 x1 hu;obtain⟨ua,eJ,rfl⟩:=hu.form;obtain⟨eA,cj⟩:=hZ2 bH aD;have eE:x.length=i:=by rw[←mt,hT,List.length_take];omega
   have fh:=qid eE;have mK:=qid (fun q:Value=>show tbs (x++[(nm,q,rs)])=s.take i1 by
    unfold tbs at hT⊢;rw[List.map_append,hT,←aN,List.take_add_one,dr];rfl)
   have qS:Below wr.heap.size wr (wr.alloc (.cells #[.string nm,.slice none 0 0] 55)):=(Below.refl wr.heap.size wr).alloc (Nat.le_refl _) _;have za:Blk (wr.alloc (.cells #[.string nm,.slice none 0 0] 55)) wr.heap.size 55 #[.string nm,.slice none 0 0]:=Blk.new _ _ _;have kE:=qid (World.block_lt_of_cell? wr _ x1);obtain⟨bX,HU⟩:=hZ2 x1 hu;clear hB hi vt hx de dr bH aD aN hu eE hT xW;go_wp2_with fail;obtain⟨W1,cF⟩:∃W1,wr.alloc (.cells #[.string nm,.slice none 0 0] 55)=W1:=⟨_,rfl⟩;rw[cF]at qS za⊢;obtain⟨aX,cC⟩:=hZ2 qS za;clear qS za cF;refine wp_region_held_drew (S:=(fun w'=>Below wr.heap.size wr w')) (by kernel_rfl) ?_ (fun hS=>?_)
   ·exact aX.out.drew
   try dsimp only at hS
   refine tkY 0 ?_ rfl hS ?_ ?_;rotate_left
   ·intro wz a8;have ab:=bcl a8 kE.out bX.out;go_simp;all_goals with_reducible rfl
   (try simp only[Act.put,pu]);refine tkY 2 ?_ rfl hS ?_ ?_;rotate_left
   ·intro wz a8;have ab:=bcl a8 kE.out bX.out;go_simp;all_goals with_reducible rfl
   iterate 4 ((try simp only[Act.put,pu]);refine tkM ?_ rfl hS ?_ ?_;rotate_left;(·intro wz a8;have ab:=bcl a8 kE.out bX.out;go_simp;all_goals with_reducible rfl))
   try simp only[Act.put,pu]
   have d1:W1.drew.cell? ⟨wr.heap.size,1,none⟩=some (.slice none 0 0):=cC.out.cell 1;refine wpAnyH_ready (rs:=[1]) (by kernel_rfl) (by simp) (AllReadyH.cons rfl (fun K hK=>?_) AllReadyH.nil)
   go_simp;refine hK.out _ _ ?_ (fun aF=>?_)
   ·exact hS
   clear hK K hS;have hS:=aF;clear aF
   try dsimp only at hS
   try simp only[Act.put,pu]
   cases rs with
   |nil=>
    have FF:=hS;refine wpAnyH_ready (rs:=[7]) (by kernel_rfl) (by simp) (AllReadyH.cons rfl (fun K hK=>?_) AllReadyH.nil)
    refine LH rfl _ _ 39 rfl 57 i31 ak bW ua eJ rfl rfl ?_;refine hK.out _ _ ?_ (fun aF=>?_)
    ·exact hS
    clear hK K hS;have hS:=aF;clear aF
    try dsimp only at hS
    (try simp only[Act.put,pu]);refine tkY 8 ?_ rfl hS ?_ ?_;rotate_left
    ·intro wz a8;have ab:=bcl a8 kE.out bX.out;go_simp;all_goals with_reducible rfl
    try simp only[Act.put,pu]
    have f1:W1.drew.frozen? ⟨wr.heap.size,1,none⟩=false:=cC.out.frozen 1;refine wpAnyH_ready (rs:=[9]) (by kernel_rfl) (by simp) (AllReadyH.cons rfl (fun K hK=>?_) AllReadyH.nil)
    go_simp;refine hK.out _ _ ?_ (fun aF=>?_)
    ·exact hS.setCell (p:=⟨wr.heap.size,1,none⟩) (Nat.le_refl _) _
    clear hK K hS;have hS:=aF;clear aF
    try dsimp only at hS
    try simp only[Act.put,pu]
    refine wpAnyH_done (by kernel_rfl) ?_ _
    obtain⟨W2,dY⟩:∃W2,(W1.setCell ⟨wr.heap.size,1,none⟩ (.slice none 0 0)).drew=W2:=⟨_,rfl⟩;rw[dY]at hS⊢;have bK:Blk W2 wr.heap.size 55 #[.string nm,Value.slice none 0 0]:=by rw[←dY];exact cC.out.set_ 1 _
    have fU:OR wr.heap.size W2 (Value.slice none 0 0) ([]:List Rw):=by rw[←dY];exact World.ownsRow_nil _ _ _ _
    have z0:W2.cell? ⟨wr.heap.size,0,none⟩=some (.string nm):=bK.cell 0;have z1:W2.cell? ⟨wr.heap.size,1,none⟩=some (Value.slice none 0 0):=bK.cell 1;obtain⟨dB,bx⟩:=hZ2 fU hS;have mc:=kX.out.below hS;have me:FS w.heap.size (W2.alloc (.cells #[.string nm,Value.slice none 0 0] 55)) u3 x:=mc.below ((Below.refl _ _).alloc (Nat.le_refl _) _);have dA:=qid me;have vx:=qid (show∀t∈x,t.2.1.ownBlock=none∨t.2.1.ownBlock≠(Value.slice none 0 0).ownBlock from fun t ht=>by
     cases fK:t.2.1.ownBlock with
     |none=>exact .inl rfl
     |some k=>exact .inr (fun e=>by
       have h1:=((kX.out.rows t ht).lt k fK).2;have h2:=(dB.out.lt k e.symm).1;omega))
    clear dY bK fU hS mc me;go_wp2_with (at_builtin;refine wpList_append_lies _ rfl _ _ 22 rfl w.heap.size 55 i30 (.agg #[.string ByteArray.empty,.slice none 0 0]) 2 40 bE bQ cS bR cY rfl (by decide) u3 x.length (tcs x) rfl dA.out.own ⟨W2.heap.size,0,none⟩ 1 1 [.string nm,Value.slice none 0 0] rfl rfl ?n1 ?n2 (by decide) ?n3 ?n4 ?n5 _ rfl ?_)
    all_goals first
     |exact I1 (heap_alloc_new _ _)
     |(intro q hq;simp at hq;rcases hq with rfl|rfl<;>rfl)
     |(have:=fh.out;have:=eI.out;have:=cj.out;unfold maxLen;omega)
     |(have:=fh.out;have:=eI.out;have:=cj.out;omega)
     |(have:=bx.out.size;have:=HB.out.size;simp;omega)
     |skip
    intro g9 bN w9 aB aM af cE;have mf:=FS.snoc dA.out nm (Value.slice none 0 0) ([]:List Rw) (i7 (aS dB.out ((Below.refl _ _).alloc (Nat.le_refl _) _)) HB.out.size) vx.out aM aB;have kj:Below w.heap.size w w9:=((HB.out.trans (bx.out.mono HB.out.size)).alloc (by have:=bx.out.size;have:=HB.out.size;omega) _).grown aM (by have:=bx.out.size;have:=HB.out.size;simp;omega) (fun k hk=>(dA.out.own.lt k hk).1)
    obtain⟨ze,cI⟩:=hZ2 mf kj;clear aB aM af cE mf kj z0 z1;go_wp2;go_roundg gk
    case measure=>exact Nat.lt_succ_self _
    case rel=>exact⟨i1,_,rfl,by have:=aQ.out;have:=HI.out;omega,ze.out,mK.out _,cI.out⟩
   |cons r0 xy=>
    obtain⟨rs,rZ⟩:∃rs,r0::xy=rs:=⟨_,rfl⟩;have HP:Hid (0<rs.length):=qid (by rw[←rZ];exact Nat.succ_pos _)
    rw[rZ]at eA mK HU bX⊢
    try rw[rZ]at x1
    obtain⟨ad,rfl,_⟩:=HU.out.src HP.out;have FG:=qid (fun(W:World) (hW:Below wr.heap.size wr W)=>qb8 (HU.out.below hW) HP.out)
    refine wpAnyH_ready (rs:=[7]) (by kernel_rfl) (by simp) (AllReadyH.cons rfl (fun K hK=>?_) AllReadyH.nil)
    refine step_append_lies _ rfl _ _ 39 rfl wr.heap.size 57 i31 (.agg #[.int .i64 0,.int .i64 0]) 2 16 ak bW cP cN cR rfl (by decide) (.slice none 0 0) 0 [] rfl (World.ownsRow_nil _ _ _ _) ad rs.length eJ (rcs rs) rfl (JB rs) ?e1 (Gu rs) HP.out ?e2 ?e3 ?e4 _ rfl ?_
    case e1=>exact FG.out _ hS
    case e2=>have:=eA.out.2;unfold maxLen;omega
    case e3=>have:=eA.out.2;omega
    case e4=>have:=hS.size;omega
    intro g6 ia w6 mg re zg zh;have ew:Below wr.heap.size wr w6:=hS.grown re hS.size (fun k hk=>by cases hk)
    have rG:=qid (cC.out.drewN 1 |>.grown re (fun e=>by cases e))
    have sI:OR wr.heap.size w6 (.slice (some ⟨g6,0,none⟩) (0+rs.length) ia) rs:=by unfold OR;rw[Nat.zero_add];rw[Nat.zero_add]at mg;exact mg
    rw[Nat.zero_add]at sI
    try rw[Nat.zero_add]
    have yE:=qid sI;clear mg re zg zh sI;refine hK.out _ _ ?_ (fun aF=>?_)
    ·exact ew
    clear hK K hS;have hS:=aF;clear aF
    try dsimp only at hS
    (try simp only[Act.put,pu]);refine tkY 8 ?_ rfl hS ?_ ?_;rotate_left
    ·intro wz a8;have ab:=bcl a8 kE.out bX.out;go_simp;all_goals with_reducible rfl
    try simp only[Act.put,pu]
    have c6:w6.cell? ⟨wr.heap.size,1,none⟩=some (.slice none 0 0):=rG.out.cell 1;have f6:w6.frozen? ⟨wr.heap.size,1,none⟩=false:=rG.out.frozen 1;refine wpAnyH_ready (rs:=[9]) (by kernel_rfl) (by simp) (AllReadyH.cons rfl (fun K hK=>?_) AllReadyH.nil)
    go_simp;refine hK.out _ _ ?_ (fun aF=>?_)
    ·exact hS.setCell (p:=⟨wr.heap.size,1,none⟩) (Nat.le_refl _) _
    clear hK K hS;have hS:=aF;clear aF
    try dsimp only at hS
    try simp only[Act.put,pu]
    refine wpAnyH_done (by kernel_rfl) ?_ _
    obtain⟨W2,dY⟩:∃W2,w6.setCell ⟨wr.heap.size,1,none⟩ (.slice (some ⟨g6,0,none⟩) rs.length ia)=W2:=⟨_,rfl⟩;rw[dY]at hS⊢;have bK:Blk W2 wr.heap.size 55 #[.string nm,Value.slice (some ⟨g6,0,none⟩) rs.length ia]:=by rw[←dY];exact rG.out.set_ 1 _
    have fU:OR wr.heap.size W2 (Value.slice (some ⟨g6,0,none⟩) rs.length ia) rs:=by rw[←dY];exact qaA yE.out rG.out
    have z0:W2.cell? ⟨wr.heap.size,0,none⟩=some (.string nm):=bK.cell 0;have z1:W2.cell? ⟨wr.heap.size,1,none⟩=some (Value.slice (some ⟨g6,0,none⟩) rs.length ia):=bK.cell 1;obtain⟨dB,bx⟩:=hZ2 fU hS;have mc:=kX.out.below hS;have me:FS w.heap.size (W2.alloc (.cells #[.string nm,Value.slice (some ⟨g6,0,none⟩) rs.length ia] 55)) u3 x:=mc.below ((Below.refl _ _).alloc (Nat.le_refl _) _);have dA:=qid me;have vx:=qid (show∀t∈x,t.2.1.ownBlock=none∨t.2.1.ownBlock≠(Value.slice (some ⟨g6,0,none⟩) rs.length ia).ownBlock from fun t ht=>by
     cases fK:t.2.1.ownBlock with
     |none=>exact .inl rfl
     |some k=>exact .inr (fun e=>by
       have h1:=((kX.out.rows t ht).lt k fK).2;have h2:=(dB.out.lt k e.symm).1;omega))
    clear dY bK fU hS mc me;go_wp2_with (at_builtin;refine wpList_append_lies _ rfl _ _ 22 rfl w.heap.size 55 i30 (.agg #[.string ByteArray.empty,.slice none 0 0]) 2 40 bE bQ cS bR cY rfl (by decide) u3 x.length (tcs x) rfl dA.out.own ⟨W2.heap.size,0,none⟩ 1 1 [.string nm,Value.slice (some ⟨g6,0,none⟩) rs.length ia] rfl rfl ?c1 ?c2 (by decide) ?c3 ?c4 ?c5 _ rfl ?_)
    all_goals first
     |exact I1 (heap_alloc_new _ _)
     |(intro q hq;simp at hq;rcases hq with rfl|rfl<;>rfl)
     |(have:=fh.out;have:=eI.out;have:=cj.out;unfold maxLen;omega)
     |(have:=fh.out;have:=eI.out;have:=cj.out;omega)
     |(have:=bx.out.size;have:=HB.out.size;simp;omega)
     |skip
    intro g9 bN w9 aB aM af cE;have mf:=FS.snoc dA.out nm (Value.slice (some ⟨g6,0,none⟩) rs.length ia) rs (i7 (aS dB.out ((Below.refl _ _).alloc (Nat.le_refl _) _)) HB.out.size) vx.out aM aB;have kj:Below w.heap.size w w9:=((HB.out.trans (bx.out.mono HB.out.size)).alloc (by have:=bx.out.size;have:=HB.out.size;omega) _).grown aM (by have:=bx.out.size;have:=HB.out.size;simp;omega) (fun k hk=>(dA.out.own.lt k hk).1)
    obtain⟨ze,cI⟩:=hZ2 mf kj;clear aB aM af cE mf kj z0 z1;go_wp2;go_roundg gk
    case measure=>exact Nat.lt_succ_self _
    case rel=>exact⟨i1,_,rfl,by have:=aQ.out;have:=HI.out;omega,ze.out,mK.out _,cI.out⟩
theorem qb9:(Tryz.prog.info? 64).map (fun i=>(i.zero,i.size,i.bytes))=some (some (.agg #[.int .i64 0,.bool false,.slice none 0 0]),3,40):=by kernel_rfl
theorem iSe:∃i,Tryz.prog.info? 64=some i∧i.zero=some (.agg #[.int .i64 0,.bool false,.slice none 0 0])∧i.size=3∧i.bytes=40:=by
 have h:=qb9
 cases e:Tryz.prog.info? 64 with
 |none=>rw[e]at h;cases h
 |some i=>
  rw[e]at h;simp only[Option.map_some,Option.some.injEq,Prod.mk.injEq]at h;exact⟨i,rfl,h.1,h.2.1,h.2.2⟩
theorem qbg:Tryz.prog.underlying 45=some (.slice 64):=Tryz.underlying45
theorem LJ{W:World}{g:Nat}{a b c:Value}{t:TypeId}(h:Blk W g t #[a,b,c]):∀j u,[a,b,c][j]? =some u→W.cell? ((⟨g,0,none⟩:Addr).add j)=some u:=by
 intro j u hj;rw[Addr.add_lit,Nat.zero_add];rw[h.cell j]
 simpa using hj
theorem SQ.one{w:World}{v:Value}{s:List Tb}(h:SQ w v s):v.oneCell'=true:=by
 obtain⟨a,c,rfl⟩:=h.form
 rfl
def Le(x:List Sv)(id:Int):List Sv:=x.filter fun s=> !decide (s.1=id)
theorem Yr(x:List Sv)(id:Int):sns (Le x id)=P8 (sns x) id:=by
 unfold sns Le P8;rw[List.filter_map]
 rfl
theorem RD.store{B:Nat}{w:World}{g:Nat}{S:List Tb}{x y:List Sv}(h:RD B w g S x){cv sv:Value}{v:Value}(hk:SL.Bk w g 47 #[cv,sv])(hq:SQ w cv S)(ho:w.ownsRow B 64 3 v y.length (scs y))(hr:∀s∈y,SQ w s.2.2.1 s.2.2.2):
  RD B (w.setCell ⟨g,1,none⟩ v) g S y∧SL.Chg (lT B w) w (w.setCell ⟨g,1,none⟩ v):=by
 have hc:SL.Chg (lT B w) w (w.setCell ⟨g,1,none⟩ v):=(SL.Chg.refl _ w).setCell (p:=⟨g,1,none⟩) h.own v;refine⟨⟨⟨cv,v,hk.set_ 1 v,hq.kt (lT.kt hc),lE ho fun k bK=>Below.heap_setCell _ _ _ _ (fun e=>?_)⟩,h.lo,fun s hs=>(hr s hs).kt (lT.kt hc)⟩,hc⟩
 obtain⟨cur,cT⟩:=m9 ho bK;subst e;have:=hk.symm.trans cT;injection this with this;injection this with _ e _;exact absurd e (by decide)
theorem Jj(B:Nat)(w:World)(g:Nat)(S:List Tb)(x:List Sv)(h:RD B w g S x)(hB:B≤w.heap.size)(hx:x.length≤100000)(id:Int):
  Calls Tryz.prog 9 #[SL.ptr g,.int .i64 id] w fun e w'=>e=.returned (.tuple #[])∧StR B g x.length (IS (dbS S (sns x)) id) w w':=by
 obtain⟨i45,rB,rC,rD,rE⟩:=iSe;have mU:=qbg;obtain⟨cv,sv,hk,bU,ho⟩:=h.at_;obtain⟨sa,sc,rfl⟩:=jp ho;obtain⟨HX,HH,HK,HB,eH,HO⟩:=hZ6 hx h hk hB bU ho;clear h hk bU ho hB;go_enter Tryz.func9,Tryz.ntmps9;go_wp2
 go_loopg [4,5] x.length (fun gk u4 u5 wr=>∃(i:Nat) (y:List Sv),u5=.int .i64 (i:Int)∧i+gk=x.length∧Hid (wr.ownsRow w.heap.size 64 3 u4 y.length (scs y))∧Hid (y=Le (x.take i) id)∧Hid (Below w.heap.size w wr))
 case atStart=>exact⟨0,[],rfl,by omega,qid (World.ownsRow_nil _ _ _ _),qid rfl,qid (Below.refl _ _)⟩
 case round=>
  obtain⟨i,y,rfl,sy,wM,hy,fc⟩:=hrel;have y1:wr.cell? ⟨g,1,none⟩=some (.slice sa x.length sc):=(HK.out.heap (fc.out.block g HK.out.lt)).cell 1
  by_cases bw:i<x.length
  ·have l2:(i:Int)<(x.length:Int):=by omega
   have l3:(0:Int)≤(i:Int):=by omega
   obtain⟨i1,aN⟩:∃i1,i+1=i1:=⟨_,rfl⟩;have wk:IntKind.i64.wrap ((i:Int)+1)=(i1:Int):=by rw[show(i:Int)+1=(i1:Int) by omega];exact IntWalk.i64_in _ (by have:=HX.out;omega)
   have eD:Hid (i1+(gk-1)=x.length∧gk-1<gk):=qid (by omega)
   obtain⟨aQ,dM⟩:=hZ2 aN bw;obtain⟨s,hs⟩:∃s,x[i]? =some s:=⟨x[i],List.getElem?_eq_getElem bw⟩;obtain⟨sg,cap,he,cL,_,dE⟩:=Hv (aS HO.out fc.out) (by omega)
   injection he with ea _ ec;subst ea ec;obtain⟨z0,z1,z2⟩:=dE i s hs;have pf:=qid hs;have zi:=qid (HH.out.rows s (List.mem_of_getElem? hs));obtain⟨s0,s1,s2,s3⟩:=s;have z0:wr.cell? ⟨sg,i*3,none⟩=some (.int .i64 s0):=z0;have z1:wr.cell? ⟨sg,i*3+1,none⟩=some (.bool s1):=z1;have z2:wr.cell? ⟨sg,i*3+2,none⟩=some s2:=z2;have zi:Hid (SQ w s2 s3):=zi;have ht:x.take i1=x.take i++[(s0,s1,s2,s3)]:=by rw[←aN,List.take_add_one,hs];rfl
   have HT:=qid ht;clear dE hs bw sy aN ht
   by_cases hid:s0=id
   ·subst hid
    have HY:Hid (y=Le (x.take i1) s0):=qid (by
     rw[HT.out,hy.out];unfold Le;rw[List.filter_append];simp)
    clear hy;go_wp2;go_roundg (gk-1)
    case measure=>exact eD.out.2
    case rel=>exact⟨i1,y,rfl,eD.out.1,wM,HY,fc⟩
   ·have HY:Hid (y++[(s0,s1,s2,s3)]=Le (x.take i1) id):=qid (by
     rw[HT.out,hy.out];unfold Le;rw[List.filter_append];simp[hid])
    have CJ:Hid (y.length≤100000):=qid (by
     rw[hy.out];have:=List.length_filter_le (fun s:Sv=> !decide (s.1=id)) (x.take i)
     have h2:=HX.out;rw[List.length_take]at this;unfold Le;omega)
    obtain⟨W1,cF⟩:∃W,wr.alloc (.cells #[.int .i64 s0,.bool s1,s2] 64)=W:=⟨_,rfl⟩;have b1:Below wr.heap.size wr W1:=by rw[←cF];exact(Below.refl _ _).alloc (Nat.le_refl _) _
    have k1:Blk W1 wr.heap.size 64 #[.int .i64 s0,.bool s1,s2]:=by rw[←cF];exact Blk.new _ _ _
    obtain⟨aX,cC⟩:=hZ2 b1 k1;have rA:=qid (aS wM.out b1);have bC:s2.oneCell'=true:=zi.out.one;have bx:=qid bC;clear hy b1 k1 wM;go_wp2_with (at_builtin;(try rw[cF]);refine wpList_append_lies _ rfl _ _ 45 rfl w.heap.size 64 i45 (.agg #[.int .i64 0,.bool false,.slice none 0 0]) 3 40 mU rB rC rD rE rfl (by decide) u4 y.length (scs y) rfl rA.out ⟨wr.heap.size,0,none⟩ 1 1 [.int .i64 s0,.bool s1,s2] rfl rfl ?c1 ?c2 (by decide) ?c3 ?c4 ?c5 _ rfl ?_)
    case c1=>
     intro j u hj;have dI:=LJ cC.out j u hj;rw[Addr.add_lit,Nat.zero_add]at dI;exact dI
    case c2=>exact⟨rfl,rfl⟩
    case c3=>have:=CJ.out;unfold maxLen;omega
    case c4=>have:=CJ.out;omega
    case c5=>have:=aX.out.size;have:=fc.out.size;omega
    intro g9 bN w9 aB aM af cE;have kj:Below w.heap.size w w9:=(fc.out.trans (aX.out.mono fc.out.size)).grown aM (by have:=aX.out.size;have:=fc.out.size;omega) (fun k hk=>(rA.out.lt k hk).1)
    obtain⟨cI,cX⟩:=hZ2 kj aB;clear aB aM af cE kj y1 z0 z1 z2 cF;go_wp2;go_roundg (gk-1)
    case measure=>exact eD.out.2
    case rel=>exact⟨i1,y++[(s0,s1,s2,s3)],rfl,eD.out.1,qid (by rw[List.length_append,TN];exact cX.out),HY,cI⟩
  ·have l2:¬((i:Int)<(x.length:Int)):=by omega
   have CL:y=Le x id:=by rw[hy.out,List.take_of_length_le (by omega)]
   have kr:=HK.out.heap (fc.out.block g HK.out.lt);have fz:wr.frozen? ⟨g,1,none⟩=false:=kr.frozen 1;obtain⟨Ar,zj⟩:=hZ2 kr CL;obtain⟨a4,c4,rfl⟩:=jp wM.out;clear hy bw sy kr CL;go_wp2
   first|go_end0|(refine bodyPost_ret (v:=.tuple #[]) (by simp[results,Tryz.results9,go_sem]) rfl ?_)
   obtain⟨h1,h2⟩:=RD.store (y:=y) (HH.out.below fc.out) Ar.out (eH.out.bel fc.out) (i7 wM.out HB.out) (fun s hs=>by
    rw[zj.out]at hs;exact(HH.out.rows s (List.mem_filter.1 hs).1).bel fc.out)
   refine⟨rfl,y,h1,?_,?_,lT.trans (.of_below fc.out) h2⟩
   ·rw[zj.out,Yr]
    exact congrArg Prod.snd (Xq S (sns x) id)
   ·rw[zj.out];exact List.length_filter_le _ _
end Go.Proofs.YtpgddamhdfmdjaaGreatDoor
