/- Dgt Dpt Dch -/
import Derived.Test.YtpgddamhdfmdjaaGreatDoorG3
import Derived.Test.YtpgddamhdfmdjaaGreatDoorG14
import Derived.BigQuiet
import Derived.Deep.RegionHeld3
import Derived.Test.YtpgddamhdfmdjaaGreatDoorG1
set_option linter.unusedSimpArgs false
set_option linter.unusedVariables false
set_option maxRecDepth 100000
set_option maxHeartbeats 16000000
namespace Go.Proofs.YtpgddamhdfmdjaaGreatDoor
open Go.ChangeShapes Go.WideShapes Go.ChangeAt Go.RowKit
def OG(l:List Rw)(w:World)(e:Ending)(w':World):Prop:=∃v,e=.returned v∧OR w.heap.size w' v l∧Below w.heap.size w w'
theorem IW{W:World}{g:Nat}{a b:Value}{t:TypeId}(h:Blk W g t #[a,b]):∀j u,[a,b][j]? =some u→W.cell? ((⟨g,0,none⟩:Addr).add j)=some u:=by
 intro j u hj;rw[Addr.add_lit,Nat.zero_add];rw[h.cell j]
 simpa using hj
theorem LS{l:List Rw}{i:Nat}{r:Rw}(q:Rw→Bool)(h:l[i]? =some r):(l.take (i+1)).filter q=(l.take i).filter q++(if q r=true then [r]else []):=by
 rw[List.take_add_one,h,Option.toList_some,List.filter_append,List.filter_cons]
 split<;>simp
theorem NQ(l:List Rw)(i:Nat)(q:Rw→Bool)(hi:i<l.length):((l.take i).filter q).length<l.length:=by
 have:=List.length_filter_le q (l.take i);rw[List.length_take]at this;omega
theorem PG(v:Value)(l:List Rw)(kd:Int)(n:ByteArray)(K V:Int)(kb:Bool)(w:World)(h:RR w v l)(hl:l.length≤1000000):
  Calls Tryz.prog 85 #[v,.agg #[.int .i64 kd,.string n,.int .i64 K,.int .i64 V,.bool kb]] w (OG (l.filter (d8 kb K)) w):=by
 obtain⟨i31,bW,cP,cN,cR⟩:=Qb;have ak:=JX;obtain⟨a,cap,rfl⟩:=h.form;obtain⟨q,hq⟩:∃q:Rw→Bool,(d8 kb K)=q:=⟨_,rfl⟩;rw[hq];have HQ:=qid hq;obtain⟨W0,aH⟩:∃W0,w.alloc (.cells #[.int .i64 kd,.string n,.int .i64 K,.int .i64 V,.bool kb] 34)=W0:=⟨_,rfl⟩;have bD:Below w.heap.size w W0:=by rw[←aH];exact(Below.refl _ _).alloc (Nat.le_refl _) _
 have cD:Blk W0 w.heap.size 34 (go (kd,n,K,V,kb)):=by rw[←aH];exact Blk.new _ _ _
 obtain⟨HK,bG⟩:=hZ2 cD bD;have HH:=qid (h.below bD);have HL:=qid hl;clear h hl hq bD cD;go_enter Tryz.func85,Tryz.ntmps85;go_wp2_with fail;clear aH
 go_loopg [5,6] l.length (fun gk u5 u6 wx=>∃i:Nat,u6=.int .i64 (i:Int)∧i+gk=l.length∧OR W0.heap.size wx u5 ((l.take i).filter q)∧Below W0.heap.size W0 wx)
 case atStart=>exact⟨0,rfl,by omega,World.ownsRow_nil _ _ _ _,Below.refl _ _⟩
 case round=>
  obtain⟨i,rfl,hi,hO,hB⟩:=hrel;obtain⟨HO,HB,HI⟩:=hZ3 hO hB hi;obtain⟨gJ,gK,rfl⟩:=Ac hO
  cases gk with
  |zero=>
   have l1:¬((i:Int)<(l.length:Int)):=by omega
   have ht:l.take i=l:=List.take_of_length_le (by omega)
   rw[ht]at hO;have bP:OG (l.filter q) w (.returned (.slice gJ ((l.take i).filter q).length gK)) wr:=⟨_,rfl,by rw[ht];exact i7 hO bG.out.size,bG.out.trans (hB.mono bG.out.size)⟩
   have gL:=qid bP;clear hi hO hB bP ht;go_wp2;go_ret;exact gL.out
  |succ gk=>
   have aD:i<l.length:=by omega
   obtain⟨b,off,cp,he,cL,hx⟩:=(HH.out.below hB).inv (by omega)
   injection he with ea _ ec;subst ea ec;obtain⟨r,bJ⟩:∃r,l[i]=r:=⟨_,rfl⟩;have du:l[i]? =some r:=by rw[List.getElem?_eq_getElem aD,bJ]
   obtain⟨x0,x1⟩:=hx i r du;obtain⟨y0,y1,y2,y3,y4⟩:=aC (kd,n,K,V,kb) (HK.out.below hB HK.out.lt);have eR:=LS q du;have eY:=NQ l i q aD;have iR:=qid eY;have l0:(0:Int)≤(i:Int):=by omega
   have l1:(i:Int)<(l.length:Int):=by omega
   obtain⟨i1,aN⟩:∃i1,i+1=i1:=⟨_,rfl⟩;have wk:IntKind.i64.wrap ((i:Int)+1)=(i1:Int):=by rw[show(i:Int)+1=(i1:Int) by omega];exact IntWalk.i64_in _ (by have:=HL.out;omega)
   rw[aN]at eR;have aQ:=qid aN;obtain⟨L,hL⟩:∃L,(l.take i).filter q=L:=⟨_,rfl⟩;rw[hL]at eR HO iR⊢;have j7:=qid eR;obtain⟨r0,r1⟩:=r;simp only at x0 x1;clear hi hO hB aD hx bJ du aN eR eY hL
   cases kb with
   |false=>
    have dc:q (r0,r1)=true:=by rw[←HQ.out];rfl
    have ig:=qid dc;clear dc;go_wp2_with fail
    go_quiet (fail)
    have dc:=ig.out;have nI:=qid (show OR W0.heap.size ((wr.drewN nq).alloc (.cells #[.int .i64 r0,.int .i64 r1] 57)) (.slice gJ L.length gK) L from World.ownsRow.alloc (aS HO.out (el _ _ _)) _);have aX:=qid (HB.out.trans (el W0.heap.size wr nq));go_wp2_with (at_builtin;refine wpList_append_lies _ rfl _ _ 39 rfl W0.heap.size 57 i31 (.agg #[.int .i64 0,.int .i64 0]) 2 16 ak bW cP cN cR rfl (by decide) (.slice gJ L.length gK) L.length (rcs L) rfl nI.out ⟨wr.heap.size,0,none⟩ 1 1 (rcs [(r0,r1)]) rfl rfl ?crA1 (Gu _) (by decide) ?crA2 ?crA3 ?crA4 _ rfl ?_)
    all_goals first
     |exact IW (heap_alloc_new (wr.drewN nq) _)
     |(have:=iR.out;have:=HL.out;unfold maxLen;omega)
     |(have:=iR.out;have:=HL.out;omega)
     |(have:=HB.out.size;simp;omega)
     |skip
    intro g9 bN w9 aB aM af cE;have ay:OR W0.heap.size w9 (.slice (some ⟨g9,0,none⟩) (L.length+1) bN) (L++[(r0,r1)]):=by
     unfold OR;rw[oF,List.length_append];exact aB
    have aP:=(aX.out.alloc aX.out.size (.cells #[.int .i64 r0,.int .i64 r1] 57)).grown aM (by have:=HB.out.size;simp;omega) (fun k hk=>(nI.out.lt k hk).1)
    obtain⟨cX,cI⟩:=hZ2 ay aP;clear aB ay aM af aP;go_wp2;go_roundg gk
    case measure=>exact Nat.lt_succ_self _
    case rel=>exact⟨i1,rfl,by have:=aQ.out;have:=HI.out;omega,by rw[j7.out,dc];exact cX.out,cI.out⟩
   |true=>
    by_cases hk:r0=K
    ·subst hk
     have dc:q (r0,r1)=true:=by rw[←HQ.out];simp[d8]
     have ig:=qid dc;clear dc;go_wp2_with fail
     go_quiet (fail)
     have dc:=ig.out;have nI:=qid (show OR W0.heap.size ((wr.drewN nq).alloc (.cells #[.int .i64 r0,.int .i64 r1] 57)) (.slice gJ L.length gK) L from World.ownsRow.alloc (aS HO.out (el _ _ _)) _);have aX:=qid (HB.out.trans (el W0.heap.size wr nq));go_wp2_with (at_builtin;refine wpList_append_lies _ rfl _ _ 39 rfl W0.heap.size 57 i31 (.agg #[.int .i64 0,.int .i64 0]) 2 16 ak bW cP cN cR rfl (by decide) (.slice gJ L.length gK) L.length (rcs L) rfl nI.out ⟨wr.heap.size,0,none⟩ 1 1 (rcs [(r0,r1)]) rfl rfl ?crB1 (Gu _) (by decide) ?crB2 ?crB3 ?crB4 _ rfl ?_)
     all_goals first
      |exact IW (heap_alloc_new (wr.drewN nq) _)
      |(have:=iR.out;have:=HL.out;unfold maxLen;omega)
      |(have:=iR.out;have:=HL.out;omega)
      |(have:=HB.out.size;simp;omega)
      |skip
     intro g9 bN w9 aB aM af cE;have ay:OR W0.heap.size w9 (.slice (some ⟨g9,0,none⟩) (L.length+1) bN) (L++[(r0,r1)]):=by
      unfold OR;rw[oF,List.length_append];exact aB
     have aP:=(aX.out.alloc aX.out.size (.cells #[.int .i64 r0,.int .i64 r1] 57)).grown aM (by have:=HB.out.size;simp;omega) (fun k hk=>(nI.out.lt k hk).1)
     obtain⟨cX,cI⟩:=hZ2 ay aP;clear aB ay aM af aP;go_wp2;go_roundg gk
     case measure=>exact Nat.lt_succ_self _
     case rel=>exact⟨i1,rfl,by have:=aQ.out;have:=HI.out;omega,by rw[j7.out,dc];exact cX.out,cI.out⟩
    ·have bq:(r0==K)=false:=beq_eq_false_iff_ne.2 hk
     have bK:(r0 != K)=true:=by rw[bne_iff_ne];exact hk
     have dc:q (r0,r1)=false:=by rw[←HQ.out];simp[d8,hk]
     have ig:=qid dc;clear dc;go_wp2_with fail
     go_quiet (fail)
     have dc:=ig.out;go_wp2;go_roundg gk
     case measure=>exact Nat.lt_succ_self _
     case rel=>exact⟨i1,rfl,by have:=aQ.out;have:=HI.out;omega,by rw[j7.out,dc];simp only[Bool.false_eq_true,if_false,List.append_nil];exact aS HO.out (el _ _ nq),HB.out.trans (el _ _ _)⟩
theorem Zn(v:Value)(l:List Rw)(kd:Int)(n:ByteArray)(K V:Int)(kb:Bool)(w:World)(h:RR w v l)(hl:l.length≤1000000):
  Calls Tryz.prog 108 #[v,.agg #[.int .i64 kd,.string n,.int .i64 K,.int .i64 V,.bool kb]] w (OG (l.filter (fun r=> !d8 kb K r)) w):=by
 obtain⟨i31,bW,cP,cN,cR⟩:=Qb;have ak:=JX;obtain⟨a,cap,rfl⟩:=h.form;obtain⟨q,hq⟩:∃q:Rw→Bool,(fun r=> !d8 kb K r)=q:=⟨_,rfl⟩
 rw[hq];have HQ:=qid hq;obtain⟨W0,aH⟩:∃W0,w.alloc (.cells #[.int .i64 kd,.string n,.int .i64 K,.int .i64 V,.bool kb] 34)=W0:=⟨_,rfl⟩;have bD:Below w.heap.size w W0:=by rw[←aH];exact(Below.refl _ _).alloc (Nat.le_refl _) _
 have cD:Blk W0 w.heap.size 34 (go (kd,n,K,V,kb)):=by rw[←aH];exact Blk.new _ _ _
 obtain⟨HK,bG⟩:=hZ2 cD bD;have HH:=qid (h.below bD);have HL:=qid hl;clear h hl hq bD cD;go_enter Tryz.func108,Tryz.ntmps108;go_wp2_with fail;clear aH
 go_loopg [5,6] l.length (fun gk u5 u6 wx=>∃i:Nat,u6=.int .i64 (i:Int)∧i+gk=l.length∧OR W0.heap.size wx u5 ((l.take i).filter q)∧Below W0.heap.size W0 wx)
 case atStart=>exact⟨0,rfl,by omega,World.ownsRow_nil _ _ _ _,Below.refl _ _⟩
 case round=>
  obtain⟨i,rfl,hi,hO,hB⟩:=hrel;obtain⟨HO,HB,HI⟩:=hZ3 hO hB hi;obtain⟨gJ,gK,rfl⟩:=Ac hO
  cases gk with
  |zero=>
   have l1:¬((i:Int)<(l.length:Int)):=by omega
   have ht:l.take i=l:=List.take_of_length_le (by omega)
   rw[ht]at hO;have bP:OG (l.filter q) w (.returned (.slice gJ ((l.take i).filter q).length gK)) wr:=⟨_,rfl,by rw[ht];exact i7 hO bG.out.size,bG.out.trans (hB.mono bG.out.size)⟩
   have gL:=qid bP;clear hi hO hB bP ht;go_wp2;go_ret;exact gL.out
  |succ gk=>
   have aD:i<l.length:=by omega
   obtain⟨b,off,cp,he,cL,hx⟩:=(HH.out.below hB).inv (by omega)
   injection he with ea _ ec;subst ea ec;obtain⟨r,bJ⟩:∃r,l[i]=r:=⟨_,rfl⟩;have du:l[i]? =some r:=by rw[List.getElem?_eq_getElem aD,bJ]
   obtain⟨x0,x1⟩:=hx i r du;obtain⟨y0,y1,y2,y3,y4⟩:=aC (kd,n,K,V,kb) (HK.out.below hB HK.out.lt);have eR:=LS q du;have eY:=NQ l i q aD;have iR:=qid eY;have l0:(0:Int)≤(i:Int):=by omega
   have l1:(i:Int)<(l.length:Int):=by omega
   obtain⟨i1,aN⟩:∃i1,i+1=i1:=⟨_,rfl⟩;have wk:IntKind.i64.wrap ((i:Int)+1)=(i1:Int):=by rw[show(i:Int)+1=(i1:Int) by omega];exact IntWalk.i64_in _ (by have:=HL.out;omega)
   rw[aN]at eR;have aQ:=qid aN;obtain⟨L,hL⟩:∃L,(l.take i).filter q=L:=⟨_,rfl⟩;rw[hL]at eR HO iR⊢;have j7:=qid eR;obtain⟨r0,r1⟩:=r;simp only at x0 x1;clear hi hO hB aD hx bJ du aN eR eY hL
   cases kb with
   |false=>
    have dc:q (r0,r1)=false:=by rw[←HQ.out];rfl
    have ig:=qid dc;clear dc;go_wp2_with fail
    go_quiet (fail)
    have dc:=ig.out;go_wp2;go_roundg gk
    case measure=>exact Nat.lt_succ_self _
    case rel=>exact⟨i1,rfl,by have:=aQ.out;have:=HI.out;omega,by rw[j7.out,dc];simp only[Bool.false_eq_true,if_false,List.append_nil];exact aS HO.out (el _ _ nq),HB.out.trans (el _ _ _)⟩
   |true=>
    by_cases hk:r0=K
    ·subst hk
     have dc:q (r0,r1)=false:=by rw[←HQ.out];simp[d8]
     have ig:=qid dc;clear dc;go_wp2_with fail
     go_quiet (fail)
     have dc:=ig.out;go_wp2;go_roundg gk
     case measure=>exact Nat.lt_succ_self _
     case rel=>exact⟨i1,rfl,by have:=aQ.out;have:=HI.out;omega,by rw[j7.out,dc];simp only[Bool.false_eq_true,if_false,List.append_nil];exact aS HO.out (el _ _ nq),HB.out.trans (el _ _ _)⟩
    ·have bq:(r0==K)=false:=beq_eq_false_iff_ne.2 hk
     have bK:(r0 != K)=true:=by rw[bne_iff_ne];exact hk
     have dc:q (r0,r1)=true:=by rw[←HQ.out];simp[d8,hk]
     have ig:=qid dc;clear dc;go_wp2_with fail
     go_quiet (fail)
     have dc:=ig.out;have nI:=qid (show OR W0.heap.size ((wr.drewN nq).alloc (.cells #[.int .i64 r0,.int .i64 r1] 57)) (.slice gJ L.length gK) L from World.ownsRow.alloc (aS HO.out (el _ _ _)) _);have aX:=qid (HB.out.trans (el W0.heap.size wr nq));go_wp2_with (at_builtin;refine wpList_append_lies _ rfl _ _ 39 rfl W0.heap.size 57 i31 (.agg #[.int .i64 0,.int .i64 0]) 2 16 ak bW cP cN cR rfl (by decide) (.slice gJ L.length gK) L.length (rcs L) rfl nI.out ⟨wr.heap.size,0,none⟩ 1 1 (rcs [(r0,r1)]) rfl rfl ?crC1 (Gu _) (by decide) ?crC2 ?crC3 ?crC4 _ rfl ?_)
     all_goals first
      |exact IW (heap_alloc_new (wr.drewN nq) _)
      |(have:=iR.out;have:=HL.out;unfold maxLen;omega)
      |(have:=iR.out;have:=HL.out;omega)
      |(have:=HB.out.size;simp;omega)
      |skip
     intro g9 bN w9 aB aM af cE;have ay:OR W0.heap.size w9 (.slice (some ⟨g9,0,none⟩) (L.length+1) bN) (L++[(r0,r1)]):=by
      unfold OR;rw[oF,List.length_append];exact aB
     have aP:=(aX.out.alloc aX.out.size (.cells #[.int .i64 r0,.int .i64 r1] 57)).grown aM (by have:=HB.out.size;simp;omega) (fun k hk=>(nI.out.lt k hk).1)
     obtain⟨cX,cI⟩:=hZ2 ay aP;clear aB ay aM af aP;go_wp2;go_roundg gk
     case measure=>exact Nat.lt_succ_self _
     case rel=>exact⟨i1,rfl,by have:=aQ.out;have:=HI.out;omega,by rw[j7.out,dc];exact cX.out,cI.out⟩
theorem I6{P:Program}{w:World}(base:Nat)(t ty e:TypeId)(i:TypeInfo)(size:Nat)(ht:P.underlying t=some (.slice e))(hi:P.info? e=some i)(v:Value)(n:Nat)(xs:List Value)(aE:w.ownsRow base e size v n xs)(p:Option Addr)(c:Nat):(Builtin.append_ #[t,t] ty #[v,.slice p 0 c]).run P w=.ok v w:=by
 have hf:(Builtin.firstCells i.size 0 (.slice p 0 c)).run P w=.ok #[] w:=by
  cases p with
  |none=>exact run_firstCells_none w i.size 0 0 c
  |some ad=>exact run_firstCells_some w i.size 0 ad 0 c [] (by simp) (fun j v hj=>by simp at hj)
 rcases aE.2 with⟨rfl,rfl⟩|⟨g,cap,cur,rfl,_,_,ns,_⟩
 ·simp[Builtin.append_,run_underlying ht,sizeOf,typeInfo,hi,Builtin.lenOf,hf]
 ·simp[Builtin.append_,run_underlying ht,sizeOf,typeInfo,hi,Builtin.lenOf,hf,ns,storeCells]
theorem i6{P:Program}{w:World}{ops:Array Oper}{rest:List Oper}{o:Oper}{a:Act}{Q:Exit→Act→World→Prop}(nt:o.guard=none)(s x:Operand)(t:TypeId)(ho:o.op=.call {callee:=.builtin .append,args:=#[s,x],argTypes:=#[t,t]})(base:Nat)(e:TypeId)(i:TypeInfo)(size:Nat)(ht:P.underlying t=some (.slice e))(hi:P.info? e=some i)(v:Value)(n:Nat)(xs:List Value)(hs:a.eval s=v)(aE:w.ownsRow base e size v n xs)(p:Option Addr)(c:Nat)(hx:a.eval x=.slice p 0 c)(h:wpList P ops Q rest (a.put o.dst v) w):wpList P ops Q (o::rest) a w:=by
 refine wpList_plain nt fun K hK=>?_
 have dK:=I6 (P:=P) (w:=w) base t o.type e i size ht hi v n xs aE p c;unfold Oper.wp;simp[execOp,ho,resolve,invoke,builtin,hs,hx,dK,Result.andThen];exact hK _ _ h
theorem OR.of{B m:Nat}{w:World}{v:Value}{A:List Rw}{X:List Value}(h:w.ownsRow B 57 2 v m X)(hm:A.length=m)(hx:rcs A=X):OR B w v A:=by
 subst hm hx;exact h
theorem RR.inv_at{w:World}{b off cap n:Nat}{l:List Rw}{i:Nat}{r:Rw}(h:RR w (.slice (some ⟨b,off,none⟩) n cap) l)(hi:l[i]? =some r)(hn:n=l.length):w.cell? ⟨b,off+i*2,none⟩=some (.int .i64 r.1)∧w.cell? ⟨b,off+i*2+1,none⟩=some (.int .i64 r.2):=by
 subst hn;have hl:=(List.getElem?_eq_some_iff.1 hi).1;obtain⟨g,o,c,he,_,hx⟩:=h.inv (by omega)
 injection he with e1 _ _;injection e1 with e1;injection e1 with e1 e2 _;subst e1 e2;exact hx i r hi
theorem PH{w:World}{b off cap:Nat}{l:List Rw}(j:Nat)(h:RR w (.slice (some ⟨b,off,none⟩) l.length cap) l):∀i u,(rcs (l.drop j))[i]? =some u→w.cell? ((⟨b,off+j*2,none⟩:Addr).add i)=some u:=by
 intro i u hu;obtain⟨q,p,hq,lJ⟩:=MD _ i u hu;rw[List.getElem?_map,List.getElem?_drop]at hq
 cases hr:l[j+q]? with
 |none=>rw[hr]at hq;cases hq
 |some r=>
  rw[hr]at hq;injection hq with hq;subst hq;obtain⟨h1,h2⟩:=h.inv_at hr rfl;rw[Addr.add_lit];rcases lJ with⟨rfl,rfl⟩|⟨rfl,rfl⟩
  ·rw[show off+j*2+q*2=off+(j+q)*2 by omega];exact h1
  ·rw[show off+j*2+(q*2+1)=off+(j+q)*2+1 by omega];exact h2
theorem Rn{l:List Rw}{k v:Int}{i j:Nat}(hi:i≤l.length)(h1:∀t x,t<i→l[t]? =some x→ltK k x=true)(h2:∀x,l[i]? =some x→ltK k x=false)(hj:j=if(match l[i]? with|some r=>r.1==k|none=>false)=true then i+1 else i):l.take i++[(k,v)]++l.drop j=II l k v:=by
 have e:Hr l k=i:=Jd _ l i hi h1 h2;unfold II Im;rw[e,hj,List.append_assoc];rfl
theorem WR(v:Value)(l:List Rw)(k z:Int)(w:World)(h:RR w v l)(hl:l.length≤1000000):
  Calls Tryz.prog 107 #[v,.agg #[.int .i64 k,.int .i64 z]] w (OG (II l k z) w):=by
 obtain⟨i31,bW,cP,cN,cR⟩:=Qb;have ak:=JX;obtain⟨a,cap,rfl⟩:=h.form;obtain⟨W0,aH⟩:∃W0,w.alloc (.cells #[.int .i64 k,.int .i64 z] 57)=W0:=⟨_,rfl⟩;have bD:Below w.heap.size w W0:=by rw[←aH];exact(Below.refl _ _).alloc (Nat.le_refl _) _
 have cD:Blk W0 w.heap.size 57 #[.int .i64 k,.int .i64 z]:=by rw[←aH];exact Blk.new _ _ _
 obtain⟨HK,bG⟩:=hZ2 cD bD;have HH:=qid (h.below bD);have HL:=qid hl;clear h hl bD cD;go_enter Tryz.func107,Tryz.ntmps107;go_wp2_with fail;clear aH
 go_loopg [5,6] l.length (fun gk u5 u6 wx=>∃i:Nat,u6=.int .i64 (i:Int)∧i+gk=l.length∧wx.ownsRow W0.heap.size 57 2 u5 i (rcs (l.take i))∧Below W0.heap.size W0 wx∧∀t x,t<i→l[t]? =some x→ltK k x=true)
 case atStart=>exact⟨0,rfl,by omega,World.ownsRow_nil _ _ _ _,Below.refl _ _,fun t x h=>by omega⟩
 case round=>
  obtain⟨i,rfl,hi,hO,hB,au⟩:=hrel;obtain⟨HO,HB,HI,py⟩:=hZ4 hO hB hi au;obtain⟨gJ,gK,rfl⟩:=Ac hO;have sA:=HK.out.below hB HK.out.lt;have y0:wr.cell? ⟨w.heap.size,0,none⟩=some (.int .i64 k):=sA.cell 0;have y1:wr.cell? ⟨w.heap.size,1,none⟩=some (.int .i64 z):=sA.cell 1;have sB:=HH.out.below hB;have Fk:=qid sB
  cases gk with
  |zero=>
   have bw:i=l.length:=by omega
   have l1:¬((i:Int)<(l.length:Int)):=by omega
   have D5:decide ((i:Int)<(l.length:Int))=false:=decide_eq_false l1;have ov:=Rn (l:=l) (k:=k) (v:=z) (i:=i) (j:=i) (by omega) au (fun x hx=>by rw[bw,List.getElem?_eq_none (Nat.le_refl _)]at hx;cases hx) (by rw[bw,List.getElem?_eq_none (Nat.le_refl _)];rfl)
   have fu:=qid ov;subst bw;clear hi hO hB au sA sB ov;have fv:=qid (show(II l k z).length=l.length+1 by rw[←fu.out];simp)
   have gp:=qid (show rcs (II l k z)=rcs l++rcs [(k,z)] by rw[←fu.out,List.drop_of_length_le (Nat.le_refl _),List.append_nil,oF,List.take_length])
   go_wp2_with fail
   go_quiet (fail)
   go_wp2_with (at_builtin;refine wpList_append_lies _ rfl _ _ 39 rfl W0.heap.size 57 i31 (.agg #[.int .i64 0,.int .i64 0]) 2 16 ak bW cP cN cR rfl (by decide) (.slice gJ l.length gK) l.length (rcs (l.take l.length)) rfl ((aS HO.out (el _ _ nq)).alloc _) ⟨wr.heap.size,0,none⟩ 1 1 (rcs [(k,z)]) rfl rfl ?e01 (Gu _) (by decide) ?e02 ?e03 ?e04 _ rfl ?_)
   all_goals first
    |exact IW (heap_alloc_new (wr.drewN nq) _)
    |(have:=HI.out;have:=HL.out;unfold maxLen;omega)
    |(have:=HI.out;have:=HL.out;omega)
    |(have:=HB.out.size;simp;omega)
    |skip
   intro g9 bN w9 aB aM af cE;have aP:=((HB.out.trans (el W0.heap.size wr nq)).alloc (HB.out.trans (el W0.heap.size wr nq)).size (.cells #[.int .i64 k,.int .i64 z] 57)).grown aM (by have:=HB.out.size;simp;omega) (fun k hk=>(HO.out.lt k hk).1)
   obtain⟨cX,cI⟩:=hZ2 aB aP;have lj:=HK.out.below aP HK.out.lt;have xv:w9.cell? ⟨w.heap.size,0,none⟩=some (.int .i64 k):=lj.cell 0;clear aB aM af aP lj;go_wp2_with fail
   go_quiet (fail)
   go_wp2_with (at_builtin;refine i6 rfl _ _ 39 rfl W0.heap.size 57 i31 2 ak bW _ _ _ rfl (aS cX.out (el _ _ nq)) _ _ rfl ?_)
   all_goals
    go_wp2;go_ret;exact⟨_,rfl,i7 (OR.of (aS cX.out (el _ _ nq)) fv.out gp.out) bG.out.size,(bG.out.trans (cI.out.mono bG.out.size)).trans (el _ _ _)⟩
  |succ gk=>
   have aD:i<l.length:=by omega
   obtain⟨b,off,cp,he,cL,hx⟩:=sB.inv (by omega)
   injection he with ea _ ec;subst ea ec;obtain⟨r,bJ⟩:∃r,l[i]=r:=⟨_,rfl⟩;have du:l[i]? =some r:=by rw[List.getElem?_eq_getElem aD,bJ]
   obtain⟨x0,x1⟩:=hx i r du;have l0:(0:Int)≤(i:Int):=by omega
   have l1:(i:Int)<(l.length:Int):=by omega
   have D5:decide ((i:Int)<(l.length:Int))=true:=decide_eq_true l1;obtain⟨i1,aN⟩:∃i1,i+1=i1:=⟨_,rfl⟩;have wk:IntKind.i64.wrap ((i:Int)+1)=(i1:Int):=by rw[show(i:Int)+1=(i1:Int) by omega];exact IntWalk.i64_in _ (by have:=HL.out;omega)
   obtain⟨aQ,cj,tQ,dv⟩:=hZ4 aN aD du cL
   by_cases hk:r.1<k
   ·have j2:=qid (show rcs (l.take i1)=rcs (l.take i)++rcs [r] by rw[←aN,List.take_add_one,du,Option.toList_some,oF])
    have lq:=qid (show∀t x,t<i1→l[t]? =some x→ltK k x=true from fun t x ht hx=>by
     by_cases h:t<i
     ·exact au t x h hx
     ·have:t=i:=by omega
      subst this;rw[du]at hx;injection hx with hx;subst hx;exact decide_eq_true hk)
    obtain⟨r0,r1⟩:=r;simp only at x0 x1 hk;clear hi hO hB au sA sB hx bJ du aN aD cL;go_wp2_with fail
    go_quiet (fail)
    go_wp2_with (at_builtin;refine wpList_append_lies _ rfl _ _ 39 rfl W0.heap.size 57 i31 (.agg #[.int .i64 0,.int .i64 0]) 2 16 ak bW cP cN cR rfl (by decide) (.slice gJ i gK) i (rcs (l.take i)) rfl ((aS HO.out (el _ _ nq)).alloc _) ⟨wr.heap.size,0,none⟩ 1 1 (rcs [(r0,r1)]) rfl rfl ?a1 (Gu _) (by decide) ?a2 ?a3 ?a4 _ rfl ?_)
    all_goals first
     |exact IW (heap_alloc_new (wr.drewN nq) _)
     |(have:=cj.out;have:=HL.out;unfold maxLen;omega)
     |(have:=cj.out;have:=HL.out;omega)
     |(have:=HB.out.size;simp;omega)
     |skip
    intro g9 bN w9 aB aM af cE;have aP:=((HB.out.trans (el W0.heap.size wr nq)).alloc (HB.out.trans (el W0.heap.size wr nq)).size (.cells #[.int .i64 r0,.int .i64 r1] 57)).grown aM (by have:=HB.out.size;simp;omega) (fun k hk=>(HO.out.lt k hk).1)
    obtain⟨cX,cI⟩:=hZ2 aB aP;clear aB aM af aP;go_wp2;go_roundg gk
    case measure=>exact Nat.lt_succ_self _
    case rel=>exact⟨i1,rfl,by have:=aQ.out;have:=HI.out;omega,by rw[j2.out,←aQ.out];exact cX.out,cI.out,lq.out⟩
   ·have nu:ltK k r=false:=decide_eq_false hk
    by_cases sC:r.1=k
    ·have ov:=Rn (l:=l) (k:=k) (v:=z) (i:=i) (j:=i1) (by omega) au (fun x hx=>by rw[du]at hx;injection hx with hx;subst hx;exact nu) (by rw[du,←aN];simp[sC])
     obtain⟨fu,D6⟩:=hZ2 ov hx;obtain⟨r0,r1⟩:=r;simp only at x0 x1 hk sC;subst sC;clear hi hO hB au sA sB hx bJ du aD cL ov nu
     by_cases nv:i1=l.length
     ·have fv:=qid (show(II l r0 z).length=l.length by rw[←fu.out];have:=cj.out;simp;omega)
      have gp:=qid (show rcs (II l r0 z)=rcs (l.take i)++rcs [(r0,z)] by rw[←fu.out,List.drop_of_length_le (by omega:l.length≤i1),List.append_nil,oF])
      go_wp2_with fail
      go_quiet (fail)
      go_wp2_with (at_builtin;refine wpList_append_lies _ rfl _ _ 39 rfl W0.heap.size 57 i31 (.agg #[.int .i64 0,.int .i64 0]) 2 16 ak bW cP cN cR rfl (by decide) (.slice gJ i gK) i (rcs (l.take i)) rfl ((aS HO.out (el _ _ nq)).alloc _) ⟨wr.heap.size,0,none⟩ 1 1 (rcs [(r0,z)]) rfl rfl ?e11 (Gu _) (by decide) ?e12 ?e13 ?e14 _ rfl ?_)
      all_goals first
       |exact IW (heap_alloc_new (wr.drewN nq) _)
       |(have:=HI.out;have:=HL.out;unfold maxLen;omega)
       |(have:=HI.out;have:=HL.out;omega)
       |(have:=HB.out.size;simp;omega)
       |skip
      intro g9 bN w9 aB aM af cE;have aP:=((HB.out.trans (el W0.heap.size wr nq)).alloc (HB.out.trans (el W0.heap.size wr nq)).size (.cells #[.int .i64 r0,.int .i64 z] 57)).grown aM (by have:=HB.out.size;simp;omega) (fun k hk=>(HO.out.lt k hk).1)
      obtain⟨cX,cI⟩:=hZ2 aB aP;have lj:=HK.out.below aP HK.out.lt;have xv:w9.cell? ⟨w.heap.size,0,none⟩=some (.int .i64 r0):=lj.cell 0;clear aB aM af aP lj;have x9:w9.cell? ⟨b,off+i*2,none⟩=some (.int .i64 r0):=((HH.out.below cI.out).inv_at tQ.out rfl).1;go_wp2_with fail
      go_quiet (fail)
      go_wp2_with (at_builtin;refine i6 rfl _ _ 39 rfl W0.heap.size 57 i31 2 ak bW _ _ _ rfl (aS cX.out (el _ _ nq)) _ _ rfl ?_)
      all_goals
       go_wp2;go_ret;exact⟨_,rfl,i7 (OR.of (aS cX.out (el _ _ nq)) fv.out gp.out) bG.out.size,(bG.out.trans (cI.out.mono bG.out.size)).trans (el _ _ _)⟩
     ·have kf:=qid (show i1<l.length by have:=cj.out;omega)
      have fv:=qid (show(II l r0 z).length=i1+(l.length-i1) by rw[←fu.out];have:=cj.out;have:=aQ.out;simp;omega)
      have gp:=qid (show rcs (II l r0 z)=rcs (l.take i)++(rcs [(r0,z)]++rcs (l.drop i1)) by rw[←fu.out,oF,oF,List.append_assoc])
      have nw:(i1:Int)≤(l.length:Int):=by omega
      have nJ:¬(cap=i1):=by have:=cj.out;have:=dv.out;omega
      have wy:¬(cap-i1=0):=by have:=cj.out;have:=dv.out;omega
      have xw:(0:Int)≤(i1:Int):=by omega
      clear nv;go_wp2_with fail
      go_quiet (fail)
      go_wp2_with (at_builtin;refine wpList_append_lies _ rfl _ _ 39 rfl W0.heap.size 57 i31 (.agg #[.int .i64 0,.int .i64 0]) 2 16 ak bW cP cN cR rfl (by decide) (.slice gJ i gK) i (rcs (l.take i)) rfl ((aS HO.out (el _ _ nq)).alloc _) ⟨wr.heap.size,0,none⟩ 1 1 (rcs [(r0,z)]) rfl rfl ?e1n1 (Gu _) (by decide) ?e1n2 ?e1n3 ?e1n4 _ rfl ?_)
      all_goals first
       |exact IW (heap_alloc_new (wr.drewN nq) _)
       |(have:=HI.out;have:=HL.out;unfold maxLen;omega)
       |(have:=HI.out;have:=HL.out;omega)
       |(have:=HB.out.size;simp;omega)
       |skip
      intro g9 bN w9 aB aM af cE;have aP:=((HB.out.trans (el W0.heap.size wr nq)).alloc (HB.out.trans (el W0.heap.size wr nq)).size (.cells #[.int .i64 r0,.int .i64 z] 57)).grown aM (by have:=HB.out.size;simp;omega) (fun k hk=>(HO.out.lt k hk).1)
      obtain⟨cX,cI⟩:=hZ2 aB aP;have lj:=HK.out.below aP HK.out.lt;have xv:w9.cell? ⟨w.heap.size,0,none⟩=some (.int .i64 r0):=lj.cell 0;clear aB aM af aP lj;have x9:w9.cell? ⟨b,off+i*2,none⟩=some (.int .i64 r0):=((HH.out.below cI.out).inv_at tQ.out rfl).1;go_wp2_with fail
      go_quiet (fail)
      have tq:Below W0.heap.size W0 (w9.drewN nq):=cI.out.trans (el _ _ _);have ny:=qid (PH i1 (HH.out.below tq));clear tq;go_wp2_with (at_builtin;refine wpList_append_lies _ rfl _ _ 39 rfl W0.heap.size 57 i31 (.agg #[.int .i64 0,.int .i64 0]) 2 16 ak bW cP cN cR rfl (by decide) _ _ _ rfl (aS cX.out (el _ _ nq)) ⟨b,off+i1*2,none⟩ (l.length-i1) (cap-i1) (rcs (l.drop i1)) rfl ?e1n5 ny.out (Gu _) ?e1n6 ?e1n7 ?e1n8 ?e1n9 _ rfl ?_)
      all_goals first
       |(rw[JB,List.length_drop];done)
       |(have:=kf.out;omega)
       |(have:=kf.out;have:=HL.out;have:=HI.out;unfold maxLen;omega)
       |(have:=kf.out;have:=HL.out;have:=HI.out;omega)
       |(have:=cI.out.size;simp;omega)
       |skip
      intro g8 nz w8 ay ef eS o5;have dJ:=(cI.out.trans (el W0.heap.size w9 nq)).grown ef (by have:=cI.out.size;simp;omega) (fun k hk=>(cX.out.lt k hk).1)
      obtain⟨lr,lK⟩:=hZ2 ay dJ;clear ay ef eS dJ;go_wp2;go_ret;exact⟨_,rfl,i7 (OR.of lr.out fv.out gp.out) bG.out.size,bG.out.trans (lK.out.mono bG.out.size)⟩
    ·have ov:=Rn (l:=l) (k:=k) (v:=z) (i:=i) (j:=i) (by omega) au (fun x hx=>by rw[du]at hx;injection hx with hx;subst hx;exact nu) (by rw[du];simp[sC])
     obtain⟨fu,D6⟩:=hZ2 ov hx;obtain⟨r0,r1⟩:=r;simp only at x0 x1 hk sC;have D7:(r0==k)=false:=beq_eq_false_iff_ne.2 sC;clear hi hO hB au sA sB hx bJ du aD cL ov nu;have kf:=cj;have fv:=qid (show(II l k z).length=i1+(l.length-i) by rw[←fu.out];have:=cj.out;have:=aQ.out;simp;omega)
     have gp:=qid (show rcs (II l k z)=rcs (l.take i)++(rcs [(k,z)]++rcs (l.drop i)) by rw[←fu.out,oF,oF,List.append_assoc])
     have nw:(i:Int)≤(l.length:Int):=by omega
     have nJ:¬(cap=i):=by have:=cj.out;have:=dv.out;omega
     have wy:¬(cap-i=0):=by have:=cj.out;have:=dv.out;omega
     go_wp2_with fail
     go_quiet (fail)
     go_wp2_with (at_builtin;refine wpList_append_lies _ rfl _ _ 39 rfl W0.heap.size 57 i31 (.agg #[.int .i64 0,.int .i64 0]) 2 16 ak bW cP cN cR rfl (by decide) (.slice gJ i gK) i (rcs (l.take i)) rfl ((aS HO.out (el _ _ nq)).alloc _) ⟨wr.heap.size,0,none⟩ 1 1 (rcs [(k,z)]) rfl rfl ?e21 (Gu _) (by decide) ?e22 ?e23 ?e24 _ rfl ?_)
     all_goals first
      |exact IW (heap_alloc_new (wr.drewN nq) _)
      |(have:=HI.out;have:=HL.out;unfold maxLen;omega)
      |(have:=HI.out;have:=HL.out;omega)
      |(have:=HB.out.size;simp;omega)
      |skip
     intro g9 bN w9 aB aM af cE;have aP:=((HB.out.trans (el W0.heap.size wr nq)).alloc (HB.out.trans (el W0.heap.size wr nq)).size (.cells #[.int .i64 k,.int .i64 z] 57)).grown aM (by have:=HB.out.size;simp;omega) (fun k hk=>(HO.out.lt k hk).1)
     obtain⟨cX,cI⟩:=hZ2 aB aP;have lj:=HK.out.below aP HK.out.lt;have xv:w9.cell? ⟨w.heap.size,0,none⟩=some (.int .i64 k):=lj.cell 0;clear aB aM af aP lj;have x9:w9.cell? ⟨b,off+i*2,none⟩=some (.int .i64 r0):=((HH.out.below cI.out).inv_at tQ.out rfl).1;go_wp2_with fail
     go_quiet (fail)
     have tq:Below W0.heap.size W0 (w9.drewN nq):=cI.out.trans (el _ _ _);have ny:=qid (PH i (HH.out.below tq));clear tq;go_wp2_with (at_builtin;refine wpList_append_lies _ rfl _ _ 39 rfl W0.heap.size 57 i31 (.agg #[.int .i64 0,.int .i64 0]) 2 16 ak bW cP cN cR rfl (by decide) _ _ _ rfl (aS cX.out (el _ _ nq)) ⟨b,off+i*2,none⟩ (l.length-i) (cap-i) (rcs (l.drop i)) rfl ?e25 ny.out (Gu _) ?e26 ?e27 ?e28 ?e29 _ rfl ?_)
     all_goals first
      |(rw[JB,List.length_drop];done)
      |(have:=kf.out;omega)
      |(have:=kf.out;have:=HL.out;have:=HI.out;unfold maxLen;omega)
      |(have:=kf.out;have:=HL.out;have:=HI.out;omega)
      |(have:=cI.out.size;simp;omega)
      |skip
     intro g8 nz w8 ay ef eS o5;have dJ:=(cI.out.trans (el W0.heap.size w9 nq)).grown ef (by have:=cI.out.size;simp;omega) (fun k hk=>(cX.out.lt k hk).1)
     obtain⟨lr,lK⟩:=hZ2 ay dJ;clear ay ef eS dJ;go_wp2;go_ret;exact⟨_,rfl,i7 (OR.of lr.out fv.out gp.out) bG.out.size,bG.out.trans (lK.out.mono bG.out.size)⟩
def WS(v:Value)(l:List Rw)(D:List Rw×Int)(w:World)(e:Ending)(w':World):Prop:=∃u,e=.returned (.tuple #[u,.int .i64 D.2])∧(OR w.heap.size w' u D.1∨(u=v∧D.1=l))∧Below w.heap.size w w'
theorem Mv(v:Value)(l:List Rw)(K:Int)(G:List Rw)(hG:Hk true K l=G)(w:World)(h:RR w v l)(hl:l.length≤1000000):
  Calls Tryz.prog 85 #[v,.agg #[.int .i64 0,.string ⟨#[]⟩,.int .i64 K,.int .i64 0,.bool true]] w (OG G w):=by
 subst hG;exact PG v l 0 ⟨#[]⟩ K 0 true w h hl
theorem OH(v:Value)(l:List Rw)(k z:Int)(G:List Rw)(hG:II l k z=G)(w:World)(h:RR w v l)(hl:l.length≤1000000):
  Calls Tryz.prog 107 #[v,.agg #[.int .i64 k,.int .i64 z]] w (OG G w):=by
 subst hG;exact WR v l k z w h hl
theorem qbz(v:Value)(l:List Rw)(kd:Int)(n:ByteArray)(K V:Int)(kb:Bool)(G:List Rw)(hG:JU kb K l=G)(w:World)(h:RR w v l)(hl:l.length≤1000000):
  Calls Tryz.prog 108 #[v,.agg #[.int .i64 kd,.string n,.int .i64 K,.int .i64 V,.bool kb]] w (OG G w):=by
 subst hG;exact Zn v l kd n K V kb w h hl
theorem Zo(v:Value)(l:List Rw)(n:ByteArray)(K V:Int)(kb:Bool)(w:World)(h:RR w v l)(hl:l.length≤1000000):
  Calls Tryz.prog 86 #[v,.agg #[.int .i64 2,.string n,.int .i64 K,.int .i64 V,.bool kb]] w (WS v l (KY 2 K V kb l) w):=by
 obtain⟨D,hD⟩:∃D,KY 2 K V kb l=D:=⟨_,rfl⟩;rw[hD];have HD:=qid hD;clear hD;have hC:KY 2 K V kb l=if Hk true K l=[]∧64≤l.length then(l,11)else(II l K V,0):=if_pos rfl
 have HC:=qid hC;clear hC;obtain⟨W0,aH⟩:∃W0,w.alloc (.cells #[.int .i64 2,.string n,.int .i64 K,.int .i64 V,.bool kb] 34)=W0:=⟨_,rfl⟩;have bD:Below w.heap.size w W0:=by rw[←aH];exact(Below.refl _ _).alloc (Nat.le_refl _) _
 have cD:Blk W0 w.heap.size 34 (go (2,n,K,V,kb)):=by rw[←aH];exact Blk.new _ _ _
 have bG:=qid bD;have HH:=qid (h.below bD);obtain⟨G,hG⟩:∃G,Hk true K l=G:=⟨_,rfl⟩;have ow:Hid (Hk true K l=G):=qid hG;have j8:=qid (fun v W hW=>Mv v l K G hG W hW hl)
 obtain⟨a,cap,rfl⟩:=h.form;obtain⟨y0,y1,y2,y3,y4⟩:=aC _ cD;obtain⟨HK,HL⟩:=hZ2 cD hl;clear h hl bD cD hG;go_enter Tryz.func86,Tryz.ntmps86;go_wp2_with fail;clear aH;refine(j8.out _ _ HH.out).mono ?_;rintro e w2 ⟨vg,rfl,hO,aA⟩;have aL:=qid (bG.out.trans (aA.mono bG.out.size));have ek:=qid (HH.out.below aA);obtain⟨dB,xx⟩:=hZ2 hO hO.rr;clear y0 y1 y2 y3 y4;obtain⟨y0,y1,y2,y3,y4⟩:=aC (2,n,K,V,kb) (HK.out.below aA HK.out.lt);have dQ:=qid (HK.out.below aA HK.out.lt);obtain⟨ga,gc,rfl⟩:=Ac hO;clear hO aA
 cases hg:G with
 |nil=>
  subst hg
  by_cases eZ:64≤l.length
  ·have ko:(64:Int)≤(l.length:Int):=by omega
   have fM:=qid (show D=(l,11) by rw[←HD.out,HC.out];exact if_pos ⟨ow.out,eZ⟩)
   clear eZ;go_wp2
   go_ret2
   rw[fM.out];exact⟨_,rfl,.inr ⟨rfl,rfl⟩,aL.out⟩
  ·have ko:¬((64:Int)≤(l.length:Int)):=by omega
   have fM:=qid (show D=(II l K V,0) by rw[←HD.out,HC.out];exact if_neg (fun h=>eZ h.2))
   clear eZ;go_wp2_with fail;refine(OH _ l K V _ rfl _ ek.out HL.out).mono ?_;rintro e w3 ⟨vp,rfl,kL,aG⟩;have aO:=qid (aL.out.trans (aG.mono aL.out.size));have dt:=qid (i7 kL aL.out.size);clear kL aG;go_wp2
   go_ret2
   rw[fM.out];exact⟨_,rfl,.inl dt.out,aO.out⟩
 |cons r0 xy=>
  have ln:¬((G.length:Int)=0):=by rw[hg];simp;omega
  have nJ:¬(G.length=0):=by rw[hg];simp
  have fM:=qid (show D=(II l K V,0) by rw[←HD.out,HC.out];exact if_neg (fun h=>by rw[ow.out,hg]at h;cases h.1))
  clear hg;go_wp2_with fail;refine(OH _ l K V _ rfl _ ek.out HL.out).mono ?_;rintro e w3 ⟨vp,rfl,kL,aG⟩;have aO:=qid (aL.out.trans (aG.mono aL.out.size));have dt:=qid (i7 kL aL.out.size);clear kL aG;go_wp2
  go_ret2
  rw[fM.out];exact⟨_,rfl,.inl dt.out,aO.out⟩
theorem Zp(v:Value)(l:List Rw)(n:ByteArray)(K V:Int)(kb:Bool)(w:World)(h:RR w v l)(hl:l.length≤1000000)(hv:∀r∈l,inI r.2):
  Calls Tryz.prog 86 #[v,.agg #[.int .i64 3,.string n,.int .i64 K,.int .i64 V,.bool kb]] w (WS v l (KY 3 K V kb l) w):=by
 obtain⟨D,hD⟩:∃D,KY 3 K V kb l=D:=⟨_,rfl⟩;rw[hD];have HD:=qid hD;clear hD;have hC:KY 3 K V kb l=(match Hk true K l with| []=>(l,0)|r::_=>if 999999≤r.2 then(l,2)else(II l K (r.2+1),0)):=by unfold KY;rw[if_neg (by decide),if_pos rfl];all_goals rfl
 obtain⟨HC,HV⟩:=hZ2 hC hv;clear hv hC;obtain⟨W0,aH⟩:∃W0,w.alloc (.cells #[.int .i64 3,.string n,.int .i64 K,.int .i64 V,.bool kb] 34)=W0:=⟨_,rfl⟩;have bD:Below w.heap.size w W0:=by rw[←aH];exact(Below.refl _ _).alloc (Nat.le_refl _) _
 have cD:Blk W0 w.heap.size 34 (go (3,n,K,V,kb)):=by rw[←aH];exact Blk.new _ _ _
 have bG:=qid bD;have HH:=qid (h.below bD);obtain⟨G,hG⟩:∃G,Hk true K l=G:=⟨_,rfl⟩;have ow:Hid (Hk true K l=G):=qid hG;have j8:=qid (fun v W hW=>Mv v l K G hG W hW hl)
 obtain⟨a,cap,rfl⟩:=h.form;obtain⟨y0,y1,y2,y3,y4⟩:=aC _ cD;obtain⟨HK,HL⟩:=hZ2 cD hl;clear h hl bD cD hG;go_enter Tryz.func86,Tryz.ntmps86;go_wp2_with fail;clear aH;refine(j8.out _ _ HH.out).mono ?_;rintro e w2 ⟨vg,rfl,hO,aA⟩;have aL:=qid (bG.out.trans (aA.mono bG.out.size));have ek:=qid (HH.out.below aA);obtain⟨dB,xx⟩:=hZ2 hO hO.rr;clear y0 y1 y2 y3 y4;obtain⟨y0,y1,y2,y3,y4⟩:=aC (3,n,K,V,kb) (HK.out.below aA HK.out.lt);have dQ:=qid (HK.out.below aA HK.out.lt);obtain⟨ga,gc,rfl⟩:=Ac hO;clear hO aA
 cases hg:G with
 |nil=>
  subst hg;have fM:=qid (show D=(l,0) by rw[←HD.out,HC.out,ow.out])
  go_wp2
  go_ret2
  rw[fM.out];exact⟨_,rfl,.inr ⟨rfl,rfl⟩,aL.out⟩
 |cons r0 xy=>
  have ln:¬((G.length:Int)=0):=by rw[hg];simp;omega
  have nJ:¬(G.length=0):=by rw[hg];simp
  have fZ:r0∈l:=(List.mem_filter.1 (by show r0∈Hk true K l;rw[ow.out,hg];exact List.mem_cons_self ..)).1
  have eO:=HV.out r0 fZ;have gh:G[0]? =some r0:=by rw[hg];rfl
  have lL:=xx.out;obtain⟨b,off,cp,he,cL,hx⟩:=lL.inv (by rw[hg];exact Nat.succ_pos _)
  injection he with ea _ ec;subst ea ec;obtain⟨x0,x1⟩:=hx 0 r0 gh;rw[Nat.zero_mul,Nat.add_zero]at x0 x1;have lp:(0:Int)<(G.length:Int):=by rw[hg];simp
  obtain⟨k0,k1⟩:=r0;simp only at x0 x1 eO;unfold inI at eO;have wa:IntKind.i64.wrap (k1+1)=k1+1:=IntWalk.i64_in _ (by omega)
  by_cases h9:999999≤k1
  ·have fM:=qid (show D=(l,2) by rw[←HD.out,HC.out,ow.out,hg];exact if_pos h9)
   clear fZ eO hg gh lL cL hx;go_wp2
   go_ret2
   rw[fM.out];exact⟨_,rfl,.inr ⟨rfl,rfl⟩,aL.out⟩
  ·have fM:=qid (show D=(II l K (k1+1),0) by rw[←HD.out,HC.out,ow.out,hg];exact if_neg h9)
   have HX:=qid (World.block_lt_of_cell? _ _ x1);have bX:=qid x1;clear fZ eO hg gh lL cL hx;go_wp2_with fail;refine wp_region_held_drew (S:=(fun w'=>Below w2.heap.size w2 w')) (by kernel_rfl) ?_ (fun hS=>?_)
   ·exact(Below.refl _ _).drew
   try dsimp only at hS
   refine tkY 0 ?_ rfl hS ?_ ?_;rotate_left
   ·intro wz a8;have ab:=bcl a8 HX.out bX.out;obtain⟨y0,y1,y2,y3,y4⟩:=aC (3,n,K,V,kb) (dQ.out.below a8 (Blk.lt dQ.out));go_simp;all_goals with_reducible rfl
   iterate 8 ((try simp only[Act.put,pu]);refine tkM ?_ rfl hS ?_ ?_;rotate_left;(·intro wz a8;have ab:=bcl a8 HX.out bX.out;obtain⟨y0,y1,y2,y3,y4⟩:=aC (3,n,K,V,kb) (dQ.out.below a8 (Blk.lt dQ.out));go_simp;all_goals with_reducible rfl))
   try simp only[Act.put,pu]
   refine wpAnyH_ready (rs:=[9]) (by kernel_rfl) (by simp) (AllReadyH.cons rfl (fun K' hK=>?_) AllReadyH.nil)
   go_simp;refine(OH _ l K (k1+1) _ rfl _ (ek.out.below hS) HL.out).mono ?_;rintro e w8 ⟨vp,rfl,kL,bL⟩;refine hK.out _ _ ?_ (fun aF=>?_)
   ·exact hS.trans (bL.mono hS.size)
   have dt:=qid (i7 kL (Nat.le_trans aL.out.size hS.size));clear hK K' hS bL kL;have hS:=aF;clear aF
   try dsimp only at hS
   (try simp only[Act.put,pu]);refine tkY 10 ?_ rfl hS ?_ ?_;rotate_left
   ·intro wz a8;have ab:=bcl a8 HX.out bX.out;obtain⟨y0,y1,y2,y3,y4⟩:=aC (3,n,K,V,kb) (dQ.out.below a8 (Blk.lt dQ.out));go_simp;all_goals with_reducible rfl
   (try simp only[Act.put,pu]);refine tkY 11 ?_ rfl hS ?_ ?_;rotate_left
   ·intro wz a8;have ab:=bcl a8 HX.out bX.out;obtain⟨y0,y1,y2,y3,y4⟩:=aC (3,n,K,V,kb) (dQ.out.below a8 (Blk.lt dQ.out));go_simp;all_goals with_reducible rfl
   try simp only[Act.put,pu]
   refine wpAnyH_done (by kernel_rfl) ?_ _
   go_wp2
   go_ret2
   rw[fM.out];exact⟨_,rfl,.inl dt.out,aL.out.trans (hS.mono aL.out.size)⟩
theorem Zq(v:Value)(l:List Rw)(kd:Int)(n:ByteArray)(K V:Int)(kb:Bool)(w:World)(h:RR w v l)(hl:l.length≤1000000)(h2:kd≠2)(h3:kd≠3):
  Calls Tryz.prog 86 #[v,.agg #[.int .i64 kd,.string n,.int .i64 K,.int .i64 V,.bool kb]] w (WS v l (KY kd K V kb l) w):=by
 obtain⟨D,hD⟩:∃D,KY kd K V kb l=D:=⟨_,rfl⟩;rw[hD];have HD:=qid hD;clear hD;have hC:KY kd K V kb l=(JU kb K l,0):=by unfold KY;rw[if_neg h2,if_neg h3]
 have fM:=qid (show D=(JU kb K l,0) by rw[←HD.out,hC])
 have n2:(kd==2)=false:=beq_eq_false_iff_ne.2 h2;have n3:(kd==3)=false:=beq_eq_false_iff_ne.2 h3;clear hC;obtain⟨W0,aH⟩:∃W0,w.alloc (.cells #[.int .i64 kd,.string n,.int .i64 K,.int .i64 V,.bool kb] 34)=W0:=⟨_,rfl⟩;have bD:Below w.heap.size w W0:=by rw[←aH];exact(Below.refl _ _).alloc (Nat.le_refl _) _
 have cD:Blk W0 w.heap.size 34 (go (kd,n,K,V,kb)):=by rw[←aH];exact Blk.new _ _ _
 have bG:=qid bD;have HH:=qid (h.below bD);obtain⟨G,hG⟩:∃G,Hk true K l=G:=⟨_,rfl⟩;have ow:Hid (Hk true K l=G):=qid hG;have j8:=qid (fun v W hW=>Mv v l K G hG W hW hl)
 obtain⟨a,cap,rfl⟩:=h.form;obtain⟨y0,y1,y2,y3,y4⟩:=aC _ cD;obtain⟨HK,HL⟩:=hZ2 cD hl;clear h hl bD cD hG;go_enter Tryz.func86,Tryz.ntmps86;go_wp2_with fail;clear aH;refine(j8.out _ _ HH.out).mono ?_;rintro e w2 ⟨vg,rfl,hO,aA⟩;have aL:=qid (bG.out.trans (aA.mono bG.out.size));have ek:=qid (HH.out.below aA);obtain⟨dB,xx⟩:=hZ2 hO hO.rr;clear y0 y1 y2 y3 y4;obtain⟨y0,y1,y2,y3,y4⟩:=aC (kd,n,K,V,kb) (HK.out.below aA HK.out.lt);have dQ:=qid (HK.out.below aA HK.out.lt);obtain⟨ga,gc,rfl⟩:=Ac hO;clear hO aA;go_wp2_with fail;refine(qbz _ l kd n K V kb _ rfl _ ek.out HL.out).mono ?_;rintro e w3 ⟨vp,rfl,kL,aG⟩;have aO:=qid (aL.out.trans (aG.mono aL.out.size));have dt:=qid (i7 kL aL.out.size);clear kL aG;go_wp2
 go_ret2
 rw[fM.out];exact⟨_,rfl,.inl dt.out,aO.out⟩
theorem PI(v:Value)(l:List Rw)(kd:Int)(n:ByteArray)(K V:Int)(kb:Bool)(w:World)(h:RR w v l)(hl:l.length≤1000000)(hv:∀r∈l,inI r.2):
  Calls Tryz.prog 86 #[v,.agg #[.int .i64 kd,.string n,.int .i64 K,.int .i64 V,.bool kb]] w (WS v l (KY kd K V kb l) w):=by
 by_cases h2:kd=2
 ·subst h2;exact Zo v l n K V kb w h hl
 ·by_cases h3:kd=3
  ·subst h3;exact Zp v l n K V kb w h hl hv
  ·exact Zq v l kd n K V kb w h hl h2 h3
end Go.Proofs.YtpgddamhdfmdjaaGreatDoor
