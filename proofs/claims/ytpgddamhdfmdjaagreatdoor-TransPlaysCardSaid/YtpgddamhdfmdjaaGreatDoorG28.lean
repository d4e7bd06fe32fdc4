/- Tav Tch Tci Tcj Dp Tck Tcl Tcm Tcn Tco Tcp -/
import Derived.Test.YtpgddamhdfmdjaaGreatDoorG22
import Derived.Test.YtpgddamhdfmdjaaGreatDoorG23
import Derived.Test.YtpgddamhdfmdjaaGreatDoorG5
import Derived.Test.YtpgddamhdfmdjaaGreatDoorG27
import Derived.Test.YtpgddamhdfmdjaaGreatDoorG21
import Derived.Test.YtpgddamhdfmdjaaGreatDoorG19
import Derived.Test.YtpgddamhdfmdjaaGreatDoorG20
import Derived.Test.YtpgddamhdfmdjaaGreatDoorG26
import Derived.Shelf.SlMaps.Clone
import Derived.Test.YtpgddamhdfmdjaaGreatDoorG1
set_option linter.unusedSimpArgs false
set_option linter.unusedVariables false
set_option maxRecDepth 100000
set_option maxHeartbeats 16000000
namespace Go.Proofs.YtpgddamhdfmdjaaGreatDoor
open Go.ChangeShapes Go.WideShapes Go.ChangeAt Go.RowKit Go.ChangeMaps
theorem TS.srt{w:World}{v:Value}{d:List ByteArray}(h:SL.TS w v d):SRT w v (d.map fun x=>x.data.toList):=by
 rcases h with⟨A,cap,rfl,rfl⟩|⟨g,off,cap,rfl,hc,hx⟩
 ·exact .inl ⟨_,_,rfl,rfl⟩
 ·refine .inr ⟨g,off,cap,by rw[List.length_map],by rw[List.length_map];exact hc,fun i x hi=>?_⟩
  rw[List.getElem?_map]at hi
  cases hd:d[i]? with
  |none=>rw[hd]at hi;cases hi
  |some y=>
   rw[hd]at hi;injection hi with hi;subst hi;rw[hx i y hd]
theorem Vo{d e:List ByteArray}:(d.map fun x=>x.data.toList)=(e.map fun x=>x.data.toList)↔d=e:=by
 constructor
 ·intro h
  induction d generalizing e with
  |nil=>cases e with
   |nil=>rfl
   |cons a e=>simp at h
  |cons a d ih=>cases e with
   |nil=>simp at h
   |cons b e=>
    rw[List.map_cons,List.map_cons]at h;injection h with h1 h2;rw[MV.ba_of h1,ih h2]
 ·rintro rfl;rfl
theorem XM(v1 v2:Value)(d e:List ByteArray)(R:Bool)(hR:decide (d=e)=R)(w:World)(h1:SL.TS w v1 d)(h2:SL.TS w v2 e)(hl:d.length≤1000000)(gy:e.length≤1000000):
  Calls Tryz.prog 18 #[v1,v2] w fun r w'=>r=.returned (.bool R)∧Below w.heap.size w w':=by
 subst hR;refine(MU v1 v2 _ _ w (TS.srt h1) (TS.srt h2) (by rw[List.length_map];omega) (by rw[List.length_map];omega)).mono ?_
 rintro r w' ⟨rfl,n,rfl⟩;refine⟨?_,SL.below_drewN _ _ _⟩
 congr 2
 exact decide_eq_decide.2 Vo
theorem XN(v1 v2:Value)(l m:List Rw)(R:Bool)(hR:decide (l=m)=R)(w:World)(h1:RR w v1 l)(h2:RR w v2 m)(hl:l.length≤1000000):
  Calls Tryz.prog 13 #[v1,v2] w fun r w'=>r=.returned (.bool R)∧Below w.heap.size w w':=by
 subst hR;refine(Oc v1 v2 l m w h1 h2 hl).mono ?_;rintro r w' ⟨rfl,n,rfl⟩;exact⟨rfl,SL.below_drewN _ _ _⟩
theorem RT(v:Value)(s:List Tb)(b:Bool)(hb:IL s=b)(w:World)(h:SR w v s):
  Calls Tryz.prog 4 #[v] w fun e w'=>e=.returned (.bool b)∧Below w.heap.size w w':=by
 refine(Si v s w h).mono ?_;rintro e w' ⟨he,n,rfl⟩;exact⟨by rw[he,hb],SL.below_drewN _ _ _⟩
theorem TJ(v:Value)(s:List Tb)(b:Bool)(hb:wt s=b)(hf:IK s)(w:World)(h:SR w v s):
  Calls Tryz.prog 27 #[v] w fun e w'=>e=.returned (.bool b)∧Below w.heap.size w w':=by
 have:=RS v s w h hf;rw[hb]at this;exact this
theorem Z3{s:List Tb}(h:IK s):qcS s:=⟨h.1,fun t ht=>(h.2 t ht).2⟩
theorem XO(v1 v2:Value)(s t:List Tb)(R:Bool)(hR:decide (s=t)=R)(hf:IK s)(w:World)(h1:SR w v1 s)(h2:SR w v2 t):Calls Tryz.prog 14 #[v1,v2] w fun e w'=>e=.returned (.bool R)∧Below w.heap.size w w':=by
 subst hR;refine(VM v1 v2 s t w h1 h2 (Z3 hf)).mono ?_;rintro e w' ⟨he,n,rfl⟩;exact⟨he,SL.below_drewN _ _ _⟩
theorem OT.kc{B:Nat}{w w':World}{v:Value}{d:List ByteArray}(h:SL.OT B w v d)(hk:Kc w w'):SL.OT B w' v d:=h.keep fun g hg=>by
 obtain⟨cur,hc⟩:=m9 h hg;exact(hk g cur _ _ (by decide) (by decide) hc).trans hc.symm
theorem I0{w w':World}{g:Nat}{t:TypeId}{cs:Array Value}(h:SL.Bk w g t cs)(hk:Kc w w')(h1:t≠62)(h2:t≠68):SL.Bk w' g t cs:=hk g cs t _ h1 h2 h
theorem MX{s:List Tb}(h:IL s=true):IK s:=by
 unfold IL at h;rw[Bool.and_eq_true,decide_eq_true_eq,List.all_eq_true]at h;refine⟨by omega,fun t ht=>?_⟩
 have:=h.2 t ht;unfold M7 at this;rw[Bool.and_eq_true,decide_eq_true_eq,decide_eq_true_eq]at this;omega
theorem OT.ln{B:Nat}{w:World}{v:Value}{d:List ByteArray}(h:SL.OT B w v d):∃a c,v=.slice a d.length c:=by
 rcases h.2 with⟨rfl,hz⟩|⟨g,cap,cur,rfl,_⟩
 ·exact⟨none,0,by rw[hz]⟩
 ·exact⟨_,_,rfl⟩
theorem Vp(w:World):Calls Tryz.prog 23 #[] w fun e w'=>∃v,e=.returned v∧SR w' v [(⟨#[116]⟩,[])]∧Below w.heap.size w w':=by
 go_enter Tryz.func23,Tryz.ntmps23;go_wp2;go_ret;have hk:SL.Bk (w.alloc (.cells #[.string ⟨#[116]⟩,.slice none 0 0] 55)) w.heap.size 55 #[.string ⟨#[116]⟩,.slice none 0 0]:=SL.Bk.new _ _ _;refine⟨_,rfl,.inr ⟨w.heap.size,0,1,rfl,by simp,fun i t hi=>?_⟩,(Below.refl _ _).alloc (Nat.le_refl _) _⟩
 cases i with
 |zero=>
  simp at hi;subst hi;exact⟨hk.cell 0,.slice none 0 0,hk.cell 1,.inl ⟨_,_,rfl,rfl⟩⟩
 |succ i=>simp at hi
theorem Z4:(Tryz.prog.info? 9).map (fun i=>(i.zero,i.size,i.bytes))=some (some (.string ByteArray.empty),1,16):=by kernel_rfl
theorem qdi:∃i,Tryz.prog.info? 9=some i∧i.zero=some (.string ByteArray.empty)∧i.size=1∧i.bytes=16:=by
 have h:=Z4
 cases e:Tryz.prog.info? 9 with
 |none=>rw[e]at h;cases h
 |some i=>
  rw[e]at h;simp only[Option.map_some,Option.some.injEq,Prod.mk.injEq]at h;exact⟨i,rfl,h.1,h.2.1,h.2.2⟩
theorem qbQ:Tryz.prog.underlying 50=some (.slice 9):=Tryz.underlying50
theorem TK{W:World}{g:Nat}{a:Value}{t:TypeId}(h:Blk W g t #[a]):∀j u,[a][j]? =some u→W.cell? ((⟨g,0,none⟩:Addr).add j)=some u:=by
 intro j u hj;rw[Addr.add_lit,Nat.zero_add];rw[h.cell j]
 simpa using hj
theorem RU(B:Nat)(w:World)(g:Nat)(S:List Tb)(x:List Sv)(h:RD B w g S x)(hx:x.length≤100000)(id:Int)(k:Nat)(hI:ce (dbS S (sns x)) k)(bA:k≤90000)(R:List ByteArray)(hR:(JW ((dbS S (sns x)).2 id)).map (·.1)=R):
  Calls Tryz.prog 20 #[SL.ptr g,.int .i64 id] w (Zw R w):=by
 obtain⟨i50,zA,zB,zC,zD⟩:=qdi;have vS:=qbQ;obtain⟨cv,sv,hk,bU,ho⟩:=h.at_;obtain⟨sa,sc,rfl⟩:=jp ho;have y1:w.cell? ⟨g,1,none⟩=some (.slice sa x.length sc):=hk.cell 1;have HF:=qid (m7 B w g S x h hx id);obtain⟨HO,HH,HK⟩:=hZ3 ho h hk;have HI:Hid (ce (dbS S (sns x)) k):=qid hI;have fO:=qid bA;clear h ho hk bU hI bA;go_enter Tryz.func20,Tryz.ntmps20;go_wp2_with fail;refine HF.out.mono ?_;rintro e w' ⟨⟨r,rfl,hr⟩,rfl⟩;rcases hr with⟨i,al,rfl⟩|⟨hn,rfl⟩
 ·have dS:=al
  obtain⟨⟨s,az,bC⟩,_⟩:=dS;obtain⟨v,hv⟩:=JG az;have bw:i<x.length:=(List.getElem?_eq_some_iff.1 hv).1;obtain⟨sg,cap,he,cL,_,dE⟩:=Hv HO.out (by omega)
  injection he with ea _ ec;subst ea ec;obtain⟨_,_,z2⟩:=dE i _ hv;have eU:=qid (HH.out.rows _ (List.mem_of_getElem? hv));obtain⟨s0,s1,T⟩:=s;have bC:s0=id:=bC;subst bC;have jY:=qid (RK HI.out al az);have eU:Hid (SQ w v T):=eU;obtain⟨ta,tc,rfl⟩:=eU.out.form;have z2:w.cell? ⟨sg,i*3+2,none⟩=some (.slice ta T.length tc):=z2;have hR:T.map (·.1)=R:=by
   rw[←hR];unfold dbS;rw[show(S,dO (sns x)).2 s0=some (s1,T)from I7 al az]
   rfl
  subst hR;have l3:(i:Int)<(x.length:Int):=by omega
  have l4:(0:Int)≤(i:Int):=by omega
  have kK:Hid (T.length≤90000):=qid (Nat.le_trans jY.out.2 fO.out);obtain⟨Y1,Z2⟩:=hZ2 y1 z2;clear dE hv az al bw y1 z2;go_wp2
  go_loopg [5,7] T.length (fun gk u5 u7 wr=>∃(j:Nat) (d:List ByteArray),u7=.int .i64 (j:Int)∧j+gk=T.length∧Hid (d=(T.take j).map (·.1))∧Hid (SL.OT w.heap.size wr u5 d)∧Hid (Below w.heap.size w wr))
  case atStart=>exact⟨0,[],rfl,by omega,qid rfl,qid (SL.OT.nil _ _),qid (Below.refl _ _)⟩
  case round=>
   obtain⟨j,d,rfl,hj,hd,xN,hb⟩:=hrel;obtain⟨a5,c5,rfl⟩:=OT.ln xN.out;have y1:=(hb.out.cell (p:=⟨g,1,none⟩) (World.block_lt_of_cell? w _ Y1.out)).trans Y1.out;have z2:=(hb.out.cell (p:=⟨sg,i*3+2,none⟩) (World.block_lt_of_cell? w _ Z2.out)).trans Z2.out
   by_cases dk:j<T.length
   ·have m1:(j:Int)<(T.length:Int):=by omega
    have m0:(0:Int)≤(j:Int):=by omega
    obtain⟨j1,gW⟩:∃j1,j+1=j1:=⟨_,rfl⟩;have wk:IntKind.i64.wrap ((j:Int)+1)=(j1:Int):=by rw[show(j:Int)+1=(j1:Int) by omega];exact IntWalk.i64_in _ (by have:=kK.out;omega)
    have eD:Hid (j1+(gk-1)=T.length∧gk-1<gk):=qid (by omega)
    obtain⟨tg,off,cap,he,cL,X,hX,dE⟩:=(eU.out.bel hb.out).tv (by omega)
    injection he with ea _ ec;subst ea ec;obtain⟨t,ht⟩:∃t,T[j]? =some t:=⟨T[j],List.getElem?_eq_getElem dk⟩;obtain⟨u,hu⟩:=IX X j t (by rw[hX];exact ht)
    obtain⟨x0,_,_⟩:=dE j _ hu;obtain⟨nm,rs⟩:=t;have x0:wr.cell? ⟨tg,off+j*2,none⟩=some (.string nm):=x0;have xO:Hid (d++[nm]=(T.take j1).map (·.1)):=qid (by rw[hd.out,←gW,List.take_add_one,ht,List.map_append];rfl)
    have nO:Hid (d.length=j):=qid (by rw[hd.out,List.length_map,List.length_take];omega)
    have HJ:=qid dk;obtain⟨W1,cF⟩:∃W,wr.alloc (.cells #[.string nm] 9)=W:=⟨_,rfl⟩;have b1:Below wr.heap.size wr W1:=by rw[←cF];exact(Below.refl _ _).alloc (Nat.le_refl _) _
    have k1:Blk W1 wr.heap.size 9 #[.string nm]:=by rw[←cF];exact Blk.new _ _ _
    obtain⟨aX,cC⟩:=hZ2 b1 k1;have vT:=aS xN.out b1;have rA:=qid vT;clear dE hu ht hX dk hj gW b1 k1 vT xN hd;go_wp2_with (at_builtin;(try rw[cF]);refine wpList_append_lies _ rfl _ _ 50 rfl w.heap.size 9 i50 (.string ByteArray.empty) 1 16 vS zA zB zC zD rfl (by decide) _ _ _ rfl rA.out ⟨wr.heap.size,0,none⟩ 1 1 [.string nm] rfl rfl ?c1 ?c2 (by decide) ?c3 ?c4 ?c5 _ rfl ?_)
    all_goals first
     |exact TK cC.out
     |(intro j u hj;have dI:=TK cC.out j u hj;rw[Addr.add_lit,Nat.zero_add]at dI;exact dI)
     |(intro q hq;simp at hq;subst hq;rfl)
     |rfl
     |(have:=nO.out;have:=HJ.out;have:=kK.out;unfold maxLen;omega)
     |(have:=nO.out;have:=HJ.out;have:=kK.out;omega)
     |(have:=aX.out.size;have:=hb.out.size;omega)
     |skip
    intro g9 bN w9 aB aM af cE;have kj:Below w.heap.size w w9:=(hb.out.trans (aX.out.mono hb.out.size)).grown aM (by have:=aX.out.size;have:=hb.out.size;omega) (fun k hk=>(rA.out.lt k hk).1)
    obtain⟨cI,cX⟩:=hZ2 kj aB;clear aB aM af cE kj y1 z2 x0 cF;go_wp2;go_roundg (gk-1)
    case measure=>exact eD.out.2
    case rel=>exact⟨j1,d++[nm],rfl,eD.out.1,xO,qid (by unfold SL.OT;rw[List.length_append,List.map_append];exact cX.out),cI⟩
   ·have m1:¬((j:Int)<(T.length:Int)):=by omega
    have HE:Hid (d=T.map (·.1)):=qid (by rw[hd.out,List.take_of_length_le (by omega)])
    clear dk hj hd;go_wp2;go_ret;exact⟨_,rfl,by rw[←HE.out];exact xN.out,hb.out⟩
 ·have hR: []=R:=by
   rw[←hR];unfold dbS;rw[show(S,dO (sns x)).2 id=none from hn]
   rfl
  subst hR;clear hn;go_wp2
  go_loopg [5,7] 0 (fun gk u5 u7 wr=>u7=.int .i64 0∧u5=.slice none 0 0∧wr=w)
  case atStart=>exact⟨rfl,rfl,rfl⟩
  case round=>
   obtain⟨rfl,rfl,rfl⟩:=hrel;go_wp2;go_ret;exact⟨_,rfl,SL.OT.nil _ _,Below.refl _ _⟩
def qdj(B:Nat)(s:List Tb)(w:World)(e:Ending)(w':World):Prop:=∃g,e=.returned (.tuple #[SL.ptr g,.int .i64 0])∧RD B w' g s []∧Below w.heap.size w w'
theorem Vq(B:Nat)(v:Value)(s:List Tb)(w:World)(h:SR w v s)(hf:IK s)(hr:wt s=true)(hB:B≤w.heap.size):
  Calls Tryz.prog 7 #[v] w (qdj B s w):=by
 obtain⟨HH,HF,HB⟩:=hZ3 h hf hB;have HR:=qid (TJ v s true hr hf w h);obtain⟨a,c,rfl⟩:=h.form;clear h hf hB hr;go_enter Tryz.func7,Tryz.ntmps7;go_wp2_with fail;refine HR.out.mono ?_;rintro e w1 ⟨rfl,hb⟩;have aX:=qid hb;clear hb;go_wp2_with fail;refine(Gp _ s w1 (HH.out.below aX.out) HF.out).mono ?_;rintro e w2 ⟨v2,x2,rfl,cJ,ht,hb⟩;have mM:=qid (cJ.sqE ht);have aL:=qid (aX.out.trans (hb.mono aX.out.size));obtain⟨d2,k2,rfl⟩:=mM.out.form;clear cJ ht hb;obtain⟨W3,fL⟩:∃W,w2.alloc (.cells #[.slice d2 s.length k2,.slice none 0 0] 47)=W:=⟨_,rfl⟩;obtain⟨g,hg⟩:∃g,w2.heap.size=g:=⟨_,rfl⟩;have b3:Below w2.heap.size w2 W3:=by rw[←fL];exact(Below.refl _ _).alloc (Nat.le_refl _) _
 have k3:SL.Bk W3 g 47 #[.slice d2 s.length k2,.slice none 0 0]:=by rw[←fL,←hg];exact SL.Bk.new _ _ _
 have mL:B≤g:=by rw[←hg];exact Nat.le_trans HB.out aL.out.size
 have jd:Hid (RD B W3 g s []):=qid ⟨⟨_,_,k3,mM.out.bel b3,World.ownsRow_nil _ _ _ _⟩,mL,fun t ht=>by simp at ht⟩
 have aO:=qid (aL.out.trans (b3.mono aL.out.size));clear b3 k3 mL;go_wp2_with fail
 try rw[fL]
 try rw[hg]
 go_ret2
 try rw[fL]
 try rw[hg]
 exact⟨g,rfl,jd.out,aO.out⟩
theorem lT.db{B:Nat}{w:World}{g:Nat}{cs:Array Value}(mL:B≤g)(hk:SL.Bk w g 47 cs):lT B w g:=⟨mL,_,_,_,.inl rfl,hk⟩
theorem RD.store2{B:Nat}{w:World}{g:Nat}{S:List Tb}{y:List Sv}(mL:B≤g){cv sv:Value}{v:Value}(hk:SL.Bk w g 47 #[cv,sv])(hq:SQ w cv S)(ho:w.ownsRow B 64 3 v y.length (scs y))(hr:∀s∈y,SQ w s.2.2.1 s.2.2.2):
  RD B (w.setCell ⟨g,1,none⟩ v) g S y∧SL.Chg (lT B w) w (w.setCell ⟨g,1,none⟩ v):=by
 have hc:SL.Chg (lT B w) w (w.setCell ⟨g,1,none⟩ v):=(SL.Chg.refl _ w).setCell (p:=⟨g,1,none⟩) (lT.db mL hk) v;refine⟨⟨⟨cv,v,hk.set_ 1 v,hq.kt (lT.kt hc),lE ho fun k bK=>Below.heap_setCell _ _ _ _ (fun e=>?_)⟩,mL,fun s hs=>(hr s hs).kt (lT.kt hc)⟩,hc⟩
 obtain⟨cur,cT⟩:=m9 ho bK;subst e;have:=hk.symm.trans cT;injection this with this;injection this with _ e _;exact absurd e (by decide)
theorem RD.storeS{B:Nat}{w:World}{g:Nat}{S S':List Tb}{x:List Sv}(h:RD B w g S x){v:Value}(hq:SQ w v S'):
  RD B (w.setCell ⟨g,0,none⟩ v) g S' x∧SL.Chg (lT B w) w (w.setCell ⟨g,0,none⟩ v):=by
 obtain⟨cv,sv,hk,_,ho⟩:=h.at_;have hc:SL.Chg (lT B w) w (w.setCell ⟨g,0,none⟩ v):=(SL.Chg.refl _ w).setCell (p:=⟨g,0,none⟩) h.own v;refine⟨⟨⟨v,sv,hk.set_ 0 v,hq.kt (lT.kt hc),lE ho fun k bK=>Below.heap_setCell _ _ _ _ (fun e=>?_)⟩,h.lo,fun s hs=>(h.rows s hs).kt (lT.kt hc)⟩,hc⟩
 obtain⟨cur,cT⟩:=m9 ho bK;subst e;have:=hk.symm.trans cT;injection this with this;injection this with _ e _;exact absurd e (by decide)
theorem Qr{S:List Tb}{ss:List Sn}{id:Int}(h:dO ss id=none):gE (dbS S ss) id=(dbS S ss,10):=by
 unfold gE;rw[show(dbS S ss).2 id=none from h]
theorem Vr{S:List Tb}{ss:List Sn}{id:Int}(h:dO ss id=none):Fr (dbS S ss) id=(dbS S ss,10):=by
 unfold Fr;rw[show(dbS S ss).2 id=none from h]
theorem RV{S:List Tb}{ss:List Sn}{id:Int}{p:Bool×List Tb}(h:dO ss id=some p):rW (dbS S ss) id=(dbS S ss,10):=by
 unfold rW;rw[show(dbS S ss).2 id=some p from h]
theorem Vs{S:List Tb}{ss:List Sn}{id:Int}{p:Bool×List Tb}(h:dO ss id=some p):Fr (dbS S ss) id=(IS (dbS S ss) id,0):=by
 unfold Fr;rw[show(dbS S ss).2 id=some p from h]
theorem RX{S:List Tb}{ss:List Sn}{id:Int}{T:List Tb}(h:dO ss id=some (true,T)):gE (dbS S ss) id=(IS (dbS S ss) id,13):=by
 unfold gE;rw[show(dbS S ss).2 id=some (true,T)from h]
theorem Vt{S:List Tb}{ss:List Sn}{id:Int}{T:List Tb}(h:dO ss id=some (false,T)):gE (dbS S ss) id=if 16<(nE S T).length then(IS (dbS S ss) id,11)else(IS (dbS (nE S T) ss) id,0):=by
 unfold gE;rw[show(dbS S ss).2 id=some (false,T)from h]
 rfl
theorem Vu(B:Nat)(w:World)(g:Nat)(S:List Tb)(x:List Sv)(h:RD B w g S x)(hB:B≤w.heap.size)(hx:x.length≤90000)(id:Int)(hn:dO (sns x) id=none):
  Calls Tryz.prog 37 #[SL.ptr g,.int .i64 id,.int .i64 4] w (M5 B g (x.length+1) (gE (dbS S (sns x)) id).1 (gE (dbS S (sns x)) id).2 w):=by
 rw[Qr hn];obtain⟨cv,sv,hk,bU,ho⟩:=h.at_;obtain⟨ca,cc,rfl⟩:=bU.form;obtain⟨sa,sc,rfl⟩:=jp ho;have y0:w.cell? ⟨g,0,none⟩=some (.slice ca S.length cc):=hk.cell 0;have y1:w.cell? ⟨g,1,none⟩=some (.slice sa x.length sc):=hk.cell 1;have HF:=qid (m7 B w g S x h (by omega) id)
 obtain⟨HO,HH,HK,eH,HX,HB⟩:=hZ6 ho h hk bU hx hB;clear h ho hk bU hB;go_enter Tryz.func37,Tryz.ntmps37;go_wp2_with fail;refine HF.out.mono ?_;rintro e w' ⟨⟨r,rfl,hr⟩,rfl⟩;rcases hr with⟨i,al,rfl⟩|⟨_,rfl⟩
 ·obtain⟨⟨s,az,bC⟩,_⟩:=al
  exact absurd bC (IJ.1 hn s (List.mem_of_getElem? az))
 clear hn;go_wp2;go_ret;exact⟨rfl,StR.refl HH.out (Nat.le_succ _) (Below.refl _ _)⟩
theorem Vv(B:Nat)(w:World)(g:Nat)(S:List Tb)(x:List Sv)(h:RD B w g S x)(hB:B≤w.heap.size)(hx:x.length≤90000)(id:Int)(hn:dO (sns x) id=none):
  Calls Tryz.prog 37 #[SL.ptr g,.int .i64 id,.int .i64 5] w (M5 B g (x.length+1) (Fr (dbS S (sns x)) id).1 (Fr (dbS S (sns x)) id).2 w):=by
 rw[Vr hn];obtain⟨cv,sv,hk,bU,ho⟩:=h.at_;obtain⟨ca,cc,rfl⟩:=bU.form;obtain⟨sa,sc,rfl⟩:=jp ho;have y0:w.cell? ⟨g,0,none⟩=some (.slice ca S.length cc):=hk.cell 0;have y1:w.cell? ⟨g,1,none⟩=some (.slice sa x.length sc):=hk.cell 1;have HF:=qid (m7 B w g S x h (by omega) id)
 obtain⟨HO,HH,HK,eH,HX,HB⟩:=hZ6 ho h hk bU hx hB;clear h ho hk bU hB;go_enter Tryz.func37,Tryz.ntmps37;go_wp2_with fail;refine HF.out.mono ?_;rintro e w' ⟨⟨r,rfl,hr⟩,rfl⟩;rcases hr with⟨i,al,rfl⟩|⟨_,rfl⟩
 ·obtain⟨⟨s,az,bC⟩,_⟩:=al
  exact absurd bC (IJ.1 hn s (List.mem_of_getElem? az))
 clear hn;go_wp2;go_ret;exact⟨rfl,StR.refl HH.out (Nat.le_succ _) (Below.refl _ _)⟩
theorem Vw(B:Nat)(w:World)(g:Nat)(S:List Tb)(x:List Sv)(h:RD B w g S x)(hB:B≤w.heap.size)(hx:x.length≤90000)(id:Int)(b:Bool)(T:List Tb)(hp:dO (sns x) id=some (b,T)):
  Calls Tryz.prog 37 #[SL.ptr g,.int .i64 id,.int .i64 3] w (M5 B g (x.length+1) (rW (dbS S (sns x)) id).1 (rW (dbS S (sns x)) id).2 w):=by
 rw[RV hp];obtain⟨cv,sv,hk,bU,ho⟩:=h.at_;obtain⟨ca,cc,rfl⟩:=bU.form;obtain⟨sa,sc,rfl⟩:=jp ho;have y0:w.cell? ⟨g,0,none⟩=some (.slice ca S.length cc):=hk.cell 0;have y1:w.cell? ⟨g,1,none⟩=some (.slice sa x.length sc):=hk.cell 1;have HF:=qid (m7 B w g S x h (by omega) id)
 obtain⟨HO,HH,HK,eH,HX,HB⟩:=hZ6 ho h hk bU hx hB;clear h ho hk bU hB;go_enter Tryz.func37,Tryz.ntmps37;go_wp2_with fail;refine HF.out.mono ?_;rintro e w' ⟨⟨r,rfl,hr⟩,rfl⟩;rcases hr with⟨i,al,rfl⟩|⟨hn,rfl⟩
 rotate_left
 ·rw[hn]at hp;cases hp
 have dS:=al;obtain⟨⟨s,az,bC⟩,_⟩:=dS;obtain⟨v,hv⟩:=JG az;have bw:i<x.length:=(List.getElem?_eq_some_iff.1 hv).1;obtain⟨sg,cap,he,cL,_,dE⟩:=Hv HO.out (by omega)
 injection he with ea _ ec;subst ea ec;obtain⟨_,z1,z2⟩:=dE i _ hv;have eU:=qid (HH.out.rows _ (List.mem_of_getElem? hv));obtain⟨s0,s1,T⟩:=s;have bC:s0=id:=bC;subst bC;have hg:=I7 al az;rw[hp]at hg;injection hg with hg;injection hg with iE gn;subst iE gn;have eU:Hid (SQ w v T):=eU;obtain⟨ta,tc,rfl⟩:=eU.out.form;have z1:w.cell? ⟨sg,i*3+1,none⟩=some (.bool b):=z1;have z2:w.cell? ⟨sg,i*3+2,none⟩=some (.slice ta (T).length tc):=z2;have l3:(i:Int)<(x.length:Int):=by omega
 have l4:(0:Int)≤(i:Int):=by omega
 have l5:¬((i:Int)<0):=by omega
 clear dE hv az al bw hp;go_wp2;go_ret;exact⟨rfl,StR.refl HH.out (Nat.le_succ _) (Below.refl _ _)⟩
theorem Vx(B:Nat)(w:World)(g:Nat)(S:List Tb)(x:List Sv)(h:RD B w g S x)(hB:B≤w.heap.size)(hx:x.length≤90000)(id:Int)(b:Bool)(T:List Tb)(hp:dO (sns x) id=some (b,T)):
  Calls Tryz.prog 37 #[SL.ptr g,.int .i64 id,.int .i64 5] w (M5 B g (x.length+1) (Fr (dbS S (sns x)) id).1 (Fr (dbS S (sns x)) id).2 w):=by
 rw[Vs hp];obtain⟨cv,sv,hk,bU,ho⟩:=h.at_;obtain⟨ca,cc,rfl⟩:=bU.form;obtain⟨sa,sc,rfl⟩:=jp ho;have y0:w.cell? ⟨g,0,none⟩=some (.slice ca S.length cc):=hk.cell 0;have y1:w.cell? ⟨g,1,none⟩=some (.slice sa x.length sc):=hk.cell 1;have HF:=qid (m7 B w g S x h (by omega) id)
 obtain⟨HO,HH,HK,eH,HX,HB⟩:=hZ6 ho h hk bU hx hB;clear h ho hk bU hB;go_enter Tryz.func37,Tryz.ntmps37;go_wp2_with fail;refine HF.out.mono ?_;rintro e w' ⟨⟨r,rfl,hr⟩,rfl⟩;rcases hr with⟨i,al,rfl⟩|⟨hn,rfl⟩
 rotate_left
 ·rw[hn]at hp;cases hp
 have dS:=al;obtain⟨⟨s,az,bC⟩,_⟩:=dS;obtain⟨v,hv⟩:=JG az;have bw:i<x.length:=(List.getElem?_eq_some_iff.1 hv).1;obtain⟨sg,cap,he,cL,_,dE⟩:=Hv HO.out (by omega)
 injection he with ea _ ec;subst ea ec;obtain⟨_,z1,z2⟩:=dE i _ hv;have eU:=qid (HH.out.rows _ (List.mem_of_getElem? hv));obtain⟨s0,s1,T⟩:=s;have bC:s0=id:=bC;subst bC;have hg:=I7 al az;rw[hp]at hg;injection hg with hg;injection hg with iE gn;subst iE gn;have eU:Hid (SQ w v T):=eU;obtain⟨ta,tc,rfl⟩:=eU.out.form;have z1:w.cell? ⟨sg,i*3+1,none⟩=some (.bool b):=z1;have z2:w.cell? ⟨sg,i*3+2,none⟩=some (.slice ta (T).length tc):=z2;have l3:(i:Int)<(x.length:Int):=by omega
 have l4:(0:Int)≤(i:Int):=by omega
 have l5:¬((i:Int)<0):=by omega
 clear dE hv az al bw hp;clear y0 z2;go_wp2_with fail;refine(Jj B w g S x HH.out HB.out (by have:=HX.out;omega) s0).mono ?_
 rintro e w7 ⟨rfl,ah⟩;have aY:=qid ah;clear ah;go_wp2;go_ret;exact⟨rfl,aY.out.mono (Nat.le_succ _)⟩
theorem Vy(B:Nat)(w:World)(g:Nat)(S:List Tb)(x:List Sv)(h:RD B w g S x)(hB:B≤w.heap.size)(hx:x.length≤90000)(id:Int)(T:List Tb)(hp:dO (sns x) id=some (true,T)):
  Calls Tryz.prog 37 #[SL.ptr g,.int .i64 id,.int .i64 4] w (M5 B g (x.length+1) (gE (dbS S (sns x)) id).1 (gE (dbS S (sns x)) id).2 w):=by
 rw[RX hp];obtain⟨cv,sv,hk,bU,ho⟩:=h.at_;obtain⟨ca,cc,rfl⟩:=bU.form;obtain⟨sa,sc,rfl⟩:=jp ho;have y0:w.cell? ⟨g,0,none⟩=some (.slice ca S.length cc):=hk.cell 0;have y1:w.cell? ⟨g,1,none⟩=some (.slice sa x.length sc):=hk.cell 1;have HF:=qid (m7 B w g S x h (by omega) id)
 obtain⟨HO,HH,HK,eH,HX,HB⟩:=hZ6 ho h hk bU hx hB;clear h ho hk bU hB;go_enter Tryz.func37,Tryz.ntmps37;go_wp2_with fail;refine HF.out.mono ?_;rintro e w' ⟨⟨r,rfl,hr⟩,rfl⟩;rcases hr with⟨i,al,rfl⟩|⟨hn,rfl⟩
 rotate_left
 ·rw[hn]at hp;cases hp
 have dS:=al;obtain⟨⟨s,az,bC⟩,_⟩:=dS;obtain⟨v,hv⟩:=JG az;have bw:i<x.length:=(List.getElem?_eq_some_iff.1 hv).1;obtain⟨sg,cap,he,cL,_,dE⟩:=Hv HO.out (by omega)
 injection he with ea _ ec;subst ea ec;obtain⟨_,z1,z2⟩:=dE i _ hv;have eU:=qid (HH.out.rows _ (List.mem_of_getElem? hv));obtain⟨s0,s1,T⟩:=s;have bC:s0=id:=bC;subst bC;have hg:=I7 al az;rw[hp]at hg;injection hg with hg;injection hg with iE gn;subst iE gn;have eU:Hid (SQ w v T):=eU;obtain⟨ta,tc,rfl⟩:=eU.out.form;have z1:w.cell? ⟨sg,i*3+1,none⟩=some (.bool true):=z1;have z2:w.cell? ⟨sg,i*3+2,none⟩=some (.slice ta (T).length tc):=z2;have l3:(i:Int)<(x.length:Int):=by omega
 have l4:(0:Int)≤(i:Int):=by omega
 have l5:¬((i:Int)<0):=by omega
 clear dE hv az al bw hp;clear y0 z2;go_wp2_with fail;refine(Jj B w g S x HH.out HB.out (by have:=HX.out;omega) s0).mono ?_
 rintro e w7 ⟨rfl,ah⟩;have aY:=qid ah;clear ah;go_wp2;go_ret;exact⟨rfl,aY.out.mono (Nat.le_succ _)⟩
theorem Vz(B:Nat)(w:World)(g:Nat)(S:List Tb)(x:List Sv)(h:RD B w g S x)(hB:B≤w.heap.size)(hx:x.length≤90000)(id:Int)(T:List Tb)(k:Nat)(hI:ce (dbS S (sns x)) k)(bA:k≤90000)(hp:dO (sns x) id=some (false,T)):
  Calls Tryz.prog 37 #[SL.ptr g,.int .i64 id,.int .i64 4] w (M5 B g (x.length+1) (gE (dbS S (sns x)) id).1 (gE (dbS S (sns x)) id).2 w):=by
 rw[Vt hp];obtain⟨Q,hQ⟩:∃Q,(if 16<(nE S T).length then(IS (dbS S (sns x)) id,(11:Int))else(IS (dbS (nE S T) (sns x)) id,0))=Q:=⟨_,rfl⟩
 rw[hQ];have sh:=qid hQ;clear hQ;have jM:Hid (S.length≤16):=qid hI.st.len;have aY:Hid (iS S):=qid hI.st.tabs;have jY:Hid (iS T∧T.length≤k):=qid (hI.own id (false,T) hp);have fO:=qid bA;clear hI bA;obtain⟨cv,sv,hk,bU,ho⟩:=h.at_;obtain⟨ca,cc,rfl⟩:=bU.form;obtain⟨sa,sc,rfl⟩:=jp ho;have y0:w.cell? ⟨g,0,none⟩=some (.slice ca S.length cc):=hk.cell 0;have y1:w.cell? ⟨g,1,none⟩=some (.slice sa x.length sc):=hk.cell 1;have HF:=qid (m7 B w g S x h (by omega) id)
 obtain⟨HO,HH,HK,eH,HX,HB⟩:=hZ6 ho h hk bU hx hB;clear h ho hk bU hB;go_enter Tryz.func37,Tryz.ntmps37;go_wp2_with fail;refine HF.out.mono ?_;rintro e w' ⟨⟨r,rfl,hr⟩,rfl⟩;rcases hr with⟨i,al,rfl⟩|⟨hn,rfl⟩
 rotate_left
 ·rw[hn]at hp;cases hp
 have dS:=al;obtain⟨⟨s,az,bC⟩,_⟩:=dS;obtain⟨v,hv⟩:=JG az;have bw:i<x.length:=(List.getElem?_eq_some_iff.1 hv).1;obtain⟨sg,cap,he,cL,_,dE⟩:=Hv HO.out (by omega)
 injection he with ea _ ec;subst ea ec;obtain⟨_,z1,z2⟩:=dE i _ hv;have eU:=qid (HH.out.rows _ (List.mem_of_getElem? hv));obtain⟨s0,s1,T⟩:=s;have bC:s0=id:=bC;subst bC;have hg:=I7 al az;rw[hp]at hg;injection hg with hg;injection hg with iE gn;subst iE gn;have eU:Hid (SQ w v T):=eU;obtain⟨ta,tc,rfl⟩:=eU.out.form;have z1:w.cell? ⟨sg,i*3+1,none⟩=some (.bool false):=z1;have z2:w.cell? ⟨sg,i*3+2,none⟩=some (.slice ta (T).length tc):=z2;have l3:(i:Int)<(x.length:Int):=by omega
 have l4:(0:Int)≤(i:Int):=by omega
 have l5:¬((i:Int)<0):=by omega
 clear dE hv az al bw hp;go_wp2_with fail;refine wp_region_held_drew (S:=(fun w'=>w'.cell? ⟨g,0,none⟩=some (.slice ca S.length cc)∧w'.cell? ⟨g,1,none⟩=some (.slice (some ⟨sg,0,none⟩) x.length sc)∧w'.cell? ⟨sg,i*3+2,none⟩=some (.slice ta T.length tc)∧Below w.heap.size w w')) (by kernel_rfl) ?_ (fun hS=>?_)
 ·exact⟨y0,y1,z2,(Below.refl _ _).drew⟩
 refine tkY 0 ?_ rfl hS ?_ ?_;rotate_left
 ·intro wz hz
  go_simp
  all_goals first|with_reducible rfl|omega
 try simp only[Act.put,pu]
 refine tkY 1 ?_ rfl hS ?_ ?_;rotate_left
 ·intro wz hz
  go_simp
  all_goals first|with_reducible rfl|omega
 try simp only[Act.put,pu]
 refine tkY 2 ?_ rfl hS ?_ ?_;rotate_left
 ·intro wz hz
  go_simp
  all_goals first|with_reducible rfl|omega
 try simp only[Act.put,pu]
 refine tkY 3 ?_ rfl hS ?_ ?_;rotate_left
 ·intro wz hz
  obtain⟨z0,z1,z2,_⟩:=hz;go_simp
  all_goals first|with_reducible rfl|omega
 try simp only[Act.put,pu]
 refine tkY 4 ?_ rfl hS ?_ ?_;rotate_left
 ·intro wz hz
  go_simp
  all_goals first|with_reducible rfl|omega
 try simp only[Act.put,pu]
 refine tkY 5 ?_ rfl hS ?_ ?_;rotate_left
 ·intro wz hz
  go_simp
  all_goals first|with_reducible rfl|omega
 try simp only[Act.put,pu]
 refine tkY 6 ?_ rfl hS ?_ ?_;rotate_left
 ·intro wz hz
  go_simp
  all_goals first|with_reducible rfl|omega
 try simp only[Act.put,pu]
 refine tkY 7 ?_ rfl hS ?_ ?_;rotate_left
 ·intro wz hz
  obtain⟨z0,z1,z2,_⟩:=hz;go_simp
  all_goals first|with_reducible rfl|omega
 try simp only[Act.put,pu]
 refine tkY 8 ?_ rfl hS ?_ ?_;rotate_left
 ·intro wz hz
  go_simp
  all_goals first|with_reducible rfl|omega
 try simp only[Act.put,pu]
 refine tkY 9 ?_ rfl hS ?_ ?_;rotate_left
 ·intro wz hz
  go_simp
  all_goals first|with_reducible rfl|omega
 try simp only[Act.put,pu]
 refine tkY 10 ?_ rfl hS ?_ ?_;rotate_left
 ·intro wz hz
  go_simp
  all_goals first|with_reducible rfl|omega
 try simp only[Act.put,pu]
 refine tkY 11 ?_ rfl hS ?_ ?_;rotate_left
 ·intro wz hz
  obtain⟨z0,z1,z2,_⟩:=hz;go_simp
  all_goals first|with_reducible rfl|omega
 try simp only[Act.put,pu]
 refine wpAnyH_ready (rs:=[12]) (by kernel_rfl) (by simp) (AllReadyH.cons rfl (fun K' ae=>?_) AllReadyH.nil)
 go_simp;have hB:=hS.2.2.2;obtain⟨wd,fP⟩:∃W,w.drew=W:=⟨_,rfl⟩
 try rw[fP]
 try rw[fP]at hB
 refine(MT _ _ S T wd (eH.out.bel hB) (eU.out.bel hB) aY.out jY.out.1.each (by have:=jM.out;have:=jY.out.2;have:=fO.out;omega) (jY.out.1.ok (by have:=jY.out.2;have:=fO.out;omega)).few).mono ?_
 rintro e w3 ⟨v3,rfl,js,aG⟩;have cq:Below w.heap.size w w3:=hB.trans (aG.mono hB.size);obtain⟨aO,kW⟩:=hZ2 cq js;have d0:=(cq.cell (p:=⟨g,0,none⟩) (World.block_lt_of_cell? w _ y0)).trans y0;have d1:=(cq.cell (p:=⟨g,1,none⟩) (World.block_lt_of_cell? w _ y1)).trans y1;have d2:=(cq.cell (p:=⟨sg,i*3+2,none⟩) (World.block_lt_of_cell? w _ z2)).trans z2;clear aG cq hB js fP;refine ae.out _ _ ?_ (fun aF=>?_)
 ·exact⟨d0,d1,d2,aO.out⟩
 clear ae K' hS;have hS:=aF;clear aF
 try simp only[Act.put,pu]
 obtain⟨uu,uv,rfl⟩:=kW.out.form;refine tkY 13 ?_ rfl hS ?_ ?_;rotate_left
 ·intro wz hz
  go_simp
  all_goals first|with_reducible rfl|omega
 try simp only[Act.put,pu]
 refine wpAnyH_done (by kernel_rfl) ?_ _
 clear hS;have iG:=qid (HH.out.below aO.out);have eN:=qid (f9 HK.out aO.out);clear y0 y1 z1 z2 d0 d1 d2
 by_cases dR:16<(nE S T).length
 ·have hQ:=sh.out
  rw[if_pos dR]at hQ;subst hQ;clear sh;have m1:(16:Int)<((nE S T).length:Int):=by omega
  clear dR;go_wp2_with fail;refine(Jj B w3 g S x iG.out (Nat.le_trans HB.out aO.out.size) (by have:=HX.out;omega) s0).mono ?_
  rintro e w7 ⟨rfl,ah⟩;have aY:=qid ah;clear ah;go_wp2;go_ret;exact⟨rfl,(StR.pre aO.out aY.out).mono (Nat.le_succ _)⟩
 ·have hQ:=sh.out
  rw[if_neg dR]at hQ;subst hQ;clear sh;have m1:¬((16:Int)<((nE S T).length:Int)):=by omega
  have c0:w3.cell? ⟨g,0,none⟩=some (.slice ca S.length cc):=eN.out.cell 0;have f0:w3.frozen? ⟨g,0,none⟩=false:=eN.out.frozen 0;obtain⟨h4,oJ⟩:=iG.out.storeS kW.out;obtain⟨H4,vN⟩:=hZ2 h4 oJ;have vF:Hid (B≤(w3.setCell ⟨g,0,none⟩ (.slice uu (nE S T).length uv)).heap.size):=qid (Nat.le_trans (Nat.le_trans HB.out aO.out.size) oJ.size);clear dR h4 oJ;go_wp2_with fail;refine(Jj B _ g (nE S T) x H4.out vF.out (by have:=HX.out;omega) s0).mono ?_
  rintro e w7 ⟨rfl,ah⟩;have aY:=qid ah;clear ah;go_wp2;go_ret;obtain⟨y,k1,k2,k3,k4⟩:=aY.out;exact⟨rfl,y,k1,k2,Nat.le_succ_of_le k3,lT.trans (.of_below aO.out) (lT.trans vN.out k4)⟩
theorem VA(B:Nat)(w:World)(g:Nat)(S:List Tb)(x:List Sv)(h:RD B w g S x)(hB:B≤w.heap.size)(hx:x.length≤90000)(id:Int)(hi:I9 id)(hn:dO (sns x) id=none):
  Calls Tryz.prog 37 #[SL.ptr g,.int .i64 id,.int .i64 3] w (M5 B g (x.length+1) (rW (dbS S (sns x)) id).1 (rW (dbS S (sns x)) id).2 w):=by
 rw[U6 hn];obtain⟨i45,rB,rC,rD,rE⟩:=iSe;have mU:=qbg;obtain⟨cv,sv,hk,bU,ho⟩:=h.at_;obtain⟨ca,cc,rfl⟩:=bU.form;obtain⟨sa,sc,rfl⟩:=jp ho;have y0:w.cell? ⟨g,0,none⟩=some (.slice ca S.length cc):=hk.cell 0;have y1:w.cell? ⟨g,1,none⟩=some (.slice sa x.length sc):=hk.cell 1;have HF:=qid (m7 B w g S x h (by omega) id)
 obtain⟨HO,HH,HK,eH,HX,HB⟩:=hZ6 ho h hk bU hx hB;clear h ho hk bU hB;go_enter Tryz.func37,Tryz.ntmps37;go_wp2_with fail;refine HF.out.mono ?_;rintro e w' ⟨⟨r,rfl,hr⟩,rfl⟩;rcases hr with⟨i,al,rfl⟩|⟨_,rfl⟩
 ·obtain⟨⟨s,az,bC⟩,_⟩:=al
  exact absurd bC (IJ.1 hn s (List.mem_of_getElem? az))
 obtain⟨W1,cF⟩:∃W,w.alloc (.cells #[.int .i64 id,.bool false,.slice none 0 0] 64)=W:=⟨_,rfl⟩;have b1:Below w.heap.size w W1:=by rw[←cF];exact(Below.refl _ _).alloc (Nat.le_refl _) _
 have k1:Blk W1 w.heap.size 64 #[.int .i64 id,.bool false,.slice none 0 0]:=by rw[←cF];exact Blk.new _ _ _
 obtain⟨aX,cC⟩:=hZ2 b1 k1;have rA:=qid (aS HO.out b1);clear b1 k1 y0;go_wp2_with (at_builtin;(try rw[cF]);refine wpList_append_lies _ rfl _ _ 45 rfl B 64 i45 (.agg #[.int .i64 0,.bool false,.slice none 0 0]) 3 40 mU rB rC rD rE rfl (by decide) _ x.length (scs x) rfl rA.out ⟨w.heap.size,0,none⟩ 1 1 [.int .i64 id,.bool false,.slice none 0 0] rfl rfl ?c1 ?c2 (by decide) ?c3 ?c4 ?c5 _ rfl ?_)
 all_goals first
  |(intro j u hj;have dI:=LJ cC.out j u hj;rw[Addr.add_lit,Nat.zero_add]at dI;exact dI)
  |exact LJ cC.out
  |exact⟨rfl,rfl,rfl⟩
  |(intro q hq;simp at hq;rcases hq with rfl|rfl|rfl<;>rfl)
  |(have:=HX.out;unfold maxLen;omega)
  |(have:=HX.out;omega)
  |(have:=aX.out.size;have:=HB.out;omega)
  |skip
 intro g9 bN w9 aB aM af cE;have fe:SL.Chg (lT B w) w W1:=.of_below aX.out;have Bf:SL.Chg (lT B w) w w9:=fe.grown aM (fun k hk gY=>by
  obtain⟨cur,cT⟩:=m9 HO.out hk;exact⟨(HO.out.lt k hk).1,_,_,_,.inr rfl,cT⟩)
 have jf:SL.Bk w9 g 47 #[.slice ca S.length cc,.slice sa x.length sc]:=by
  have aU:=f9 HK.out aX.out;refine aU.heap (aM.block g aU.lt (fun e=>?_))
  obtain⟨cur,cT⟩:=m9 HO.out e.symm;have:=HK.out.symm.trans cT;injection this with this;injection this with _ e _;exact absurd e (by decide)
 obtain⟨si,jO,cX⟩:=hZ3 Bf jf aB;have c1:w9.cell? ⟨g,1,none⟩=some (.slice sa x.length sc):=jf.cell 1;have f1:w9.frozen? ⟨g,1,none⟩=false:=jf.frozen 1;clear aB aM af cE y1 fe Bf jf cF;go_wp2;go_ret;obtain⟨h1,h2⟩:=RD.store2 (B:=B) (w:=w9) (g:=g) (S:=S) (y:=x++[(id,false,.slice none 0 0,[])]) HH.out.lo jO.out (eH.out.kt (lT.kt si.out)) (by rw[List.length_append,TN];exact cX.out) (fun s hs=>by
  rcases List.mem_append.1 hs with hs|hs
  ·exact(HH.out.rows s hs).kt (lT.kt si.out)
  ·rw[List.mem_singleton]at hs;subst hs;exact SQ.nil _)
 refine⟨rfl,_,h1,by rw[qag];rfl,by rw[List.length_append];exact Nat.le_refl _,lT.trans si.out h2⟩
theorem RY(v:Value)(s:List Tb)(n:ByteArray)(w:World)(h:SQ w v s)(hf:IK s)(hn:n.size≤1000000):
  Calls Tryz.prog 84 #[v,.string n] w (PV (H9 s n) w):=by
 obtain⟨i31,bW,cP,cN,cR⟩:=OX;have ak:=I8;obtain⟨a,cap,rfl⟩:=h.form;have yP:∃X:List Tv,tbs X=s∧(0<s.length→∃b off,a=some ⟨b,off,none⟩∧s.length≤cap∧∀(i:Nat) (t:Tv),X[i]? =some t→w.cell? ⟨b,off+i*2,none⟩=some (.string t.1)∧w.cell? ⟨b,off+i*2+1,none⟩=some t.2.1∧RQ w t.2.1 t.2.2)∧∀t∈X,RQ w t.2.1 t.2.2:=by
  by_cases h0:0<s.length
  ·obtain⟨g,o,c,he,hc,X,h1,h2⟩:=h.tv h0
   injection he with e1 _ e3;subst e1 e3;refine⟨X,h1,fun _=>⟨g,o,rfl,hc,h2⟩,fun t ht=>?_⟩
   obtain⟨i,hi⟩:=List.getElem?_of_mem ht;exact(h2 i t hi).2.2
  ·have:s=[]:=List.eq_nil_of_length_eq_zero (by omega)
   subst this;exact⟨[],rfl,fun h=>absurd h (by simp),fun t ht=>by simp at ht⟩
 obtain⟨X,hX,gQ,lL⟩:=yP;obtain⟨HX,HC,dV,HF⟩:=hZ4 hX gQ lL hf;have HL:Hid (s.length≤1000000):=qid hf.1;have fh:=qid (show X.length=s.length by rw[←mt,hX])
 have HN:=qid hn;clear h hf hn hX gQ lL;go_enter Tryz.func84,Tryz.ntmps84;go_wp2_with fail
 go_loopg [5,6] s.length (fun gk u5 u6 wx=>∃i:Nat,u6=.int .i64 (i:Int)∧i+gk=s.length∧wx.ownsRow w.heap.size 55 2 u5 i (tcs (X.take i))∧Below w.heap.size w wx∧∀t x,t<i→s[t]? =some x→ltN n x=true)
 case atStart=>exact⟨0,rfl,by omega,World.ownsRow_nil _ _ _ _,Below.refl _ _,fun t x h=>by omega⟩
 case round=>
  obtain⟨i,rfl,hi,hO,hB,au⟩:=hrel;obtain⟨HO,HB,HI,py⟩:=hZ4 hO hB hi au;obtain⟨gJ,gK,rfl⟩:=Ac hO
  cases gk with
  |zero=>
   have bw:i=s.length:=by omega
   have l1:¬((i:Int)<(s.length:Int)):=by omega
   have fu:=qid (Te (n:=n) (i:=i) HX.out (by omega) au (fun x hx=>by rw[bw,List.getElem?_eq_none (Nat.le_refl _)]at hx;cases hx))
   subst bw;clear hi hO hB au;have fv:=qid (show(Ia X s.length n).length=s.length+1 by rw[PJ _ _ _ (by rw[fh.out];exact Nat.le_refl _),fh.out])
   have gp:=qid (show tcs (Ia X s.length n)=tcs (X.take s.length)++[.string n,.slice none 0 0] by unfold Ia;rw[ip,List.drop_of_length_le (by rw[fh.out];exact Nat.le_refl _)];rfl)
   have kR:=qid (show∀W,Below w.heap.size w W→∀t∈Ia X s.length n,RQ W t.2.1 t.2.2 from fun W hW t ht=>by
    unfold Ia at ht;rcases List.mem_append.1 ht with h|h
    ·exact(dV.out t (List.mem_of_mem_take h)).bel hW
    ·rcases List.mem_cons.1 h with rfl|h
     ·exact .inl ⟨_,_,rfl,rfl⟩
     ·exact(dV.out t (List.mem_of_mem_drop h)).bel hW)
   go_wp2_with (at_builtin;refine wpList_append_lies _ rfl _ _ 22 rfl w.heap.size 55 i31 (.agg #[.string ByteArray.empty,.slice none 0 0]) 2 40 ak bW cP cN cR rfl (by decide) (.slice gJ s.length gK) s.length (tcs (X.take s.length)) rfl (HO.out.alloc _) ⟨wr.heap.size,0,none⟩ 1 1 [.string n,.slice none 0 0] rfl rfl ?e01 ?e02 (by decide) ?e03 ?e04 ?e05 _ rfl ?_)
   all_goals first
    |exact I1 (heap_alloc_new _ _)
    |exact Jc rfl rfl
    |exact⟨rfl,rfl⟩
    |(have:=HI.out;have:=HL.out;unfold maxLen;omega)
    |(have:=HI.out;have:=HL.out;omega)
    |(have:=HB.out.size;simp;omega)
    |skip
   intro g9 bN w9 aB aM af cE;have aP:=(HB.out.alloc HB.out.size (.cells #[.string n,.slice none 0 0] 55)).grown aM (by have:=HB.out.size;simp;omega) (fun k hk=>(HO.out.lt k hk).1)
   obtain⟨cX,cI⟩:=hZ2 aB aP;clear aB aM af aP;go_wp2_with (at_builtin;refine i6 rfl _ _ 22 rfl w.heap.size 55 i31 2 ak bW _ _ _ rfl cX.out _ _ rfl ?_)
   all_goals
    go_wp2;go_ret;rw[←fu.out];exact⟨_,rfl,SQ.of_own2 cX.out fv.out gp.out (kR.out _ cI.out),cI.out⟩
  |succ gk=>
   have aD:i<s.length:=by omega
   obtain⟨b,off,rfl,cL,hx⟩:=HC.out (by omega)
   have eE:i<X.length:=by rw[fh.out];exact aD
   obtain⟨q,jH⟩:∃q,X[i]=q:=⟨_,rfl⟩;have nQ:X[i]? =some q:=by rw[List.getElem?_eq_getElem eE,jH]
   obtain⟨x0,x1,jc⟩:=hx i q nQ;have x0:=(hB.cell (p:=⟨b,off+i*2,none⟩) (World.block_lt_of_cell? w _ x0)).trans x0;have x1:=(hB.cell (p:=⟨b,off+i*2+1,none⟩) (World.block_lt_of_cell? w _ x1)).trans x1;have dr:s[i]? =some (q.1,q.2.2):=by rw[←HX.out];exact Xg X i q nQ
   have sP:q.1.size≤1000000:=(HF.out.2 _ (List.mem_of_getElem? dr)).1;have l0:(0:Int)≤(i:Int):=by omega
   have l1:(i:Int)<(s.length:Int):=by omega
   obtain⟨i1,aN⟩:∃i1,i+1=i1:=⟨_,rfl⟩;have wk:IntKind.i64.wrap ((i:Int)+1)=(i1:Int):=by rw[show(i:Int)+1=(i1:Int) by omega];exact IntWalk.i64_in _ (by have:=HL.out;omega)
   obtain⟨aQ,cj,dv,uS,dz,bX⟩:=hZ6 aN aD cL hx x0 x1;have j':=qid (fun W=>PK q.1 n _ rfl sP HN.out W)
   cases hk:decide (q.1.data.toList<n.data.toList)with
   |true=>
    have j2:=qid (show tcs (X.take i1)=tcs (X.take i)++[.string q.1,q.2.1] by rw[←aN,List.take_add_one,nQ,Option.toList_some,ip];rfl)
    have lq:=qid (show∀t x,t<i1→s[t]? =some x→ltN n x=true from fun t x ht hx=>by
     by_cases h:t<i
     ·exact au t x h hx
     ·have:t=i:=by omega
      subst this;rw[dr]at hx;injection hx with hx;subst hx;exact hk)
    have fj:=qid jc.one;rw[hk]at j';obtain⟨q0,qv,qr⟩:=q;simp only at x0 x1;clear hi hO hB au aD cL hx eE jH nQ jc dr sP aN hk;go_wp2_with fail;refine(j'.out _).mono ?_;rintro e w3 ⟨rfl,aG⟩;have x0:w3.cell? ⟨b,off+i*2,none⟩=some (.string q0):=(aG.cell (p:=⟨b,off+i*2,none⟩) (World.block_lt_of_cell? wr _ dz.out)).trans dz.out;have x1:w3.cell? ⟨b,off+i*2+1,none⟩=some qv:=(aG.cell (p:=⟨b,off+i*2+1,none⟩) (World.block_lt_of_cell? wr _ bX.out)).trans bX.out;have dt:=qid (aS HO.out aG);have aO:=qid (HB.out.trans (aG.mono HB.out.size));clear aG;go_wp2_with (at_builtin;refine wpList_append_lies _ rfl _ _ 22 rfl w.heap.size 55 i31 (.agg #[.string ByteArray.empty,.slice none 0 0]) 2 40 ak bW cP cN cR rfl (by decide) (.slice gJ i gK) i (tcs (X.take i)) rfl (dt.out.alloc _) ⟨w3.heap.size,0,none⟩ 1 1 [.string q0,qv] rfl rfl ?a1 ?a2 (by decide) ?a3 ?a4 ?a5 _ rfl ?_)
    all_goals first
     |exact I1 (heap_alloc_new _ _)
     |exact Jc rfl fj.out
     |exact⟨rfl,fj.out⟩
     |(have:=cj.out;have:=HL.out;unfold maxLen;omega)
     |(have:=cj.out;have:=HL.out;omega)
     |(have:=aO.out.size;simp;omega)
     |skip
    intro g9 bN w9 aB aM af cE;have aP:=(aO.out.alloc aO.out.size (.cells #[.string q0,qv] 55)).grown aM (by have:=aO.out.size;simp;omega) (fun k hk=>(dt.out.lt k hk).1)
    obtain⟨cX,cI⟩:=hZ2 aB aP;clear aB aM af aP;go_wp2;go_roundg gk
    case measure=>exact Nat.lt_succ_self _
    case rel=>exact⟨i1,rfl,by have:=aQ.out;have:=HI.out;omega,by rw[j2.out,←aQ.out];exact cX.out,cI.out,lq.out⟩
   |false=>
    have fu:=qid (Te (n:=n) (i:=i) HX.out (by omega) au (fun x hx=>by rw[dr]at hx;injection hx with hx;subst hx;exact hk))
    rw[hk]at j';obtain⟨q0,qv,qr⟩:=q;simp only at x0 x1;clear hi hO hB au aD cL hx eE jH nQ jc dr sP aN hk;go_wp2_with fail;refine(j'.out _).mono ?_;rintro e w3 ⟨rfl,aG⟩;have dt:=qid (aS HO.out aG);have aO:=qid (HB.out.trans (aG.mono HB.out.size));clear aG x0 x1;have fv:=qid (show(Ia X i n).length=i+1+(s.length-i) by rw[PJ _ _ _ (by rw[fh.out];have:=cj.out;omega),fh.out];have:=cj.out;omega)
    have gp:=qid (show tcs (Ia X i n)=tcs (X.take i)++([.string n,.slice none 0 0]++tcs (X.drop i)) by unfold Ia;rw[ip];rfl)
    have kR:=qid (show∀W,Below w.heap.size w W→∀t∈Ia X i n,RQ W t.2.1 t.2.2 from fun W hW t ht=>by
     unfold Ia at ht;rcases List.mem_append.1 ht with h|h
     ·exact(dV.out t (List.mem_of_mem_take h)).bel hW
     ·rcases List.mem_cons.1 h with rfl|h
      ·exact .inl ⟨_,_,rfl,rfl⟩
      ·exact(dV.out t (List.mem_of_mem_drop h)).bel hW)
    have nw:(i:Int)≤(s.length:Int):=by omega
    have nJ:¬(cap=i):=by have:=cj.out;have:=dv.out;omega
    have wy:¬(cap-i=0):=by have:=cj.out;have:=dv.out;omega
    go_wp2_with (at_builtin;refine wpList_append_lies _ rfl _ _ 22 rfl w.heap.size 55 i31 (.agg #[.string ByteArray.empty,.slice none 0 0]) 2 40 ak bW cP cN cR rfl (by decide) (.slice gJ i gK) i (tcs (X.take i)) rfl (dt.out.alloc _) ⟨w3.heap.size,0,none⟩ 1 1 [.string n,.slice none 0 0] rfl rfl ?e11 ?e12 (by decide) ?e13 ?e14 ?e15 _ rfl ?_)
    all_goals first
     |exact I1 (heap_alloc_new _ _)
     |exact Jc rfl rfl
     |exact⟨rfl,rfl⟩
     |(have:=HI.out;have:=HL.out;unfold maxLen;omega)
     |(have:=HI.out;have:=HL.out;omega)
     |(have:=aO.out.size;simp;omega)
     |skip
    intro g9 bN w9 aB aM af cE;have aP:=(aO.out.alloc aO.out.size (.cells #[.string n,.slice none 0 0] 55)).grown aM (by have:=aO.out.size;simp;omega) (fun k hk=>(dt.out.lt k hk).1)
    obtain⟨cX,cI⟩:=hZ2 aB aP;clear aB aM af aP;have ny:=qid (Lu (w:=w9) (X:=X) (b:=b) (off:=off) i (fun j t hj=>by
     obtain⟨c0,c1,_⟩:=uS.out j t hj;exact⟨(cI.out.cell (p:=⟨b,off+j*2,none⟩) (World.block_lt_of_cell? w _ c0)).trans c0,(cI.out.cell (p:=⟨b,off+j*2+1,none⟩) (World.block_lt_of_cell? w _ c1)).trans c1⟩))
    have my:=qid (My (X:=X.drop i) (fun t ht=>(dV.out t (List.mem_of_mem_drop ht)).one))
    go_wp2_with (at_builtin;refine wpList_append_lies _ rfl _ _ 22 rfl w.heap.size 55 i31 (.agg #[.string ByteArray.empty,.slice none 0 0]) 2 40 ak bW cP cN cR rfl (by decide) _ _ _ rfl cX.out ⟨b,off+i*2,none⟩ (s.length-i) (cap-i) (tcs (X.drop i)) rfl ?u5 ny.out my.out ?u6 ?u7 ?u8 ?u9 _ rfl ?_)
    all_goals first
     |(rw[It,List.length_drop,fh.out];done)
     |(have:=cj.out;omega)
     |(have:=cj.out;have:=HL.out;have:=HI.out;unfold maxLen;omega)
     |(have:=cj.out;have:=HL.out;have:=HI.out;omega)
     |(have:=cI.out.size;simp;omega)
     |skip
    intro g8 nz w8 ay ef eS o5;have dJ:=cI.out.grown ef (by have:=cI.out.size;simp;omega) (fun k hk=>(cX.out.lt k hk).1)
    obtain⟨lr,lK⟩:=hZ2 ay dJ;clear ay ef eS dJ;go_wp2;go_ret;rw[←fu.out];exact⟨_,rfl,SQ.of_own2 lr.out fv.out gp.out (kR.out _ lK.out),lK.out⟩
def RZ(D:List Tb×List Rw×Int)(w:World)(e:Ending)(w':World):Prop:=∃va vr,e=.returned (.tuple #[va,vr,.int .i64 D.2.2])∧SQ w' va D.1∧RQ w' vr D.2.1∧Below w.heap.size w w'
theorem KI(v:Value)(s:List Tb)(n:ByteArray)(F:Int)(hF:bv s n 0=F)(hs:s.length≤1000000)(w:World)(h:SR w v s):
  Calls Tryz.prog 59 #[v,.string n] w fun e w'=>e=.returned (.int .i64 F)∧Below w.heap.size w w':=by
 subst hF;exact VF v s n w h hs
theorem Z5(v:Value)(l:List Rw)(kd:Int)(n:ByteArray)(K V:Int)(kb:Bool)(G:List Rw)(hG:Hk kb K l=G)(w:World)(h:RR w v l)(hl:l.length≤1000000):
  Calls Tryz.prog 85 #[v,.agg #[.int .i64 kd,.string n,.int .i64 K,.int .i64 V,.bool kb]] w (OG G w):=by
 subst hG;exact PG v l kd n K V kb w h hl
theorem Z6(v:Value)(l:List Rw)(kd:Int)(n:ByteArray)(K V:Int)(kb:Bool)(D:List Rw×Int)(hD:JD kd K V kb l=D)(hp:Ii l)(w:World)(h:RR w v l):
  Calls Tryz.prog 86 #[v,.agg #[.int .i64 kd,.string n,.int .i64 K,.int .i64 V,.bool kb]] w (WS v l D w):=by
 rw[←hD,←ZC hp.up];exact PI v l kd n K V kb w h (by have:=hp.len;omega) (fun r hr=>(hp.ins r hr).2)
theorem FS.chg{B gd cap:Nat}{w w1:World}{x:List Tv}{i:Nat}{q:Tv}{u:Value}{l:List Rw}(h:FS B w (.slice (some ⟨gd,0,none⟩) x.length cap) x)(hi:x[i]? =some q)(hb:Below w.heap.size w w1)(hu:OR w.heap.size w1 u l∨(u=q.2.1∧l=q.2.2))(hB:B≤w.heap.size):FS B (w1.setCell ⟨gd,i*2+1,none⟩ u) (.slice (some ⟨gd,0,none⟩) x.length cap) (x.set i (q.1,u,l)):=by
 refine h.modk i q hi u l ?_ (fun k hk _=>hb.block k hk) (fun j p hj hp=>?_)
 ·rcases hu with hu|⟨rfl,rfl⟩
  ·exact i7 hu hB
  ·exact aS (h.rows q (List.mem_of_getElem? hi)) hb
 ·rcases hu with hu|⟨rfl,rfl⟩
  ·cases nW:p.2.1.ownBlock with
   |none=>exact .inl rfl
   |some k=>exact .inr (fun e=>by
     have h1:=((h.rows p (List.mem_of_getElem? hp)).lt k nW).2;have h2:=(hu.lt k e.symm).1;omega)
  ·exact h.apart j i p q hj hp hi
theorem VB(v:Value)(s:List Tb)(n:ByteArray)(K V:Int)(kb:Bool)(D:List Tb×List Rw×Int)(w:World)(h:SR w v s)(hp:iS s)(hz:s.length≤100000)(hn:n.size≤1000000)(hf:0≤bv s n 0)(hD:D=(s,[],9)):
  Calls Tryz.prog 58 #[v,.agg #[.int .i64 5,.string n,.int .i64 K,.int .i64 V,.bool kb]] w (RZ D w):=by
 skip
 have fM:=qid hD;clear hD;obtain⟨F,hF⟩:∃F,bv s n 0=F:=⟨_,rfl⟩;have mV:=qid hF;have lf:(0:Int)≤F:=by rw[←hF];exact hf
 have vU:¬(F<0):=by omega
 clear hf hF;obtain⟨W0,aH⟩:∃W0,w.alloc (.cells #[.int .i64 5,.string n,.int .i64 K,.int .i64 V,.bool kb] 34)=W0:=⟨_,rfl⟩;have bD:Below w.heap.size w W0:=by rw[←aH];exact(Below.refl _ _).alloc (Nat.le_refl _) _
 have cD:Blk W0 w.heap.size 34 (go (5,n,K,V,kb)):=by rw[←aH];exact Blk.new _ _ _
 have bG:=qid bD;have HH:=qid (h.below bD);obtain⟨HP,HN⟩:=hZ2 hp hn;have HF:=qid (hp.ok (by omega)).few
 have HL:Hid (s.length≤1000000):=qid (hp.ok (by omega)).few.1
 obtain⟨a,cap,rfl⟩:=h.form;have HK:=qid cD;clear h hp hz hn bD cD;go_enter Tryz.func58,Tryz.ntmps58;go_wp2_with fail;clear aH;refine(Gp _ s _ HH.out HF.out).mono ?_;rintro e w2 ⟨vd,x,rfl,cJ,dq,aA⟩;have aL:=qid (bG.out.trans (aA.mono bG.out.size));have gU:=qid (cJ.mono bG.out.size);have eP:=qid dq;have ek:=qid (HH.out.below aA);have dQ:=qid (HK.out.below aA HK.out.lt);obtain⟨y0,y1,y2,y3,y4⟩:=aC _ dQ.out;clear cJ dq aA;go_wp2_with fail;refine(KI _ s n _ mV.out HL.out _ ek.out).mono ?_;rintro e w3 ⟨rfl,aG⟩;have aO:=qid (aL.out.trans (aG.mono aL.out.size));have dA:=qid (gU.out.below aG);have pQ:=qid (ek.out.below aG);have eN:=qid (dQ.out.below aG dQ.out.lt);clear aG y0 y1 y2 y3 y4;obtain⟨y0,y1,y2,y3,y4⟩:=aC _ eN.out;go_wp2
 go_ret3
 rw[fM.out];exact⟨_,_,rfl,FS.sqE dA.out eP.out,.inl ⟨_,_,rfl,rfl⟩,aO.out⟩
theorem XP(v:Value)(s:List Tb)(n:ByteArray)(K V:Int)(kb:Bool)(D:List Tb×List Rw×Int)(w:World)(h:SR w v s)(hp:iS s)(hz:s.length≤100000)(hn:n.size≤1000000)(hf:bv s n 0<0)(dR:16≤s.length)(hD:D=(s,[],11)):
  Calls Tryz.prog 58 #[v,.agg #[.int .i64 5,.string n,.int .i64 K,.int .i64 V,.bool kb]] w (RZ D w):=by
 have pz:(16:Int)≤(s.length:Int):=by omega
 clear dR;have fM:=qid hD;clear hD;obtain⟨F,hF⟩:∃F,bv s n 0=F:=⟨_,rfl⟩;have mV:=qid hF;have lf:¬((0:Int)≤F):=by rw[←hF];omega
 have vU:F<0:=by omega
 clear hf hF;obtain⟨W0,aH⟩:∃W0,w.alloc (.cells #[.int .i64 5,.string n,.int .i64 K,.int .i64 V,.bool kb] 34)=W0:=⟨_,rfl⟩;have bD:Below w.heap.size w W0:=by rw[←aH];exact(Below.refl _ _).alloc (Nat.le_refl _) _
 have cD:Blk W0 w.heap.size 34 (go (5,n,K,V,kb)):=by rw[←aH];exact Blk.new _ _ _
 have bG:=qid bD;have HH:=qid (h.below bD);obtain⟨HP,HN⟩:=hZ2 hp hn;have HF:=qid (hp.ok (by omega)).few
 have HL:Hid (s.length≤1000000):=qid (hp.ok (by omega)).few.1
 obtain⟨a,cap,rfl⟩:=h.form;have HK:=qid cD;clear h hp hz hn bD cD;go_enter Tryz.func58,Tryz.ntmps58;go_wp2_with fail;clear aH;refine(Gp _ s _ HH.out HF.out).mono ?_;rintro e w2 ⟨vd,x,rfl,cJ,dq,aA⟩;have aL:=qid (bG.out.trans (aA.mono bG.out.size));have gU:=qid (cJ.mono bG.out.size);have eP:=qid dq;have ek:=qid (HH.out.below aA);have dQ:=qid (HK.out.below aA HK.out.lt);obtain⟨y0,y1,y2,y3,y4⟩:=aC _ dQ.out;clear cJ dq aA;go_wp2_with fail;refine(KI _ s n _ mV.out HL.out _ ek.out).mono ?_;rintro e w3 ⟨rfl,aG⟩;have aO:=qid (aL.out.trans (aG.mono aL.out.size));have dA:=qid (gU.out.below aG);have pQ:=qid (ek.out.below aG);have eN:=qid (dQ.out.below aG dQ.out.lt);clear aG y0 y1 y2 y3 y4;obtain⟨y0,y1,y2,y3,y4⟩:=aC _ eN.out;go_wp2
 go_ret3
 rw[fM.out];exact⟨_,_,rfl,FS.sqE dA.out eP.out,.inl ⟨_,_,rfl,rfl⟩,aO.out⟩
theorem XQ(v:Value)(s:List Tb)(n:ByteArray)(K V:Int)(kb:Bool)(D:List Tb×List Rw×Int)(w:World)(h:SR w v s)(hp:iS s)(hz:s.length≤100000)(hn:n.size≤1000000)(hf:bv s n 0<0)(dR:¬16≤s.length)(hD:D=(H9 s n,[],0)):
  Calls Tryz.prog 58 #[v,.agg #[.int .i64 5,.string n,.int .i64 K,.int .i64 V,.bool kb]] w (RZ D w):=by
 have pz:¬((16:Int)≤(s.length:Int)):=by omega
 clear dR;have fM:=qid hD;clear hD;obtain⟨F,hF⟩:∃F,bv s n 0=F:=⟨_,rfl⟩;have mV:=qid hF;have lf:¬((0:Int)≤F):=by rw[←hF];omega
 have vU:F<0:=by omega
 clear hf hF;obtain⟨W0,aH⟩:∃W0,w.alloc (.cells #[.int .i64 5,.string n,.int .i64 K,.int .i64 V,.bool kb] 34)=W0:=⟨_,rfl⟩;have bD:Below w.heap.size w W0:=by rw[←aH];exact(Below.refl _ _).alloc (Nat.le_refl _) _
 have cD:Blk W0 w.heap.size 34 (go (5,n,K,V,kb)):=by rw[←aH];exact Blk.new _ _ _
 have bG:=qid bD;have HH:=qid (h.below bD);obtain⟨HP,HN⟩:=hZ2 hp hn;have HF:=qid (hp.ok (by omega)).few
 have HL:Hid (s.length≤1000000):=qid (hp.ok (by omega)).few.1
 obtain⟨a,cap,rfl⟩:=h.form;have HK:=qid cD;clear h hp hz hn bD cD;go_enter Tryz.func58,Tryz.ntmps58;go_wp2_with fail;clear aH;refine(Gp _ s _ HH.out HF.out).mono ?_;rintro e w2 ⟨vd,x,rfl,cJ,dq,aA⟩;have aL:=qid (bG.out.trans (aA.mono bG.out.size));have gU:=qid (cJ.mono bG.out.size);have eP:=qid dq;have ek:=qid (HH.out.below aA);have dQ:=qid (HK.out.below aA HK.out.lt);obtain⟨y0,y1,y2,y3,y4⟩:=aC _ dQ.out;clear cJ dq aA;go_wp2_with fail;refine(KI _ s n _ mV.out HL.out _ ek.out).mono ?_;rintro e w3 ⟨rfl,aG⟩;have aO:=qid (aL.out.trans (aG.mono aL.out.size));have dA:=qid (gU.out.below aG);have pQ:=qid (ek.out.below aG);have eN:=qid (dQ.out.below aG dQ.out.lt);clear aG y0 y1 y2 y3 y4;obtain⟨y0,y1,y2,y3,y4⟩:=aC _ eN.out;go_wp2_with fail;refine(RY _ s n _ (FS.sqE dA.out eP.out) HF.out HN.out).mono ?_;rintro e w4 ⟨vm,rfl,s8,ai⟩;have cH:=qid (aO.out.trans (ai.mono aO.out.size));have vF:=qid s8;clear s8 ai;go_wp2
 go_ret3
 rw[fM.out];exact⟨_,_,rfl,vF.out,.inl ⟨_,_,rfl,rfl⟩,cH.out⟩
theorem XR(v:Value)(s:List Tb)(kd:Int)(n:ByteArray)(K V:Int)(kb:Bool)(D:List Tb×List Rw×Int)(w:World)(h:SR w v s)(hp:iS s)(hz:s.length≤100000)(hn:n.size≤1000000)(hf:bv s n 0<0)(h5:kd≠5)(hD:D=(s,[],8)):
  Calls Tryz.prog 58 #[v,.agg #[.int .i64 kd,.string n,.int .i64 K,.int .i64 V,.bool kb]] w (RZ D w):=by
 have n5:(kd==5)=false:=beq_eq_false_iff_ne.2 h5;have fM:=qid hD;clear hD;obtain⟨F,hF⟩:∃F,bv s n 0=F:=⟨_,rfl⟩;have mV:=qid hF;have lf:¬((0:Int)≤F):=by rw[←hF];omega
 have vU:F<0:=by omega
 clear hf hF;obtain⟨W0,aH⟩:∃W0,w.alloc (.cells #[.int .i64 kd,.string n,.int .i64 K,.int .i64 V,.bool kb] 34)=W0:=⟨_,rfl⟩;have bD:Below w.heap.size w W0:=by rw[←aH];exact(Below.refl _ _).alloc (Nat.le_refl _) _
 have cD:Blk W0 w.heap.size 34 (go (kd,n,K,V,kb)):=by rw[←aH];exact Blk.new _ _ _
 have bG:=qid bD;have HH:=qid (h.below bD);obtain⟨HP,HN⟩:=hZ2 hp hn;have HF:=qid (hp.ok (by omega)).few
 have HL:Hid (s.length≤1000000):=qid (hp.ok (by omega)).few.1
 obtain⟨a,cap,rfl⟩:=h.form;have HK:=qid cD;clear h hp hz hn bD cD;go_enter Tryz.func58,Tryz.ntmps58;go_wp2_with fail;clear aH;refine(Gp _ s _ HH.out HF.out).mono ?_;rintro e w2 ⟨vd,x,rfl,cJ,dq,aA⟩;have aL:=qid (bG.out.trans (aA.mono bG.out.size));have gU:=qid (cJ.mono bG.out.size);have eP:=qid dq;have ek:=qid (HH.out.below aA);have dQ:=qid (HK.out.below aA HK.out.lt);obtain⟨y0,y1,y2,y3,y4⟩:=aC _ dQ.out;clear cJ dq aA;go_wp2_with fail;refine(KI _ s n _ mV.out HL.out _ ek.out).mono ?_;rintro e w3 ⟨rfl,aG⟩;have aO:=qid (aL.out.trans (aG.mono aL.out.size));have dA:=qid (gU.out.below aG);have pQ:=qid (ek.out.below aG);have eN:=qid (dQ.out.below aG dQ.out.lt);clear aG y0 y1 y2 y3 y4;obtain⟨y0,y1,y2,y3,y4⟩:=aC _ eN.out;go_wp2
 go_ret3
 rw[fM.out];exact⟨_,_,rfl,FS.sqE dA.out eP.out,.inl ⟨_,_,rfl,rfl⟩,aO.out⟩
theorem Z7(v:Value)(s:List Tb)(n:ByteArray)(K V:Int)(kb:Bool)(D:List Tb×List Rw×Int)(w:World)(h:SR w v s)(hp:iS s)(hz:s.length≤100000)(hn:n.size≤1000000)(k:Nat)(t:Tb)(hf:bv s n 0=(k:Int))(ht:s[k]? =some t)(hD:D=(s,Hk kb K t.2,0)):
  Calls Tryz.prog 58 #[v,.agg #[.int .i64 1,.string n,.int .i64 K,.int .i64 V,.bool kb]] w (RZ D w):=by
 skip
 have fM:=qid hD;clear hD;obtain⟨F,hF⟩:∃F,bv s n 0=F:=⟨_,rfl⟩;have mV:=qid hF;obtain rfl:F=(k:Int):=by rw[←hF];exact hf
 have vU:¬((k:Int)<0):=by omega
 have EC:(0:Int)≤(k:Int):=by omega
 clear hf hF;obtain⟨W0,aH⟩:∃W0,w.alloc (.cells #[.int .i64 1,.string n,.int .i64 K,.int .i64 V,.bool kb] 34)=W0:=⟨_,rfl⟩;have bD:Below w.heap.size w W0:=by rw[←aH];exact(Below.refl _ _).alloc (Nat.le_refl _) _
 have cD:Blk W0 w.heap.size 34 (go (1,n,K,V,kb)):=by rw[←aH];exact Blk.new _ _ _
 have bG:=qid bD;have HH:=qid (h.below bD);obtain⟨HP,HN⟩:=hZ2 hp hn;have HF:=qid (hp.ok (by omega)).few
 have HL:Hid (s.length≤1000000):=qid (hp.ok (by omega)).few.1
 obtain⟨a,cap,rfl⟩:=h.form;have HK:=qid cD;clear h hp hz hn bD cD;go_enter Tryz.func58,Tryz.ntmps58;go_wp2_with fail;clear aH;refine(Gp _ s _ HH.out HF.out).mono ?_;rintro e w2 ⟨vd,x,rfl,cJ,dq,aA⟩;have aL:=qid (bG.out.trans (aA.mono bG.out.size));have gU:=qid (cJ.mono bG.out.size);have eP:=qid dq;have ek:=qid (HH.out.below aA);have dQ:=qid (HK.out.below aA HK.out.lt);obtain⟨y0,y1,y2,y3,y4⟩:=aC _ dQ.out;clear cJ dq aA;go_wp2_with fail;refine(KI _ s n _ mV.out HL.out _ ek.out).mono ?_;rintro e w3 ⟨rfl,aG⟩;have aO:=qid (aL.out.trans (aG.mono aL.out.size));have dA:=qid (gU.out.below aG);have pQ:=qid (ek.out.below aG);have eN:=qid (dQ.out.below aG dQ.out.lt);clear aG y0 y1 y2 y3 y4;obtain⟨y0,y1,y2,y3,y4⟩:=aC _ eN.out;obtain⟨b,off,cp,he,cL,hx⟩:=pQ.out.inv (by have:=(List.getElem?_eq_some_iff.1 ht).1;omega)
 injection he with ea _ ec;subst ea ec;obtain⟨_,u,x1,hu⟩:=hx k t ht;have lk:(k:Int)<(s.length:Int):=by have:=(List.getElem?_eq_some_iff.1 ht).1;omega
 obtain⟨HT,HU,bX⟩:=hZ3 ht hu x1;have kE:=qid (World.block_lt_of_cell? _ _ x1);have uz:=qid (HP.out.each t (List.mem_of_getElem? ht)).2.2;clear hx cL ht hu x1;go_wp2_with fail;refine wp_region_held_drew (S:=(fun w'=>Below w3.heap.size w3 w')) (by kernel_rfl) ?_ (fun hS=>?_)
 ·exact(Below.refl _ _).drew
 try dsimp only at hS
 refine tkY 0 ?_ rfl hS ?_ ?_;rotate_left
 ·intro wz a8;have ab:=bcl a8 kE.out bX.out;obtain⟨y0,y1,y2,y3,y4⟩:=aC (1,n,K,V,kb) (eN.out.below a8 (Blk.lt eN.out));go_simp;all_goals with_reducible rfl
 iterate 6 ((try simp only[Act.put,pu]);refine tkM ?_ rfl hS ?_ ?_;rotate_left;(·intro wz a8;have ab:=bcl a8 kE.out bX.out;obtain⟨y0,y1,y2,y3,y4⟩:=aC (1,n,K,V,kb) (eN.out.below a8 (Blk.lt eN.out));go_simp;all_goals with_reducible rfl))
 try simp only[Act.put,pu]
 refine wpAnyH_ready (rs:=[7]) (by kernel_rfl) (by simp) (AllReadyH.cons rfl (fun K' hK=>?_) AllReadyH.nil)
 go_simp;refine(Z5 u t.2 1 n K V kb _ rfl _ (HU.out.below hS) (by have:=uz.out.len;omega)).mono ?_;rintro e w8 ⟨vg,rfl,hO,bL⟩
 have lr:=qid hO.rq;clear hO;refine hK.out _ _ ?_ (fun aF=>?_)
 ·exact hS.trans (bL.mono hS.size)
 clear hK K' bL hS;have hS:=aF;clear aF
 try dsimp only at hS
 (try simp only[Act.put,pu]);refine tkY 8 ?_ rfl hS ?_ ?_;rotate_left
 ·intro wz a8;have ab:=bcl a8 kE.out bX.out;obtain⟨y0,y1,y2,y3,y4⟩:=aC (1,n,K,V,kb) (eN.out.below a8 (Blk.lt eN.out));go_simp;all_goals with_reducible rfl
 iterate 2 ((try simp only[Act.put,pu]);refine tkM ?_ rfl hS ?_ ?_;rotate_left;(·intro wz a8;have ab:=bcl a8 kE.out bX.out;obtain⟨y0,y1,y2,y3,y4⟩:=aC (1,n,K,V,kb) (eN.out.below a8 (Blk.lt eN.out));go_simp;all_goals with_reducible rfl))
 try simp only[Act.put,pu]
 refine wpAnyH_done (by kernel_rfl) ?_ _
 go_wp2
 go_ret3
 rw[fM.out];exact⟨_,_,rfl,FS.sqE (dA.out.below hS) eP.out,lr.out,aO.out.trans (hS.mono aO.out.size)⟩
theorem Z8(v:Value)(s:List Tb)(kd:Int)(n:ByteArray)(K V:Int)(kb:Bool)(D:List Tb×List Rw×Int)(w:World)(h:SR w v s)(hp:iS s)(hz:s.length≤100000)(hn:n.size≤1000000)(k:Nat)(t:Tb)(hf:bv s n 0=(k:Int))(ht:s[k]? =some t)(h1:kd≠1)(h5:kd≠5)(hD:D=(s.set k (t.1,(JD kd K V kb t.2).1),[],(JD kd K V kb t.2).2)):
  Calls Tryz.prog 58 #[v,.agg #[.int .i64 kd,.string n,.int .i64 K,.int .i64 V,.bool kb]] w (RZ D w):=by
 have n5:(kd==5)=false:=beq_eq_false_iff_ne.2 h5;have n1:(kd==1)=false:=beq_eq_false_iff_ne.2 h1;have fM:=qid hD;clear hD;obtain⟨F,hF⟩:∃F,bv s n 0=F:=⟨_,rfl⟩;have mV:=qid hF;obtain rfl:F=(k:Int):=by rw[←hF];exact hf
 have vU:¬((k:Int)<0):=by omega
 have EC:(0:Int)≤(k:Int):=by omega
 clear hf hF;obtain⟨W0,aH⟩:∃W0,w.alloc (.cells #[.int .i64 kd,.string n,.int .i64 K,.int .i64 V,.bool kb] 34)=W0:=⟨_,rfl⟩;have bD:Below w.heap.size w W0:=by rw[←aH];exact(Below.refl _ _).alloc (Nat.le_refl _) _
 have cD:Blk W0 w.heap.size 34 (go (kd,n,K,V,kb)):=by rw[←aH];exact Blk.new _ _ _
 have bG:=qid bD;have HH:=qid (h.below bD);obtain⟨HP,HN⟩:=hZ2 hp hn;have HF:=qid (hp.ok (by omega)).few
 have HL:Hid (s.length≤1000000):=qid (hp.ok (by omega)).few.1
 obtain⟨a,cap,rfl⟩:=h.form;have HK:=qid cD;clear h hp hz hn bD cD;go_enter Tryz.func58,Tryz.ntmps58;go_wp2_with fail;clear aH;refine(Gp _ s _ HH.out HF.out).mono ?_;rintro e w2 ⟨vd,x,rfl,cJ,dq,aA⟩;have aL:=qid (bG.out.trans (aA.mono bG.out.size));have gU:=qid (cJ.mono bG.out.size);have eP:=qid dq;have ek:=qid (HH.out.below aA);have dQ:=qid (HK.out.below aA HK.out.lt);obtain⟨y0,y1,y2,y3,y4⟩:=aC _ dQ.out;clear cJ dq aA;go_wp2_with fail;refine(KI _ s n _ mV.out HL.out _ ek.out).mono ?_;rintro e w3 ⟨rfl,aG⟩;have aO:=qid (aL.out.trans (aG.mono aL.out.size));have dA:=qid (gU.out.below aG);have pQ:=qid (ek.out.below aG);have eN:=qid (dQ.out.below aG dQ.out.lt);clear aG y0 y1 y2 y3 y4;obtain⟨y0,y1,y2,y3,y4⟩:=aC _ eN.out;obtain⟨C,hC⟩:∃C,JD kd K V kb t.2=C:=⟨_,rfl⟩;have HC:=qid hC;rw[hC]at fM;have ED:∃q:Tv,x[k]? =some q∧q.1=t.1∧q.2.2=t.2:=by
  have h0:=eP.out;obtain⟨u,hu⟩:=IX x k t (by rw[h0];exact ht)
  exact⟨_,hu,rfl,rfl⟩
 obtain⟨q,hq,na,gG⟩:=ED;have uz:=qid (HP.out.each t (List.mem_of_getElem? ht)).2.2;have lk:(k:Int)<(x.length:Int):=by have:=(List.getElem?_eq_some_iff.1 hq).1;omega
 obtain⟨gd,EE,rfl,Bg,cx⟩:=dA.out.form (by have:=(List.getElem?_eq_some_iff.1 hq).1;omega)
 have ct:=(FS.at_ dA.out k q hq).2;have lL:=(dA.out.rows q (List.mem_of_getElem? hq)).rr;obtain⟨bX,kE,HQ,tU⟩:=hZ4 ct cx hq Bg;have HU:=qid (show RR w3 q.2.1 t.2 by rw[←gG];exact lL)
 obtain⟨fB,mM,HT⟩:=hZ3 na gG ht;obtain⟨qa,qc,zE⟩:=HU.out.form;have Bh:=qid zE;rw[zE]at bX;clear hC hq na gG Bg cx ct lL ht zE;go_wp2_with fail;refine wp_region_held_drew (S:=(fun w'=>Below w3.heap.size w3 w')) (by kernel_rfl) ?_ (fun hS=>?_)
 ·exact(Below.refl _ _).drew
 try dsimp only at hS
 refine tkY 0 ?_ rfl hS ?_ ?_;rotate_left
 ·intro wz a8;have ab:=bcl a8 kE.out bX.out;obtain⟨y0,y1,y2,y3,y4⟩:=aC (kd,n,K,V,kb) (eN.out.below a8 (Blk.lt eN.out));go_simp;all_goals with_reducible rfl
 iterate 5 ((try simp only[Act.put,pu]);refine tkM ?_ rfl hS ?_ ?_;rotate_left;(·intro wz a8;have ab:=bcl a8 kE.out bX.out;obtain⟨y0,y1,y2,y3,y4⟩:=aC (kd,n,K,V,kb) (eN.out.below a8 (Blk.lt eN.out));go_simp;all_goals with_reducible rfl))
 try simp only[Act.put,pu]
 refine wpAnyH_ready (rs:=[6]) (by kernel_rfl) (by simp) (AllReadyH.cons rfl (fun K' hK=>?_) AllReadyH.nil)
 go_simp;refine(Z6 (.slice qa t.2.length qc) t.2 kd n K V kb C HC.out uz.out _ (by have:=HU.out.below hS;rw[Bh.out]at this;exact this)).mono ?_;rintro e w8 ⟨u,rfl,hO,bL⟩
 obtain⟨ua,ul,uc,rfl⟩:∃ua ul uc,u=.slice ua ul uc:=by rcases hO with h|⟨h,_⟩;(obtain⟨_,_,h⟩:=Ac h;exact⟨_,_,_,h⟩);exact⟨_,_,_,h⟩
 have zF:=qid (FS.chg (dA.out.below hS) HQ.out bL (u:=.slice ua ul uc) (l:=C.1) (by rw[mM.out,Bh.out];exact hO) (Nat.le_trans aO.out.size hS.size))
 have ah:=(dA.out.below hS).below bL;obtain⟨_,e1⟩:=FS.at_ ah k q HQ.out;have ff:=World.ownsRow.frozenAt ah.own (k*2+1);clear ah hO;refine hK.out _ _ ?_ (fun aF=>?_)
 ·exact hS.trans (bL.mono hS.size)
 clear hK K' bL hS;have hS:=aF;clear aF
 try dsimp only at hS
 (try simp only[Act.put,pu]);refine tkY 7 ?_ rfl hS ?_ ?_;rotate_left
 ·intro wz a8;have ab:=bcl a8 kE.out bX.out;obtain⟨y0,y1,y2,y3,y4⟩:=aC (kd,n,K,V,kb) (eN.out.below a8 (Blk.lt eN.out));go_simp;all_goals with_reducible rfl
 iterate 4 ((try simp only[Act.put,pu]);refine tkM ?_ rfl hS ?_ ?_;rotate_left;(·intro wz a8;have ab:=bcl a8 kE.out bX.out;obtain⟨y0,y1,y2,y3,y4⟩:=aC (kd,n,K,V,kb) (eN.out.below a8 (Blk.lt eN.out));go_simp;all_goals with_reducible rfl))
 try simp only[Act.put,pu]
 refine wpAnyH_done (by kernel_rfl) ?_ _
 have HS:=qid hS;clear hS;go_wp2
 go_ret3
 rw[fM.out];exact⟨_,_,rfl,FS.sqE zF.out (by rw[KX,eP.out,fB.out]),.inl ⟨_,_,rfl,rfl⟩,(aO.out.trans (HS.out.mono aO.out.size)).setCell (p:=⟨gd,k*2+1,none⟩) tU.out _⟩
theorem MY(v:Value)(s:List Tb)(kd:Int)(n:ByteArray)(K V:Int)(kb:Bool)(D:List Tb×List Rw×Int)(hD:doS s kd n K V kb=D)(hp:iS s)(hz:s.length≤100000)(hn:n.size≤1000000)(w:World)(h:SR w v s):
  Calls Tryz.prog 58 #[v,.agg #[.int .i64 kd,.string n,.int .i64 K,.int .i64 V,.bool kb]] w (RZ D w):=by
 subst hD
 by_cases h5:kd=5
 ·subst h5
  by_cases hf:0≤bv s n 0
  ·exact VB v s n K V kb _ w h hp hz hn hf (by unfold doS;rw[if_pos rfl,if_pos hf])
  ·by_cases dR:16≤s.length
   ·exact XP v s n K V kb _ w h hp hz hn (by omega) dR (by unfold doS;rw[if_pos rfl,if_neg hf,if_pos dR])
   ·exact XQ v s n K V kb _ w h hp hz hn (by omega) dR (by unfold doS;rw[if_pos rfl,if_neg hf,if_neg dR])
 ·rcases IA s n 0 with⟨hf,_⟩|⟨k,t,hf,ht,_⟩
  ·exact XR v s kd n K V kb _ w h hp hz hn (by rw[hf];decide) h5 (by unfold doS;rw[if_neg h5,if_pos (by rw[hf];decide)])
  ·rw[Nat.zero_add]at hf
   by_cases h1:kd=1
   ·subst h1
    exact Z7 v s n K V kb _ w h hp hz hn k t hf ht (by unfold doS;rw[if_neg h5,hf,if_neg (by omega),Int.toNat_natCast,ht];rfl)
   ·exact Z8 v s kd n K V kb _ w h hp hz hn k t hf ht h1 h5 (by unfold doS;rw[if_neg h5,hf,if_neg (by omega),Int.toNat_natCast,ht];simp only;rw[if_neg h1])
def J1(B g n:Nat)(R:Dbp×List Rw×Int)(w:World)(e:Ending)(w':World):Prop:=∃rv,e=.returned (.tuple #[rv,.int .i64 R.2.2])∧RQ w' rv R.2.1∧StR B g n R.1 w w'
theorem XS(B:Nat)(w:World)(g:Nat)(S:List Tb)(x:List Sv)(h:RD B w g S x)(hB:B≤w.heap.size)(hx:x.length≤80000)(id:Int)(k:Nat)(hI:ce (dbS S (sns x)) k)(bA:k≤80000)(kd:Int)(nm:ByteArray)(K V:Int)(kb:Bool)(aZ:nm.size≤1000)(s2:List Tb)(rl:List Rw)(er:Int)(hD:doS (d6 (dbS S (sns x)) id) kd nm K V kb=(s2,rl,er))(he:er≠0):
  Calls Tryz.prog 39 #[SL.ptr g,.int .i64 id,.agg #[.int .i64 kd,.string nm,.int .i64 K,.int .i64 V,.bool kb]] w (J1 B g x.length (Hg (dbS S (sns x)) id,[],er) w):=by
 obtain⟨W0,aH⟩:∃W,w.alloc (.cells #[.int .i64 kd,.string nm,.int .i64 K,.int .i64 V,.bool kb] 34)=W:=⟨_,rfl⟩;obtain⟨cb,an⟩:∃b,w.heap.size=b:=⟨_,rfl⟩;have b0:Below w.heap.size w W0:=by rw[←aH];exact(Below.refl _ _).alloc (Nat.le_refl _) _
 have k0:SL.Bk W0 cb 34 #[.int .i64 kd,.string nm,.int .i64 K,.int .i64 V,.bool kb]:=by rw[←aH,←an];exact SL.Bk.new _ _ _
 have e7:=hI.seen id;have jM:Hid (S.length≤16):=qid hI.st.len;have aY:Hid (iS S):=qid hI.st.tabs;have vV:=qid e7;have qI:Hid ((d6 (dbS S (sns x)) id).length≤90000):=qid (by have:=e7.2;omega)
 have HI:Hid (ce (dbS S (sns x)) k):=qid hI;obtain⟨fO,HX,HB⟩:=hZ3 bA hx hB;have H0:=qid (h.below b0);obtain⟨gu,bG⟩:=hZ2 k0 b0;have kv:Hid (B≤W0.heap.size):=qid (Nat.le_trans hB b0.size);obtain⟨HD,HN⟩:=hZ2 hD aZ;clear h hB hI bA aZ b0 k0 e7 hD;have y0:W0.cell? ⟨cb,0,none⟩=some (.int .i64 kd):=gu.out.cell 0;have y1:W0.cell? ⟨cb,1,none⟩=some (.string nm):=gu.out.cell 1;have y2:W0.cell? ⟨cb,2,none⟩=some (.int .i64 K):=gu.out.cell 2;have y3:W0.cell? ⟨cb,3,none⟩=some (.int .i64 V):=gu.out.cell 3;have y4:W0.cell? ⟨cb,4,none⟩=some (.bool kb):=gu.out.cell 4;go_enter Tryz.func39,Tryz.ntmps39;go_wp2_with fail
 try rw[aH]
 try rw[an]
 try clear aH an
 go_wp2_with fail;refine wp_region_held_drew (S:=(fun w'=>w'.cell? ⟨cb,0,none⟩=some (.int .i64 kd)∧w'.cell? ⟨cb,1,none⟩=some (.string nm)∧w'.cell? ⟨cb,2,none⟩=some (.int .i64 K)∧w'.cell? ⟨cb,3,none⟩=some (.int .i64 V)∧w'.cell? ⟨cb,4,none⟩=some (.bool kb)∧Below W0.heap.size W0 w')) (by kernel_rfl) ?_ (fun hS=>?_)
 ·exact⟨y0,y1,y2,y3,y4,(Below.refl _ _).drew⟩
 refine tkY 0 ?_ rfl hS ?_ ?_;rotate_left
 ·intro wz hz
  go_simp
  all_goals first|with_reducible rfl|omega
 try simp only[Act.put,pu]
 refine tkY 1 ?_ rfl hS ?_ ?_;rotate_left
 ·intro wz hz
  go_simp
  all_goals first|with_reducible rfl|omega
 try simp only[Act.put,pu]
 refine tkY 3 ?_ rfl hS ?_ ?_;rotate_left
 ·intro wz hz
  obtain⟨z0,z1,z2,z3,z4,_⟩:=hz;go_simp
  all_goals first|with_reducible rfl|omega
 try simp only[Act.put,pu]
 refine wpAnyH_ready (rs:=[2]) (by kernel_rfl) (by simp) (AllReadyH.cons rfl (fun K' ae=>?_) AllReadyH.nil)
 go_simp;have hB:=hS.2.2.2.2.2;obtain⟨wd,fP⟩:∃W,W0.drew=W:=⟨_,rfl⟩
 try rw[fP]
 try rw[fP]at hB
 refine(JF B wd g S x (H0.out.below hB) (by have:=HX.out;omega) id k HI.out (by have:=fO.out;omega) _ rfl).mono ?_
 rintro e w3 ⟨v3,rfl,js,aG⟩;have cq:Below W0.heap.size W0 w3:=hB.trans (aG.mono hB.size);obtain⟨aO,kW⟩:=hZ2 cq js;have d0:=(cq.cell (p:=⟨cb,0,none⟩) (World.block_lt_of_cell? W0 _ y0)).trans y0;have d1:=(cq.cell (p:=⟨cb,1,none⟩) (World.block_lt_of_cell? W0 _ y1)).trans y1;have d2:=(cq.cell (p:=⟨cb,2,none⟩) (World.block_lt_of_cell? W0 _ y2)).trans y2;have d3:=(cq.cell (p:=⟨cb,3,none⟩) (World.block_lt_of_cell? W0 _ y3)).trans y3;have d4:=(cq.cell (p:=⟨cb,4,none⟩) (World.block_lt_of_cell? W0 _ y4)).trans y4;clear aG cq hB js fP;refine ae.out _ _ ?_ (fun aF=>?_)
 ·exact⟨d0,d1,d2,d3,d4,aO.out⟩
 clear ae K' hS;have hS:=aF;clear aF
 try simp only[Act.put,pu]
 clear d0 d1 d2 d3 d4;obtain⟨uu,uv,rfl⟩:=kW.out.form;refine wpAnyH_ready (rs:=[4]) (by kernel_rfl) (by simp) (AllReadyH.cons rfl (fun K' ae=>?_) AllReadyH.nil)
 go_simp;refine(MY _ _ kd nm K V kb _ HD.out vV.out.1 (by have:=qI.out;omega) (by have:=HN.out;omega) w3 kW.out.sr).mono ?_
 rintro e w4 ⟨va,vr,rfl,pR,dc,ai⟩;have gV:Below W0.heap.size W0 w4:=aO.out.trans (ai.mono aO.out.size);have cH:=qid gV;have rF:Hid (SQ w4 va s2):=qid pR;have ig:Hid (RQ w4 vr rl):=qid dc;have d0:=(gV.cell (p:=⟨cb,0,none⟩) (World.block_lt_of_cell? W0 _ y0)).trans y0;have d1:=(gV.cell (p:=⟨cb,1,none⟩) (World.block_lt_of_cell? W0 _ y1)).trans y1;have d2:=(gV.cell (p:=⟨cb,2,none⟩) (World.block_lt_of_cell? W0 _ y2)).trans y2;have d3:=(gV.cell (p:=⟨cb,3,none⟩) (World.block_lt_of_cell? W0 _ y3)).trans y3;have d4:=(gV.cell (p:=⟨cb,4,none⟩) (World.block_lt_of_cell? W0 _ y4)).trans y4;clear ai gV pR dc;refine ae.out _ _ ?_ (fun aF=>?_)
 ·exact⟨d0,d1,d2,d3,d4,cH.out⟩
 clear ae K' hS;have hS:=aF;clear aF
 try simp only[Act.put,pu]
 obtain⟨aa,ac,rfl⟩:=rF.out.form;obtain⟨ra,rc,rfl⟩:=ig.out.form;refine tkY 5 ?_ rfl hS ?_ ?_;rotate_left
 ·intro wz hz
  go_simp
  all_goals first|with_reducible rfl|omega
 try simp only[Act.put,pu]
 refine tkY 6 ?_ rfl hS ?_ ?_;rotate_left
 ·intro wz hz
  go_simp
  all_goals first|with_reducible rfl|omega
 try simp only[Act.put,pu]
 refine tkY 7 ?_ rfl hS ?_ ?_;rotate_left
 ·intro wz hz
  go_simp
  all_goals first|with_reducible rfl|omega
 try simp only[Act.put,pu]
 refine tkY 8 ?_ rfl hS ?_ ?_;rotate_left
 ·intro wz hz
  go_simp
  all_goals first|with_reducible rfl|omega
 try simp only[Act.put,pu]
 refine tkY 9 ?_ rfl hS ?_ ?_;rotate_left
 ·intro wz hz
  go_simp
  all_goals first|with_reducible rfl|omega
 try simp only[Act.put,pu]
 refine tkY 10 ?_ rfl hS ?_ ?_;rotate_left
 ·intro wz hz
  go_simp
  all_goals first|with_reducible rfl|omega
 try simp only[Act.put,pu]
 refine tkY 11 ?_ rfl hS ?_ ?_;rotate_left
 ·intro wz hz
  go_simp
  all_goals first|with_reducible rfl|omega
 try simp only[Act.put,pu]
 refine wpAnyH_done (by kernel_rfl) ?_ _
 clear hS;clear y0 y1 y2 y3 y4;go_wp2_with fail;refine(M6 B w4 g S x (H0.out.below cH.out) (by have:=HX.out;omega) id er).mono ?_
 rintro e w5 ⟨rfl,ah⟩;have zG:=qid ah;clear ah d0 d1 d2 d3 d4;go_wp2
 go_ret2
 exact⟨_,rfl,RQ.nil _,StR.pre (bG.out.trans (cH.out.mono bG.out.size)) zG.out⟩
theorem XT(B:Nat)(w:World)(g:Nat)(S:List Tb)(x:List Sv)(h:RD B w g S x)(hB:B≤w.heap.size)(hx:x.length≤80000)(id:Int)(k:Nat)(hI:ce (dbS S (sns x)) k)(bA:k≤80000)(kd:Int)(nm:ByteArray)(K V:Int)(kb:Bool)(aZ:nm.size≤1000)(s2:List Tb)(rl:List Rw)(er:Int)(hD:doS (d6 (dbS S (sns x)) id) kd nm K V kb=(s2,rl,er))(he:er=0)(h1:kd=1):
  Calls Tryz.prog 39 #[SL.ptr g,.int .i64 id,.agg #[.int .i64 kd,.string nm,.int .i64 K,.int .i64 V,.bool kb]] w (J1 B g x.length (dbS S (sns x),rl,0) w):=by
 subst he h1;obtain⟨W0,aH⟩:∃W,w.alloc (.cells #[.int .i64 1,.string nm,.int .i64 K,.int .i64 V,.bool kb] 34)=W:=⟨_,rfl⟩;obtain⟨cb,an⟩:∃b,w.heap.size=b:=⟨_,rfl⟩;have b0:Below w.heap.size w W0:=by rw[←aH];exact(Below.refl _ _).alloc (Nat.le_refl _) _
 have k0:SL.Bk W0 cb 34 #[.int .i64 1,.string nm,.int .i64 K,.int .i64 V,.bool kb]:=by rw[←aH,←an];exact SL.Bk.new _ _ _
 have e7:=hI.seen id;have jM:Hid (S.length≤16):=qid hI.st.len;have aY:Hid (iS S):=qid hI.st.tabs;have vV:=qid e7;have qI:Hid ((d6 (dbS S (sns x)) id).length≤90000):=qid (by have:=e7.2;omega)
 have HI:Hid (ce (dbS S (sns x)) k):=qid hI;obtain⟨fO,HX,HB⟩:=hZ3 bA hx hB;have H0:=qid (h.below b0);obtain⟨gu,bG⟩:=hZ2 k0 b0;have kv:Hid (B≤W0.heap.size):=qid (Nat.le_trans hB b0.size);obtain⟨HD,HN⟩:=hZ2 hD aZ;clear h hB hI bA aZ b0 k0 e7 hD;have y0:W0.cell? ⟨cb,0,none⟩=some (.int .i64 1):=gu.out.cell 0;have y1:W0.cell? ⟨cb,1,none⟩=some (.string nm):=gu.out.cell 1;have y2:W0.cell? ⟨cb,2,none⟩=some (.int .i64 K):=gu.out.cell 2;have y3:W0.cell? ⟨cb,3,none⟩=some (.int .i64 V):=gu.out.cell 3;have y4:W0.cell? ⟨cb,4,none⟩=some (.bool kb):=gu.out.cell 4;go_enter Tryz.func39,Tryz.ntmps39;go_wp2_with fail
 try rw[aH]
 try rw[an]
 try clear aH an
 go_wp2_with fail;refine wp_region_held_drew (S:=(fun w'=>w'.cell? ⟨cb,0,none⟩=some (.int .i64 1)∧w'.cell? ⟨cb,1,none⟩=some (.string nm)∧w'.cell? ⟨cb,2,none⟩=some (.int .i64 K)∧w'.cell? ⟨cb,3,none⟩=some (.int .i64 V)∧w'.cell? ⟨cb,4,none⟩=some (.bool kb)∧Below W0.heap.size W0 w')) (by kernel_rfl) ?_ (fun hS=>?_)
 ·exact⟨y0,y1,y2,y3,y4,(Below.refl _ _).drew⟩
 refine tkY 0 ?_ rfl hS ?_ ?_;rotate_left
 ·intro wz hz
  go_simp
  all_goals first|with_reducible rfl|omega
 try simp only[Act.put,pu]
 refine tkY 1 ?_ rfl hS ?_ ?_;rotate_left
 ·intro wz hz
  go_simp
  all_goals first|with_reducible rfl|omega
 try simp only[Act.put,pu]
 refine tkY 3 ?_ rfl hS ?_ ?_;rotate_left
 ·intro wz hz
  obtain⟨z0,z1,z2,z3,z4,_⟩:=hz;go_simp
  all_goals first|with_reducible rfl|omega
 try simp only[Act.put,pu]
 refine wpAnyH_ready (rs:=[2]) (by kernel_rfl) (by simp) (AllReadyH.cons rfl (fun K' ae=>?_) AllReadyH.nil)
 go_simp;have hB:=hS.2.2.2.2.2;obtain⟨wd,fP⟩:∃W,W0.drew=W:=⟨_,rfl⟩
 try rw[fP]
 try rw[fP]at hB
 refine(JF B wd g S x (H0.out.below hB) (by have:=HX.out;omega) id k HI.out (by have:=fO.out;omega) _ rfl).mono ?_
 rintro e w3 ⟨v3,rfl,js,aG⟩;have cq:Below W0.heap.size W0 w3:=hB.trans (aG.mono hB.size);obtain⟨aO,kW⟩:=hZ2 cq js;have d0:=(cq.cell (p:=⟨cb,0,none⟩) (World.block_lt_of_cell? W0 _ y0)).trans y0;have d1:=(cq.cell (p:=⟨cb,1,none⟩) (World.block_lt_of_cell? W0 _ y1)).trans y1;have d2:=(cq.cell (p:=⟨cb,2,none⟩) (World.block_lt_of_cell? W0 _ y2)).trans y2;have d3:=(cq.cell (p:=⟨cb,3,none⟩) (World.block_lt_of_cell? W0 _ y3)).trans y3;have d4:=(cq.cell (p:=⟨cb,4,none⟩) (World.block_lt_of_cell? W0 _ y4)).trans y4;clear aG cq hB js fP;refine ae.out _ _ ?_ (fun aF=>?_)
 ·exact⟨d0,d1,d2,d3,d4,aO.out⟩
 clear ae K' hS;have hS:=aF;clear aF
 try simp only[Act.put,pu]
 clear d0 d1 d2 d3 d4;obtain⟨uu,uv,rfl⟩:=kW.out.form;refine wpAnyH_ready (rs:=[4]) (by kernel_rfl) (by simp) (AllReadyH.cons rfl (fun K' ae=>?_) AllReadyH.nil)
 go_simp;refine(MY _ _ 1 nm K V kb _ HD.out vV.out.1 (by have:=qI.out;omega) (by have:=HN.out;omega) w3 kW.out.sr).mono ?_
 rintro e w4 ⟨va,vr,rfl,pR,dc,ai⟩;have gV:Below W0.heap.size W0 w4:=aO.out.trans (ai.mono aO.out.size);have cH:=qid gV;have rF:Hid (SQ w4 va s2):=qid pR;have ig:Hid (RQ w4 vr rl):=qid dc;have d0:=(gV.cell (p:=⟨cb,0,none⟩) (World.block_lt_of_cell? W0 _ y0)).trans y0;have d1:=(gV.cell (p:=⟨cb,1,none⟩) (World.block_lt_of_cell? W0 _ y1)).trans y1;have d2:=(gV.cell (p:=⟨cb,2,none⟩) (World.block_lt_of_cell? W0 _ y2)).trans y2;have d3:=(gV.cell (p:=⟨cb,3,none⟩) (World.block_lt_of_cell? W0 _ y3)).trans y3;have d4:=(gV.cell (p:=⟨cb,4,none⟩) (World.block_lt_of_cell? W0 _ y4)).trans y4;clear ai gV pR dc;refine ae.out _ _ ?_ (fun aF=>?_)
 ·exact⟨d0,d1,d2,d3,d4,cH.out⟩
 clear ae K' hS;have hS:=aF;clear aF
 try simp only[Act.put,pu]
 obtain⟨aa,ac,rfl⟩:=rF.out.form;obtain⟨ra,rc,rfl⟩:=ig.out.form;refine tkY 5 ?_ rfl hS ?_ ?_;rotate_left
 ·intro wz hz
  go_simp
  all_goals first|with_reducible rfl|omega
 try simp only[Act.put,pu]
 refine tkY 6 ?_ rfl hS ?_ ?_;rotate_left
 ·intro wz hz
  go_simp
  all_goals first|with_reducible rfl|omega
 try simp only[Act.put,pu]
 refine tkY 7 ?_ rfl hS ?_ ?_;rotate_left
 ·intro wz hz
  go_simp
  all_goals first|with_reducible rfl|omega
 try simp only[Act.put,pu]
 refine tkY 8 ?_ rfl hS ?_ ?_;rotate_left
 ·intro wz hz
  go_simp
  all_goals first|with_reducible rfl|omega
 try simp only[Act.put,pu]
 refine tkY 9 ?_ rfl hS ?_ ?_;rotate_left
 ·intro wz hz
  go_simp
  all_goals first|with_reducible rfl|omega
 try simp only[Act.put,pu]
 refine tkY 10 ?_ rfl hS ?_ ?_;rotate_left
 ·intro wz hz
  go_simp
  all_goals first|with_reducible rfl|omega
 try simp only[Act.put,pu]
 refine tkY 11 ?_ rfl hS ?_ ?_;rotate_left
 ·intro wz hz
  go_simp
  all_goals first|with_reducible rfl|omega
 try simp only[Act.put,pu]
 refine wpAnyH_done (by kernel_rfl) ?_ _
 clear hS;clear y0 y1 y2 y3 y4;go_wp2
 go_ret2
 exact⟨_,rfl,ig.out,StR.refl (H0.out.below cH.out) (Nat.le_refl _) (Below.refl _ _) |>.pre (bG.out.trans (cH.out.mono bG.out.size))⟩
theorem R0(B:Nat)(w:World)(g:Nat)(S:List Tb)(x:List Sv)(h:RD B w g S x)(hB:B≤w.heap.size)(hx:x.length≤80000)(id:Int)(k:Nat)(hI:ce (dbS S (sns x)) k)(bA:k≤80000)(kd:Int)(nm:ByteArray)(K V:Int)(kb:Bool)(aZ:nm.size≤1000)(s2:List Tb)(rl:List Rw)(er:Int)(hD:doS (d6 (dbS S (sns x)) id) kd nm K V kb=(s2,rl,er))(he:er=0)(h1:kd≠1)(L:List Rw)(zH:∃f:Nat,bv s2 nm 0=(f:Int)∧s2[f]? =some (nm,L))(vW:s2.length≤1000000):
  Calls Tryz.prog 39 #[SL.ptr g,.int .i64 id,.agg #[.int .i64 kd,.string nm,.int .i64 K,.int .i64 V,.bool kb]] w (J1 B g x.length (Gs (dbS S (sns x)) id (nm,L),[],0) w):=by
 subst he;obtain⟨f,Bi,Bj⟩:=zH;obtain⟨sj,Bl,zI⟩:=hZ3 Bi Bj vW;clear Bi Bj vW;obtain⟨W0,aH⟩:∃W,w.alloc (.cells #[.int .i64 kd,.string nm,.int .i64 K,.int .i64 V,.bool kb] 34)=W:=⟨_,rfl⟩;obtain⟨cb,an⟩:∃b,w.heap.size=b:=⟨_,rfl⟩;have b0:Below w.heap.size w W0:=by rw[←aH];exact(Below.refl _ _).alloc (Nat.le_refl _) _
 have k0:SL.Bk W0 cb 34 #[.int .i64 kd,.string nm,.int .i64 K,.int .i64 V,.bool kb]:=by rw[←aH,←an];exact SL.Bk.new _ _ _
 have e7:=hI.seen id;have jM:Hid (S.length≤16):=qid hI.st.len;have aY:Hid (iS S):=qid hI.st.tabs;have vV:=qid e7;have qI:Hid ((d6 (dbS S (sns x)) id).length≤90000):=qid (by have:=e7.2;omega)
 have HI:Hid (ce (dbS S (sns x)) k):=qid hI;obtain⟨fO,HX,HB⟩:=hZ3 bA hx hB;have H0:=qid (h.below b0);obtain⟨gu,bG⟩:=hZ2 k0 b0;have kv:Hid (B≤W0.heap.size):=qid (Nat.le_trans hB b0.size);obtain⟨HD,HN⟩:=hZ2 hD aZ;clear h hB hI bA aZ b0 k0 e7 hD;have y0:W0.cell? ⟨cb,0,none⟩=some (.int .i64 kd):=gu.out.cell 0;have y1:W0.cell? ⟨cb,1,none⟩=some (.string nm):=gu.out.cell 1;have y2:W0.cell? ⟨cb,2,none⟩=some (.int .i64 K):=gu.out.cell 2;have y3:W0.cell? ⟨cb,3,none⟩=some (.int .i64 V):=gu.out.cell 3;have y4:W0.cell? ⟨cb,4,none⟩=some (.bool kb):=gu.out.cell 4;go_enter Tryz.func39,Tryz.ntmps39;go_wp2_with fail
 try rw[aH]
 try rw[an]
 try clear aH an
 go_wp2_with fail;refine wp_region_held_drew (S:=(fun w'=>w'.cell? ⟨cb,0,none⟩=some (.int .i64 kd)∧w'.cell? ⟨cb,1,none⟩=some (.string nm)∧w'.cell? ⟨cb,2,none⟩=some (.int .i64 K)∧w'.cell? ⟨cb,3,none⟩=some (.int .i64 V)∧w'.cell? ⟨cb,4,none⟩=some (.bool kb)∧Below W0.heap.size W0 w')) (by kernel_rfl) ?_ (fun hS=>?_)
 ·exact⟨y0,y1,y2,y3,y4,(Below.refl _ _).drew⟩
 refine tkY 0 ?_ rfl hS ?_ ?_;rotate_left
 ·intro wz hz
  go_simp
  all_goals first|with_reducible rfl|omega
 try simp only[Act.put,pu]
 refine tkY 1 ?_ rfl hS ?_ ?_;rotate_left
 ·intro wz hz
  go_simp
  all_goals first|with_reducible rfl|omega
 try simp only[Act.put,pu]
 refine tkY 3 ?_ rfl hS ?_ ?_;rotate_left
 ·intro wz hz
  obtain⟨z0,z1,z2,z3,z4,_⟩:=hz;go_simp
  all_goals first|with_reducible rfl|omega
 try simp only[Act.put,pu]
 refine wpAnyH_ready (rs:=[2]) (by kernel_rfl) (by simp) (AllReadyH.cons rfl (fun K' ae=>?_) AllReadyH.nil)
 go_simp;have hB:=hS.2.2.2.2.2;obtain⟨wd,fP⟩:∃W,W0.drew=W:=⟨_,rfl⟩
 try rw[fP]
 try rw[fP]at hB
 refine(JF B wd g S x (H0.out.below hB) (by have:=HX.out;omega) id k HI.out (by have:=fO.out;omega) _ rfl).mono ?_
 rintro e w3 ⟨v3,rfl,js,aG⟩;have cq:Below W0.heap.size W0 w3:=hB.trans (aG.mono hB.size);obtain⟨aO,kW⟩:=hZ2 cq js;have d0:=(cq.cell (p:=⟨cb,0,none⟩) (World.block_lt_of_cell? W0 _ y0)).trans y0;have d1:=(cq.cell (p:=⟨cb,1,none⟩) (World.block_lt_of_cell? W0 _ y1)).trans y1;have d2:=(cq.cell (p:=⟨cb,2,none⟩) (World.block_lt_of_cell? W0 _ y2)).trans y2;have d3:=(cq.cell (p:=⟨cb,3,none⟩) (World.block_lt_of_cell? W0 _ y3)).trans y3;have d4:=(cq.cell (p:=⟨cb,4,none⟩) (World.block_lt_of_cell? W0 _ y4)).trans y4;clear aG cq hB js fP;refine ae.out _ _ ?_ (fun aF=>?_)
 ·exact⟨d0,d1,d2,d3,d4,aO.out⟩
 clear ae K' hS;have hS:=aF;clear aF
 try simp only[Act.put,pu]
 clear d0 d1 d2 d3 d4;obtain⟨uu,uv,rfl⟩:=kW.out.form;refine wpAnyH_ready (rs:=[4]) (by kernel_rfl) (by simp) (AllReadyH.cons rfl (fun K' ae=>?_) AllReadyH.nil)
 go_simp;refine(MY _ _ kd nm K V kb _ HD.out vV.out.1 (by have:=qI.out;omega) (by have:=HN.out;omega) w3 kW.out.sr).mono ?_
 rintro e w4 ⟨va,vr,rfl,pR,dc,ai⟩;have gV:Below W0.heap.size W0 w4:=aO.out.trans (ai.mono aO.out.size);have cH:=qid gV;have rF:Hid (SQ w4 va s2):=qid pR;have ig:Hid (RQ w4 vr rl):=qid dc;have d0:=(gV.cell (p:=⟨cb,0,none⟩) (World.block_lt_of_cell? W0 _ y0)).trans y0;have d1:=(gV.cell (p:=⟨cb,1,none⟩) (World.block_lt_of_cell? W0 _ y1)).trans y1;have d2:=(gV.cell (p:=⟨cb,2,none⟩) (World.block_lt_of_cell? W0 _ y2)).trans y2;have d3:=(gV.cell (p:=⟨cb,3,none⟩) (World.block_lt_of_cell? W0 _ y3)).trans y3;have d4:=(gV.cell (p:=⟨cb,4,none⟩) (World.block_lt_of_cell? W0 _ y4)).trans y4;clear ai gV pR dc;refine ae.out _ _ ?_ (fun aF=>?_)
 ·exact⟨d0,d1,d2,d3,d4,cH.out⟩
 clear ae K' hS;have hS:=aF;clear aF
 try simp only[Act.put,pu]
 obtain⟨aa,ac,rfl⟩:=rF.out.form;obtain⟨ra,rc,rfl⟩:=ig.out.form;refine tkY 5 ?_ rfl hS ?_ ?_;rotate_left
 ·intro wz hz
  go_simp
  all_goals first|with_reducible rfl|omega
 try simp only[Act.put,pu]
 refine tkY 6 ?_ rfl hS ?_ ?_;rotate_left
 ·intro wz hz
  go_simp
  all_goals first|with_reducible rfl|omega
 try simp only[Act.put,pu]
 refine tkY 7 ?_ rfl hS ?_ ?_;rotate_left
 ·intro wz hz
  go_simp
  all_goals first|with_reducible rfl|omega
 try simp only[Act.put,pu]
 refine tkY 8 ?_ rfl hS ?_ ?_;rotate_left
 ·intro wz hz
  go_simp
  all_goals first|with_reducible rfl|omega
 try simp only[Act.put,pu]
 refine tkY 9 ?_ rfl hS ?_ ?_;rotate_left
 ·intro wz hz
  go_simp
  all_goals first|with_reducible rfl|omega
 try simp only[Act.put,pu]
 refine tkY 10 ?_ rfl hS ?_ ?_;rotate_left
 ·intro wz hz
  go_simp
  all_goals first|with_reducible rfl|omega
 try simp only[Act.put,pu]
 refine tkY 11 ?_ rfl hS ?_ ?_;rotate_left
 ·intro wz hz
  go_simp
  all_goals first|with_reducible rfl|omega
 try simp only[Act.put,pu]
 refine wpAnyH_done (by kernel_rfl) ?_ _
 clear hS;clear y0 y1 y2 y3 y4;go_wp2_with fail;refine(KI _ s2 nm _ sj.out zI.out w4 rF.out.sr).mono ?_;rintro e w5 ⟨rfl,bh⟩;have pJ:=qid (rF.out.bel bh);have cZ:=qid (cH.out.trans (bh.mono cH.out.size));have oy:f<s2.length:=(List.getElem?_eq_some_iff.1 Bl.out).1;obtain⟨ag,off,cap,he,cL,X,hX,dE⟩:=pJ.out.tv (by omega)
 injection he with ea _ ec;subst ea ec;obtain⟨u,hu⟩:=IX X f _ (by rw[hX];exact Bl.out)
 obtain⟨x0,x1,jc⟩:=dE f _ hu;have x0:w5.cell? ⟨ag,off+f*2,none⟩=some (.string nm):=x0;have x1:w5.cell? ⟨ag,off+f*2+1,none⟩=some u:=x1;have pI:Hid (RQ w5 u L):=qid jc;have Fz:(f:Int)<(s2.length:Int):=by omega
 have G4:(0:Int)≤(f:Int):=by omega
 obtain⟨ua,uc,rfl⟩:=pI.out.form;obtain⟨W6,xP⟩:∃W,w5.alloc (.cells #[.string nm,.slice ua L.length uc] 55)=W:=⟨_,rfl⟩;obtain⟨tb,iX⟩:∃b,w5.heap.size=b:=⟨_,rfl⟩;have b6:Below w5.heap.size w5 W6:=by rw[←xP];exact(Below.refl _ _).alloc (Nat.le_refl _) _
 have k6:SL.Bk W6 tb 55 #[.string nm,.slice ua L.length uc]:=by rw[←xP,←iX];exact SL.Bk.new _ _ _
 have ju:=qid (cZ.out.trans (b6.mono cZ.out.size));have rG:=qid k6;have rH:=qid (H0.out.below ju.out);have vX:=qid (pI.out.bel b6);have t0:W6.cell? ⟨tb,0,none⟩=some (.string nm):=k6.cell 0;have t1:W6.cell? ⟨tb,1,none⟩=some (.slice ua L.length uc):=k6.cell 1;have HF:=qid (m7 B W6 g S x rH.out (by have:=HX.out;omega) id)
 clear bh dE hu jc hX oy b6 k6 d0 d1 d2 d3 d4;go_wp2_with fail
 try rw[xP]
 try rw[iX]
 try clear xP iX
 refine HF.out.mono ?_;rintro e w' ⟨⟨r,rfl,hr⟩,rfl⟩;rcases hr with⟨i,al,rfl⟩|⟨hn,rfl⟩
 ·obtain⟨cv,sv,jf,bU,ho⟩:=rH.out.at_
  obtain⟨sa,sc,rfl⟩:=jp ho;have dS:=al;obtain⟨⟨s,az,bC⟩,_⟩:=dS;obtain⟨v,hv⟩:=JG az;have bw:i<x.length:=(List.getElem?_eq_some_iff.1 hv).1;obtain⟨sg,kh,he,pw,_,dE⟩:=Hv ho (by omega)
  injection he with ea _ ec;subst ea ec;obtain⟨_,_,z2⟩:=dE i _ hv;have eU:=qid (rH.out.rows _ (List.mem_of_getElem? hv));obtain⟨s0,s1,T⟩:=s;have bC:s0=id:=bC;subst bC;have jY:=qid (RK HI.out al az);have eU:Hid (SQ W6 v T):=eU;obtain⟨ta,tc,rfl⟩:=eU.out.form;have e2:W6.cell? ⟨sg,i*3+2,none⟩=some (.slice ta T.length tc):=z2;have c1:W6.cell? ⟨g,1,none⟩=some (.slice (some ⟨sg,0,none⟩) x.length sc):=jf.cell 1;have vY:sg≠tb:=fun e=>by
   obtain⟨cur,cT⟩:=m9 ho (g:=sg) rfl;subst e;have:=cT.symm.trans rG.out;injection this with this;injection this with _ e _;exact absurd e (by decide)
  have vZ:sg≠g:=fun e=>by
   obtain⟨cur,cT⟩:=m9 ho (g:=sg) rfl;subst e;have:=cT.symm.trans jf;injection this with this;injection this with _ e _;exact absurd e (by decide)
  have j8:=qid (And.intro vY vZ);obtain⟨HO,eH,jO,HV,s9,dL⟩:=hZ6 ho bU jf hv al az;have l3:(i:Int)<(x.length:Int):=by omega
  have l4:(0:Int)≤(i:Int):=by omega
  have l5:¬((i:Int)<0):=by omega
  clear jf bU ho dE hv az al bw z2 vY vZ;go_wp2_with fail;refine wp_region_held_drew (S:=(fun w'=>w'.cell? ⟨tb,0,none⟩=some (.string nm)∧w'.cell? ⟨tb,1,none⟩=some (.slice ua L.length uc)∧w'.cell? ⟨g,1,none⟩=some (.slice (some ⟨sg,0,none⟩) x.length sc))) (by kernel_rfl) ?_ (fun hS=>?_)
  ·exact⟨t0,t1,c1⟩
  refine tkY 0 ?_ rfl hS ?_ ?_;rotate_left
  ·intro wz hz
   go_simp
   all_goals first|with_reducible rfl|omega
  try simp only[Act.put,pu]
  refine tkY 1 ?_ rfl hS ?_ ?_;rotate_left
  ·intro wz hz
   go_simp
   all_goals first|with_reducible rfl|omega
  try simp only[Act.put,pu]
  refine tkY 2 ?_ rfl hS ?_ ?_;rotate_left
  ·intro wz hz
   go_simp
   all_goals first|with_reducible rfl|omega
  try simp only[Act.put,pu]
  refine tkY 3 ?_ rfl hS ?_ ?_;rotate_left
  ·intro wz hz
   obtain⟨z0,z1,z2⟩:=hz;go_simp
   all_goals first|with_reducible rfl|omega
  try simp only[Act.put,pu]
  refine tkY 4 ?_ rfl hS ?_ ?_;rotate_left
  ·intro wz hz
   go_simp
   all_goals first|with_reducible rfl|omega
  try simp only[Act.put,pu]
  refine tkY 5 ?_ rfl hS ?_ ?_;rotate_left
  ·intro wz hz
   go_simp
   all_goals first|with_reducible rfl|omega
  try simp only[Act.put,pu]
  refine tkY 6 ?_ rfl hS ?_ ?_;rotate_left
  ·intro wz hz
   go_simp
   all_goals first|with_reducible rfl|omega
  try simp only[Act.put,pu]
  refine tkY 7 ?_ rfl hS ?_ ?_;rotate_left
  ·intro wz hz
   go_simp
   all_goals first|with_reducible rfl|omega
  try simp only[Act.put,pu]
  refine tkY 8 ?_ rfl hS ?_ ?_;rotate_left
  ·intro wz hz
   obtain⟨z0,z1,z2⟩:=hz;go_simp
   all_goals first|with_reducible rfl|omega
  try simp only[Act.put,pu]
  refine tkY 9 ?_ rfl hS ?_ ?_;rotate_left
  ·intro wz hz
   go_simp
   all_goals first|with_reducible rfl|omega
  try simp only[Act.put,pu]
  refine tkY 10 ?_ rfl hS ?_ ?_;rotate_left
  ·intro wz hz
   go_simp
   all_goals first|with_reducible rfl|omega
  try simp only[Act.put,pu]
  refine tkY 11 ?_ rfl hS ?_ ?_;rotate_left
  ·intro wz hz
   go_simp
   all_goals first|with_reducible rfl|omega
  try simp only[Act.put,pu]
  refine tkY 13 ?_ rfl hS ?_ ?_;rotate_left
  ·intro wz hz
   obtain⟨z0,z1,z2⟩:=hz;go_simp
   all_goals first|with_reducible rfl|omega
  try simp only[Act.put,pu]
  have d1:W6.drew.cell? ⟨sg,i*3+2,none⟩=some (.slice ta T.length tc):=e2;refine wpAnyH_ready (rs:=[12]) (by kernel_rfl) (by simp) (AllReadyH.cons rfl (fun K' ae=>?_) AllReadyH.nil)
  go_simp
  refine ae.out _ _ ?_ (fun aF=>?_)
  ·exact hS
  clear ae K' hS;have hS:=aF;clear aF
  try simp only[Act.put,pu]
  clear d1;refine wpAnyH_ready (rs:=[14]) (by kernel_rfl) (by simp) (AllReadyH.cons rfl (fun K' ae=>?_) AllReadyH.nil)
  go_simp;have hB:Below W6.heap.size W6 W6.drew:=(Below.refl _ _).drew;refine(Ly _ T nm _ L W6.drew (eU.out.bel hB) (jY.out.1.ok (by have:=jY.out.2;have:=fO.out;omega)).few (by have:=HN.out;omega) (vX.out.bel hB)).mono ?_
  rintro e w7 ⟨v7,rfl,ve,bF⟩;have mW:Below W6.heap.size W6 w7:=hB.trans (bF.mono hB.size);obtain⟨ij,vf⟩:=hZ2 mW ve;have d0:w7.cell? ⟨tb,0,none⟩=some (.string nm):=(mW.cell (p:=⟨tb,0,none⟩) (World.block_lt_of_cell? W6 _ t0)).trans t0;have d1:w7.cell? ⟨tb,1,none⟩=some (.slice ua L.length uc):=(mW.cell (p:=⟨tb,1,none⟩) (World.block_lt_of_cell? W6 _ t1)).trans t1;have d2:w7.cell? ⟨g,1,none⟩=some (.slice (some ⟨sg,0,none⟩) x.length sc):=(mW.cell (p:=⟨g,1,none⟩) (World.block_lt_of_cell? W6 _ c1)).trans c1;have d3:w7.cell? ⟨sg,i*3+2,none⟩=some (.slice ta T.length tc):=(mW.cell (p:=⟨sg,i*3+2,none⟩) (World.block_lt_of_cell? W6 _ e2)).trans e2;clear bF mW hB ve;refine ae.out _ _ ?_ (fun aF=>?_)
  ·exact⟨d0,d1,d2⟩
  clear ae K' hS;have hS:=aF;clear aF
  try simp only[Act.put,pu]
  obtain⟨Bm,Bn,rfl⟩:=vf.out.form;have f0:w7.frozen? ⟨sg,i*3+2,none⟩=false:=World.ownsRow.frozenAt (aS HO.out ij.out) _;obtain⟨h8,vh⟩:=RD.set_ (rH.out.below ij.out) (f9 jO.out ij.out) (aS HO.out ij.out) (eH.out.bel ij.out) (i*3+2) (.slice Bm (AC T (nm,L)).length Bn) _ (List.length_set ..) (qae x i _ HV.out _ (AC T (nm,L))) (fun q hq=>by
   rcases List.mem_or_eq_of_mem_set hq with hq|hq
   ·exact(rH.out.rows q hq).bel ij.out
   ·subst hq;exact vf.out)
  obtain⟨H8,zJ⟩:=hZ2 h8 vh;clear h8 vh;refine tkY 15 ?_ rfl hS ?_ ?_;rotate_left
  ·intro wz hz
   obtain⟨z0,z1,z2⟩:=hz;go_simp
   all_goals first|with_reducible rfl|omega
  try simp only[Act.put,pu]
  refine tkY 16 ?_ rfl hS ?_ ?_;rotate_left
  ·intro wz hz
   obtain⟨z0,z1,z2⟩:=hz;go_simp
   all_goals first|with_reducible rfl|omega
  try simp only[Act.put,pu]
  refine wpAnyH_ready (rs:=[17]) (by kernel_rfl) (by simp) (AllReadyH.cons rfl (fun K' ae=>?_) AllReadyH.nil)
  go_simp
  refine ae.out _ _ ?_ (fun aF=>?_)
  ·exact⟨(World.cell?_setCell_far _ _ _ _ (by show sg≠tb;exact j8.out.1)).trans d0,(World.cell?_setCell_far _ _ _ _ (by show sg≠tb;exact j8.out.1)).trans d1,(World.cell?_setCell_far _ _ _ _ (by show sg≠g;exact j8.out.2)).trans d2⟩
  clear ae K' hS;have hS:=aF;clear aF
  try simp only[Act.put,pu]
  refine wpAnyH_done (by kernel_rfl) ?_ _
  clear hS;go_wp2
  go_ret2
  refine⟨_,rfl,RQ.nil _,?_⟩;have e9:=U7 (S:=S) s9.out dL.out (nm,L);rw[←e9];exact⟨_,H8.out,by rw[TO];rfl,by rw[List.length_set];exact Nat.le_refl _,lT.trans (.of_below (bG.out.trans ((ju.out.trans (ij.out.mono ju.out.size)).mono bG.out.size))) zJ.out⟩
 ·obtain⟨cv,sv,jf,bU,ho⟩:=rH.out.at_
  have c0:W6.cell? ⟨g,0,none⟩=some cv:=jf.cell 0;obtain⟨ca,cc,rfl⟩:=bU.form;obtain⟨eH,jO,xK⟩:=hZ3 bU jf hn;have j8:Hid (g≠tb):=qid (fun e=>by
   subst e;have:=jf.symm.trans rG.out;injection this with this;injection this with _ e _;exact absurd e (by decide))
  clear jf bU ho hn;go_wp2_with fail;refine wp_region_held_drew (S:=(fun w'=>w'.cell? ⟨tb,0,none⟩=some (.string nm)∧w'.cell? ⟨tb,1,none⟩=some (.slice ua L.length uc))) (by kernel_rfl) ?_ (fun hS=>?_)
  ·exact⟨t0,t1⟩
  refine tkY 0 ?_ rfl hS ?_ ?_;rotate_left
  ·intro wz hz
   go_simp
   all_goals first|with_reducible rfl|omega
  try simp only[Act.put,pu]
  refine tkY 1 ?_ rfl hS ?_ ?_;rotate_left
  ·intro wz hz
   go_simp
   all_goals first|with_reducible rfl|omega
  try simp only[Act.put,pu]
  refine tkY 2 ?_ rfl hS ?_ ?_;rotate_left
  ·intro wz hz
   go_simp
   all_goals first|with_reducible rfl|omega
  try simp only[Act.put,pu]
  refine tkY 3 ?_ rfl hS ?_ ?_;rotate_left
  ·intro wz hz
   go_simp
   all_goals first|with_reducible rfl|omega
  try simp only[Act.put,pu]
  refine tkY 5 ?_ rfl hS ?_ ?_;rotate_left
  ·intro wz hz
   obtain⟨z0,z1⟩:=hz;go_simp
   all_goals first|with_reducible rfl|omega
  try simp only[Act.put,pu]
  have d1:W6.drew.cell? ⟨g,0,none⟩=some (.slice ca S.length cc):=c0;refine wpAnyH_ready (rs:=[4]) (by kernel_rfl) (by simp) (AllReadyH.cons rfl (fun K' ae=>?_) AllReadyH.nil)
  go_simp
  refine ae.out _ _ ?_ (fun aF=>?_)
  ·exact hS
  clear ae K' hS;have hS:=aF;clear aF
  try simp only[Act.put,pu]
  clear d1;refine wpAnyH_ready (rs:=[6]) (by kernel_rfl) (by simp) (AllReadyH.cons rfl (fun K' ae=>?_) AllReadyH.nil)
  go_simp;have hB:Below W6.heap.size W6 W6.drew:=(Below.refl _ _).drew;refine(Ly _ S nm _ L W6.drew (eH.out.bel hB) (aY.out.ok (by have:=jM.out;omega)).few (by have:=HN.out;omega) (vX.out.bel hB)).mono ?_
  rintro e w7 ⟨v7,rfl,ve,bF⟩;have mW:Below W6.heap.size W6 w7:=hB.trans (bF.mono hB.size);obtain⟨ij,vf⟩:=hZ2 mW ve;have d0:w7.cell? ⟨tb,0,none⟩=some (.string nm):=(mW.cell (p:=⟨tb,0,none⟩) (World.block_lt_of_cell? W6 _ t0)).trans t0;have d1:w7.cell? ⟨tb,1,none⟩=some (.slice ua L.length uc):=(mW.cell (p:=⟨tb,1,none⟩) (World.block_lt_of_cell? W6 _ t1)).trans t1;clear bF mW hB ve;refine ae.out _ _ ?_ (fun aF=>?_)
  ·exact⟨d0,d1⟩
  clear ae K' hS;have hS:=aF;clear aF
  try simp only[Act.put,pu]
  obtain⟨Bm,Bn,rfl⟩:=vf.out.form;have f0:w7.frozen? ⟨g,0,none⟩=false:=(f9 jO.out ij.out).frozen 0;have x2:w7.cell? ⟨g,0,none⟩=some (.slice ca S.length cc):=(f9 jO.out ij.out).cell 0;obtain⟨h8,vh⟩:=(rH.out.below ij.out).storeS vf.out;obtain⟨H8,zJ⟩:=hZ2 h8 vh;clear h8 vh;refine tkY 7 ?_ rfl hS ?_ ?_;rotate_left
  ·intro wz hz
   go_simp
   all_goals first|with_reducible rfl|omega
  try simp only[Act.put,pu]
  refine tkY 8 ?_ rfl hS ?_ ?_;rotate_left
  ·intro wz hz
   go_simp
   all_goals first|with_reducible rfl|omega
  try simp only[Act.put,pu]
  refine wpAnyH_ready (rs:=[9]) (by kernel_rfl) (by simp) (AllReadyH.cons rfl (fun K' ae=>?_) AllReadyH.nil)
  go_simp
  refine ae.out _ _ ?_ (fun aF=>?_)
  ·exact⟨(World.cell?_setCell_far _ _ _ _ (by show g≠tb;exact j8.out)).trans d0,(World.cell?_setCell_far _ _ _ _ (by show g≠tb;exact j8.out)).trans d1⟩
  clear ae K' hS;have hS:=aF;clear aF
  try simp only[Act.put,pu]
  refine wpAnyH_done (by kernel_rfl) ?_ _
  clear hS;go_wp2
  go_ret2
  refine⟨_,rfl,RQ.nil _,?_⟩;have e9:=RC (S:=S) xK.out (nm,L);rw[←e9];exact⟨x,H8.out,rfl,Nat.le_refl _,lT.trans (.of_below (bG.out.trans ((ju.out.trans (ij.out.mono ju.out.size)).mono bG.out.size))) zJ.out⟩
theorem XU{s:List Tb}{kd K V:Int}{n:ByteArray}{kb:Bool}:(doS s kd n K V kb).1.length≤s.length+1:=by
 rcases IH s kd n K V kb with⟨_,⟨_,e⟩|⟨_,_,e⟩|⟨b7,_,e⟩⟩|⟨_,_,e⟩|⟨_,i,t,ht,_,e⟩<;>rw[e]
 ·exact Nat.le_succ _
 ·exact Nat.le_succ _
 ·show(H9 s n).length≤_
  unfold H9;have:=IF (ltN n) s;unfold oR;simp;omega
 ·exact Nat.le_succ _
 ·split
  ·exact Nat.le_succ _
  ·show(s.set i _).length≤_
   rw[List.length_set];exact Nat.le_succ _
theorem XV{s:List Tb}(hu:upW s){n:ByteArray}(h:(lkT s n).isSome=true):∃f:Nat,bv s n 0=(f:Int)∧s[f]? =some (n,(lkT s n).getD []):=by
 obtain⟨l,hl⟩:=Option.isSome_iff_exists.1 h;rcases IA s n 0 with⟨_,cW⟩|⟨k,t,h1,h2,h3,_⟩
 ·exact absurd rfl (cW _ (KE hl))
 ·rw[Nat.zero_add]at h1
  refine⟨k,h1,?_⟩;obtain⟨t1,t2⟩:=t;have h3:t1=n:=h3;subst h3;rw[h2,(OV hu).2 (List.mem_of_getElem? h2)]
  rfl
theorem N6(B:Nat)(w:World)(g:Nat)(S:List Tb)(x:List Sv)(h:RD B w g S x)(hB:B≤w.heap.size)(hx:x.length≤80000)(id:Int)(k:Nat)(hI:ce (dbS S (sns x)) k)(bA:k≤80000)(kd:Int)(nm:ByteArray)(K V:Int)(kb:Bool)(aZ:nm.size≤1000)(ht:txB kd nm K V kb=true):
  Calls Tryz.prog 39 #[SL.ptr g,.int .i64 id,.agg #[.int .i64 kd,.string nm,.int .i64 K,.int .i64 V,.bool kb]] w (J1 B g x.length (doP (dbS S (sns x)) id kd nm K V kb) w):=by
 obtain⟨hn,hk,hv⟩:=N3 ht;have eR:=hI.seen id;have hl:=XU (s:=d6 (dbS S (sns x)) id) (kd:=kd) (K:=K) (V:=V) (n:=nm) (kb:=kb);have fK:=OW (kd:=kd) (K:=K) (V:=V) (n:=nm) (kb:=kb) eR.1 hn hk hv;have Bo:=MM (kd:=kd) (K:=K) (V:=V) (n:=nm) (kb:=kb) eR.1;obtain⟨R,hR⟩:∃R,doS (d6 (dbS S (sns x)) id) kd nm K V kb=R:=⟨_,rfl⟩;unfold doP;rw[hR]at hl fK Bo⊢;obtain⟨s2,rl,er⟩:=R
 by_cases he:er=0
 ·rw[if_pos he]
  by_cases h1:kd=1
  ·rw[if_pos h1]
   exact XT B w g S x h hB hx id k hI bA kd nm K V kb aZ s2 rl er hR he h1
  ·rw[if_neg h1]
   exact R0 B w g S x h hB hx id k hI bA kd nm K V kb aZ s2 rl er hR he h1 _ (XV fK.up (Bo he)) (by
    have:s2.length≤(d6 (dbS S (sns x)) id).length+1:=hl;have:=eR.2;omega)
 ·rw[if_neg he]
  exact XS B w g S x h hB hx id k hI bA kd nm K V kb aZ s2 rl er hR he
theorem Sa(B:Nat)(w:World)(g:Nat)(S:List Tb)(x:List Sv)(h:RD B w g S x)(hB:B≤w.heap.size)(hx:x.length≤80000)(id:Int)(k:Nat)(hI:ce (dbS S (sns x)) k)(bA:k≤80000)(kd:Int)(nm:ByteArray)(K V:Int)(kb:Bool)(aZ:nm.size≤1000)(hi:I9 id)(cl:Int)(hs:isS id=false):
  Calls Tryz.prog 12 #[SL.ptr g,.int .i64 id,.int .i64 cl,.agg #[.int .i64 kd,.string nm,.int .i64 K,.int .i64 V,.bool kb]] w (J1 B g (x.length+1) (dbS S (sns x),[],1) w):=by
 obtain⟨W0,aH⟩:∃W,w.alloc (.cells #[.int .i64 kd,.string nm,.int .i64 K,.int .i64 V,.bool kb] 34)=W:=⟨_,rfl⟩;obtain⟨cb,an⟩:∃b,w.heap.size=b:=⟨_,rfl⟩;have b0:Below w.heap.size w W0:=by rw[←aH];exact(Below.refl _ _).alloc (Nat.le_refl _) _
 have k0:SL.Bk W0 cb 34 #[.int .i64 kd,.string nm,.int .i64 K,.int .i64 V,.bool kb]:=by rw[←aH,←an];exact SL.Bk.new _ _ _
 have h0:=h.below b0;have cG:B≤W0.heap.size:=Nat.le_trans hB b0.size;obtain⟨H,B0,KB⟩:=hZ3 h0 b0 k0;have aY:=qid (pm B W0 g S x h0 (by omega) id hi _ rfl)
 have HX:=qid hx;obtain⟨z,hz⟩:∃z,dg (dbS S (sns x)) id=z:=⟨_,rfl⟩;rw[hz]at aY;have z0:z=0:=by rw[←hz];unfold dg;rw[hs];rfl
 subst z0;clear h hB b0 k0 h0 cG hi hI bA hz;go_enter Tryz.func12,Tryz.ntmps12;go_wp2_with fail
 try rw[aH]
 try rw[an]
 try clear aH an
 refine aY.out.mono ?_;rintro e w' ⟨rfl,rfl⟩;go_wp2
 go_ret2
 exact⟨_,rfl,RQ.nil _,(StR.refl H.out (Nat.le_succ _) (Below.refl _ _)).pre B0.out⟩
theorem XW(B:Nat)(w:World)(g:Nat)(S:List Tb)(x:List Sv)(h:RD B w g S x)(hB:B≤w.heap.size)(hx:x.length≤80000)(id:Int)(k:Nat)(hI:ce (dbS S (sns x)) k)(bA:k≤80000)(kd:Int)(nm:ByteArray)(K V:Int)(kb:Bool)(aZ:nm.size≤1000)(hi:I9 id)(cl:Int)(hs:isS id=true)(hc:cl=3):
  Calls Tryz.prog 12 #[SL.ptr g,.int .i64 id,.int .i64 cl,.agg #[.int .i64 kd,.string nm,.int .i64 K,.int .i64 V,.bool kb]] w (J1 B g (x.length+1) ((rW (dbS S (sns x)) id).1,[],(rW (dbS S (sns x)) id).2) w):=by
 subst hc;obtain⟨W0,aH⟩:∃W,w.alloc (.cells #[.int .i64 kd,.string nm,.int .i64 K,.int .i64 V,.bool kb] 34)=W:=⟨_,rfl⟩;obtain⟨cb,an⟩:∃b,w.heap.size=b:=⟨_,rfl⟩;have b0:Below w.heap.size w W0:=by rw[←aH];exact(Below.refl _ _).alloc (Nat.le_refl _) _
 have k0:SL.Bk W0 cb 34 #[.int .i64 kd,.string nm,.int .i64 K,.int .i64 V,.bool kb]:=by rw[←aH,←an];exact SL.Bk.new _ _ _
 have h0:=h.below b0;have cG:B≤W0.heap.size:=Nat.le_trans hB b0.size;obtain⟨H,B0,KB⟩:=hZ3 h0 b0 k0;have aY:=qid (pm B W0 g S x h0 (by omega) id hi _ rfl)
 have HX:=qid hx;obtain⟨z,hz⟩:∃z,dg (dbS S (sns x)) id=z:=⟨_,rfl⟩;rw[hz]at aY;have zz:¬(z=0):=by rw[←hz];unfold dg;rw[if_pos hs];unfold stO;split<;>decide
 have iw:Hid (Calls Tryz.prog 37 #[SL.ptr g,.int .i64 id,.int .i64 3] W0 (M5 B g (x.length+1) (rW (dbS S (sns x)) id).1 (rW (dbS S (sns x)) id).2 W0)):=qid (by
  cases hg:dO (sns x) id with
  |none=>exact VA B W0 g S x h0 cG (by omega) id hi hg
  |some p=>exact Vw B W0 g S x h0 cG (by omega) id p.1 p.2 hg)
 obtain⟨Q,hQ⟩:∃Q,rW (dbS S (sns x)) id=Q:=⟨_,rfl⟩;rw[hQ]at iw⊢;clear hQ;clear h hB b0 k0 h0 cG hi hI bA hz;go_enter Tryz.func12,Tryz.ntmps12;go_wp2_with fail
 try rw[aH]
 try rw[an]
 try clear aH an
 refine aY.out.mono ?_;rintro e w' ⟨rfl,rfl⟩;go_wp2_with fail;refine iw.out.mono ?_;rintro e w1 ⟨rfl,ah⟩;have dL:=qid ah;clear ah;go_wp2
 go_ret2
 exact⟨_,rfl,RQ.nil _,StR.pre B0.out dL.out⟩
theorem XX(B:Nat)(w:World)(g:Nat)(S:List Tb)(x:List Sv)(h:RD B w g S x)(hB:B≤w.heap.size)(hx:x.length≤80000)(id:Int)(k:Nat)(hI:ce (dbS S (sns x)) k)(bA:k≤80000)(kd:Int)(nm:ByteArray)(K V:Int)(kb:Bool)(aZ:nm.size≤1000)(hi:I9 id)(cl:Int)(hs:isS id=true)(hc:cl=4):
  Calls Tryz.prog 12 #[SL.ptr g,.int .i64 id,.int .i64 cl,.agg #[.int .i64 kd,.string nm,.int .i64 K,.int .i64 V,.bool kb]] w (J1 B g (x.length+1) ((gE (dbS S (sns x)) id).1,[],(gE (dbS S (sns x)) id).2) w):=by
 subst hc;obtain⟨W0,aH⟩:∃W,w.alloc (.cells #[.int .i64 kd,.string nm,.int .i64 K,.int .i64 V,.bool kb] 34)=W:=⟨_,rfl⟩;obtain⟨cb,an⟩:∃b,w.heap.size=b:=⟨_,rfl⟩;have b0:Below w.heap.size w W0:=by rw[←aH];exact(Below.refl _ _).alloc (Nat.le_refl _) _
 have k0:SL.Bk W0 cb 34 #[.int .i64 kd,.string nm,.int .i64 K,.int .i64 V,.bool kb]:=by rw[←aH,←an];exact SL.Bk.new _ _ _
 have h0:=h.below b0;have cG:B≤W0.heap.size:=Nat.le_trans hB b0.size;obtain⟨H,B0,KB⟩:=hZ3 h0 b0 k0;have aY:=qid (pm B W0 g S x h0 (by omega) id hi _ rfl)
 have HX:=qid hx;obtain⟨z,hz⟩:∃z,dg (dbS S (sns x)) id=z:=⟨_,rfl⟩;rw[hz]at aY;have zz:¬(z=0):=by rw[←hz];unfold dg;rw[if_pos hs];unfold stO;split<;>decide
 have iw:Hid (Calls Tryz.prog 37 #[SL.ptr g,.int .i64 id,.int .i64 4] W0 (M5 B g (x.length+1) (gE (dbS S (sns x)) id).1 (gE (dbS S (sns x)) id).2 W0)):=qid (by
  cases hg:dO (sns x) id with
  |none=>exact Vu B W0 g S x h0 cG (by omega) id hg
  |some p=>
   obtain⟨b,T⟩:=p
   cases b with
   |true=>exact Vy B W0 g S x h0 cG (by omega) id T hg
   |false=>exact Vz B W0 g S x h0 cG (by omega) id T k hI (by omega) hg)
 obtain⟨Q,hQ⟩:∃Q,gE (dbS S (sns x)) id=Q:=⟨_,rfl⟩;rw[hQ]at iw⊢;clear hQ;clear h hB b0 k0 h0 cG hi hI bA hz;go_enter Tryz.func12,Tryz.ntmps12;go_wp2_with fail
 try rw[aH]
 try rw[an]
 try clear aH an
 refine aY.out.mono ?_;rintro e w' ⟨rfl,rfl⟩;go_wp2_with fail;refine iw.out.mono ?_;rintro e w1 ⟨rfl,ah⟩;have dL:=qid ah;clear ah;go_wp2
 go_ret2
 exact⟨_,rfl,RQ.nil _,StR.pre B0.out dL.out⟩
theorem XY(B:Nat)(w:World)(g:Nat)(S:List Tb)(x:List Sv)(h:RD B w g S x)(hB:B≤w.heap.size)(hx:x.length≤80000)(id:Int)(k:Nat)(hI:ce (dbS S (sns x)) k)(bA:k≤80000)(kd:Int)(nm:ByteArray)(K V:Int)(kb:Bool)(aZ:nm.size≤1000)(hi:I9 id)(cl:Int)(hs:isS id=true)(hc:cl=5):
  Calls Tryz.prog 12 #[SL.ptr g,.int .i64 id,.int .i64 cl,.agg #[.int .i64 kd,.string nm,.int .i64 K,.int .i64 V,.bool kb]] w (J1 B g (x.length+1) ((Fr (dbS S (sns x)) id).1,[],(Fr (dbS S (sns x)) id).2) w):=by
 subst hc;obtain⟨W0,aH⟩:∃W,w.alloc (.cells #[.int .i64 kd,.string nm,.int .i64 K,.int .i64 V,.bool kb] 34)=W:=⟨_,rfl⟩;obtain⟨cb,an⟩:∃b,w.heap.size=b:=⟨_,rfl⟩;have b0:Below w.heap.size w W0:=by rw[←aH];exact(Below.refl _ _).alloc (Nat.le_refl _) _
 have k0:SL.Bk W0 cb 34 #[.int .i64 kd,.string nm,.int .i64 K,.int .i64 V,.bool kb]:=by rw[←aH,←an];exact SL.Bk.new _ _ _
 have h0:=h.below b0;have cG:B≤W0.heap.size:=Nat.le_trans hB b0.size;obtain⟨H,B0,KB⟩:=hZ3 h0 b0 k0;have aY:=qid (pm B W0 g S x h0 (by omega) id hi _ rfl)
 have HX:=qid hx;obtain⟨z,hz⟩:∃z,dg (dbS S (sns x)) id=z:=⟨_,rfl⟩;rw[hz]at aY;have zz:¬(z=0):=by rw[←hz];unfold dg;rw[if_pos hs];unfold stO;split<;>decide
 have iw:Hid (Calls Tryz.prog 37 #[SL.ptr g,.int .i64 id,.int .i64 5] W0 (M5 B g (x.length+1) (Fr (dbS S (sns x)) id).1 (Fr (dbS S (sns x)) id).2 W0)):=qid (by
  cases hg:dO (sns x) id with
  |none=>exact Vv B W0 g S x h0 cG (by omega) id hg
  |some p=>exact Vx B W0 g S x h0 cG (by omega) id p.1 p.2 hg)
 obtain⟨Q,hQ⟩:∃Q,Fr (dbS S (sns x)) id=Q:=⟨_,rfl⟩;rw[hQ]at iw⊢;clear hQ;clear h hB b0 k0 h0 cG hi hI bA hz;go_enter Tryz.func12,Tryz.ntmps12;go_wp2_with fail
 try rw[aH]
 try rw[an]
 try clear aH an
 refine aY.out.mono ?_;rintro e w' ⟨rfl,rfl⟩;go_wp2_with fail;refine iw.out.mono ?_;rintro e w1 ⟨rfl,ah⟩;have dL:=qid ah;clear ah;go_wp2
 go_ret2
 exact⟨_,rfl,RQ.nil _,StR.pre B0.out dL.out⟩
theorem VC(B:Nat)(w:World)(g:Nat)(S:List Tb)(x:List Sv)(h:RD B w g S x)(hB:B≤w.heap.size)(hx:x.length≤80000)(id:Int)(k:Nat)(hI:ce (dbS S (sns x)) k)(bA:k≤80000)(kd:Int)(nm:ByteArray)(K V:Int)(kb:Bool)(aZ:nm.size≤1000)(hi:I9 id)(cl:Int)(hs:isS id=true)(hc:cl<3∨5<cl)(he:stO (dO (sns x) id)=69):
  Calls Tryz.prog 12 #[SL.ptr g,.int .i64 id,.int .i64 cl,.agg #[.int .i64 kd,.string nm,.int .i64 K,.int .i64 V,.bool kb]] w (J1 B g (x.length+1) (dbS S (sns x),[],13) w):=by
 obtain⟨W0,aH⟩:∃W,w.alloc (.cells #[.int .i64 kd,.string nm,.int .i64 K,.int .i64 V,.bool kb] 34)=W:=⟨_,rfl⟩;obtain⟨cb,an⟩:∃b,w.heap.size=b:=⟨_,rfl⟩;have b0:Below w.heap.size w W0:=by rw[←aH];exact(Below.refl _ _).alloc (Nat.le_refl _) _
 have k0:SL.Bk W0 cb 34 #[.int .i64 kd,.string nm,.int .i64 K,.int .i64 V,.bool kb]:=by rw[←aH,←an];exact SL.Bk.new _ _ _
 have h0:=h.below b0;have cG:B≤W0.heap.size:=Nat.le_trans hB b0.size;obtain⟨H,B0,KB⟩:=hZ3 h0 b0 k0;have aY:=qid (pm B W0 g S x h0 (by omega) id hi _ rfl)
 have HX:=qid hx;obtain⟨z,hz⟩:∃z,dg (dbS S (sns x)) id=z:=⟨_,rfl⟩;rw[hz]at aY;have z9:z=69:=by rw[←hz];unfold dg;rw[if_pos hs];exact he
 subst z9;clear h hB b0 k0 h0 cG hi hI bA hz;go_enter Tryz.func12,Tryz.ntmps12;go_wp2_with fail
 try rw[aH]
 try rw[an]
 try clear aH an
 refine aY.out.mono ?_;rintro e w' ⟨rfl,rfl⟩;rcases hc with hc|hc
 ·go_wp2_with fail
  refine aY.out.mono ?_;rintro e w' ⟨rfl,rfl⟩;go_wp2
  go_ret2
  exact⟨_,rfl,RQ.nil _,(StR.refl H.out (Nat.le_succ _) (Below.refl _ _)).pre B0.out⟩
 ·have oM:3≤cl:=by omega
  have nr:¬(cl≤5):=by omega
  go_wp2_with fail;refine aY.out.mono ?_;rintro e w' ⟨rfl,rfl⟩;go_wp2
  go_ret2
  exact⟨_,rfl,RQ.nil _,(StR.refl H.out (Nat.le_succ _) (Below.refl _ _)).pre B0.out⟩
theorem XZ(B:Nat)(w:World)(g:Nat)(S:List Tb)(x:List Sv)(h:RD B w g S x)(hB:B≤w.heap.size)(hx:x.length≤80000)(id:Int)(k:Nat)(hI:ce (dbS S (sns x)) k)(bA:k≤80000)(kd:Int)(nm:ByteArray)(K V:Int)(kb:Bool)(aZ:nm.size≤1000)(hi:I9 id)(cl:Int)(hs:isS id=true)(hc:cl=0)(he:stO (dO (sns x) id)≠69):
  Calls Tryz.prog 12 #[SL.ptr g,.int .i64 id,.int .i64 cl,.agg #[.int .i64 kd,.string nm,.int .i64 K,.int .i64 V,.bool kb]] w (J1 B g (x.length+1) (dbS S (sns x),[],0) w):=by
 subst hc;obtain⟨W0,aH⟩:∃W,w.alloc (.cells #[.int .i64 kd,.string nm,.int .i64 K,.int .i64 V,.bool kb] 34)=W:=⟨_,rfl⟩;obtain⟨cb,an⟩:∃b,w.heap.size=b:=⟨_,rfl⟩;have b0:Below w.heap.size w W0:=by rw[←aH];exact(Below.refl _ _).alloc (Nat.le_refl _) _
 have k0:SL.Bk W0 cb 34 #[.int .i64 kd,.string nm,.int .i64 K,.int .i64 V,.bool kb]:=by rw[←aH,←an];exact SL.Bk.new _ _ _
 have h0:=h.below b0;have cG:B≤W0.heap.size:=Nat.le_trans hB b0.size;obtain⟨H,B0,KB⟩:=hZ3 h0 b0 k0;have aY:=qid (pm B W0 g S x h0 (by omega) id hi _ rfl)
 have HX:=qid hx;obtain⟨z,hz⟩:∃z,dg (dbS S (sns x)) id=z:=⟨_,rfl⟩;rw[hz]at aY;have zz:¬(z=0):=by rw[←hz];unfold dg;rw[if_pos hs];unfold stO;split<;>decide
 have z9:¬(z=69):=by rw[←hz];unfold dg;rw[if_pos hs];exact he
 clear h hB b0 k0 h0 cG hi hI bA hz;go_enter Tryz.func12,Tryz.ntmps12;go_wp2_with fail
 try rw[aH]
 try rw[an]
 try clear aH an
 refine aY.out.mono ?_;rintro e w' ⟨rfl,rfl⟩;go_wp2_with fail;refine aY.out.mono ?_;rintro e w' ⟨rfl,rfl⟩;go_wp2
 go_ret2
 exact⟨_,rfl,RQ.nil _,(StR.refl H.out (Nat.le_succ _) (Below.refl _ _)).pre B0.out⟩
theorem X0(B:Nat)(w:World)(g:Nat)(S:List Tb)(x:List Sv)(h:RD B w g S x)(hB:B≤w.heap.size)(hx:x.length≤80000)(id:Int)(k:Nat)(hI:ce (dbS S (sns x)) k)(bA:k≤80000)(kd:Int)(nm:ByteArray)(K V:Int)(kb:Bool)(aZ:nm.size≤1000)(hi:I9 id)(cl:Int)(hs:isS id=true)(hc:cl=6)(he:stO (dO (sns x) id)≠69):
  Calls Tryz.prog 12 #[SL.ptr g,.int .i64 id,.int .i64 cl,.agg #[.int .i64 kd,.string nm,.int .i64 K,.int .i64 V,.bool kb]] w (J1 B g (x.length+1) (dbS S (sns x),[],0) w):=by
 subst hc;obtain⟨W0,aH⟩:∃W,w.alloc (.cells #[.int .i64 kd,.string nm,.int .i64 K,.int .i64 V,.bool kb] 34)=W:=⟨_,rfl⟩;obtain⟨cb,an⟩:∃b,w.heap.size=b:=⟨_,rfl⟩;have b0:Below w.heap.size w W0:=by rw[←aH];exact(Below.refl _ _).alloc (Nat.le_refl _) _
 have k0:SL.Bk W0 cb 34 #[.int .i64 kd,.string nm,.int .i64 K,.int .i64 V,.bool kb]:=by rw[←aH,←an];exact SL.Bk.new _ _ _
 have h0:=h.below b0;have cG:B≤W0.heap.size:=Nat.le_trans hB b0.size;obtain⟨H,B0,KB⟩:=hZ3 h0 b0 k0;have aY:=qid (pm B W0 g S x h0 (by omega) id hi _ rfl)
 have HX:=qid hx;obtain⟨z,hz⟩:∃z,dg (dbS S (sns x)) id=z:=⟨_,rfl⟩;rw[hz]at aY;have zz:¬(z=0):=by rw[←hz];unfold dg;rw[if_pos hs];unfold stO;split<;>decide
 have z9:¬(z=69):=by rw[←hz];unfold dg;rw[if_pos hs];exact he
 clear h hB b0 k0 h0 cG hi hI bA hz;go_enter Tryz.func12,Tryz.ntmps12;go_wp2_with fail
 try rw[aH]
 try rw[an]
 try clear aH an
 refine aY.out.mono ?_;rintro e w' ⟨rfl,rfl⟩;go_wp2_with fail;refine aY.out.mono ?_;rintro e w' ⟨rfl,rfl⟩;go_wp2
 go_ret2
 exact⟨_,rfl,RQ.nil _,(StR.refl H.out (Nat.le_succ _) (Below.refl _ _)).pre B0.out⟩
theorem MZ(B:Nat)(w:World)(g:Nat)(S:List Tb)(x:List Sv)(h:RD B w g S x)(hB:B≤w.heap.size)(hx:x.length≤80000)(id:Int)(k:Nat)(hI:ce (dbS S (sns x)) k)(bA:k≤80000)(kd:Int)(nm:ByteArray)(K V:Int)(kb:Bool)(aZ:nm.size≤1000)(hi:I9 id)(cl:Int)(hs:isS id=true)(hc:cl=1∨cl=2∨cl=8)(he:stO (dO (sns x) id)≠69)(ht:txB kd nm K V kb=true):
  Calls Tryz.prog 12 #[SL.ptr g,.int .i64 id,.int .i64 cl,.agg #[.int .i64 kd,.string nm,.int .i64 K,.int .i64 V,.bool kb]] w (J1 B g (x.length+1) (doP (dbS S (sns x)) id kd nm K V kb) w):=by
 rcases hc with rfl|rfl|rfl
 all_goals
  obtain⟨W0,aH⟩:∃W,w.alloc (.cells #[.int .i64 kd,.string nm,.int .i64 K,.int .i64 V,.bool kb] 34)=W:=⟨_,rfl⟩;obtain⟨cb,an⟩:∃b,w.heap.size=b:=⟨_,rfl⟩;have b0:Below w.heap.size w W0:=by rw[←aH];exact(Below.refl _ _).alloc (Nat.le_refl _) _
  have k0:SL.Bk W0 cb 34 #[.int .i64 kd,.string nm,.int .i64 K,.int .i64 V,.bool kb]:=by rw[←aH,←an];exact SL.Bk.new _ _ _
  have h0:=h.below b0;have cG:B≤W0.heap.size:=Nat.le_trans hB b0.size;obtain⟨H,B0,KB⟩:=hZ3 h0 b0 k0;have aY:=qid (pm B W0 g S x h0 (by omega) id hi _ rfl)
  have HX:=qid hx;obtain⟨z,hz⟩:∃z,dg (dbS S (sns x)) id=z:=⟨_,rfl⟩;rw[hz]at aY;have zz:¬(z=0):=by rw[←hz];unfold dg;rw[if_pos hs];unfold stO;split<;>decide
  have z9:¬(z=69):=by rw[←hz];unfold dg;rw[if_pos hs];exact he
  have qo:Hid (∀w1,Calls Tryz.prog 38 #[.agg #[.int .i64 kd,.string nm,.int .i64 K,.int .i64 V,.bool kb]] w1 fun e w'=>e=.returned (.string (bb (Ho (kd,nm,K,V,kb))))∧Below w1.heap.size w1 w'):=qid (fun w1=>by
   have:=LU kd nm K V kb w1 (by omega)
   rw[←Lq]at this;exact this)
  have uy:Hid (∀w1,Below W0.heap.size W0 w1→txB kd nm K V kb=true→Calls Tryz.prog 39 #[SL.ptr g,.int .i64 id,.agg #[.int .i64 kd,.string nm,.int .i64 K,.int .i64 V,.bool kb]] w1 (J1 B g x.length (doP (dbS S (sns x)) id kd nm K V kb) w1)):=qid (fun w1 hb ht=>N6 B w1 g S x (h0.below hb) (Nat.le_trans cG hb.size) hx id k hI bA kd nm K V kb aZ ht)
  have y0:W0.cell? ⟨cb,0,none⟩=some (.int .i64 kd):=KB.out.cell 0;have y1:W0.cell? ⟨cb,1,none⟩=some (.string nm):=KB.out.cell 1;have y2:W0.cell? ⟨cb,2,none⟩=some (.int .i64 K):=KB.out.cell 2;have y3:W0.cell? ⟨cb,3,none⟩=some (.int .i64 V):=KB.out.cell 3;have y4:W0.cell? ⟨cb,4,none⟩=some (.bool kb):=KB.out.cell 4;clear h hB b0 k0 h0 cG hi hI bA hz;go_enter Tryz.func12,Tryz.ntmps12;go_wp2_with fail
  try rw[aH]
  try rw[an]
  try clear aH an
  refine aY.out.mono ?_;rintro e w' ⟨rfl,rfl⟩;go_wp2_with fail;refine aY.out.mono ?_;rintro e w' ⟨rfl,rfl⟩;go_wp2_with fail;refine(qo.out _).mono ?_;rintro e w3 ⟨rfl,aG⟩;have aO:=qid aG;have KB:=qid (f9 KB.out aG);clear aG y0 y1 y2 y3 y4;have y0:w3.cell? ⟨cb,0,none⟩=some (.int .i64 kd):=KB.out.cell 0;have y1:w3.cell? ⟨cb,1,none⟩=some (.string nm):=KB.out.cell 1;have y2:w3.cell? ⟨cb,2,none⟩=some (.int .i64 K):=KB.out.cell 2;have y3:w3.cell? ⟨cb,3,none⟩=some (.int .i64 V):=KB.out.cell 3;have y4:w3.cell? ⟨cb,4,none⟩=some (.bool kb):=KB.out.cell 4;have b7:(bb (Ho (kd,nm,K,V,kb))).toList.isEmpty=false:=TD _ (by
   unfold txB at ht;intro e;rw[e]at ht;simp at ht)
  have oI:List.isEmpty (Ho (kd,nm,K,V,kb))=false:=by
   unfold txB at ht
   simpa using ht
  have HD:=qid (uy.out w3 aO.out ht);obtain⟨Q,hQ⟩:∃Q,doP (dbS S (sns x)) id kd nm K V kb=Q:=⟨_,rfl⟩;rw[hQ]at HD;have sh:=qid hQ;clear ht hQ;go_wp2_with fail;refine HD.out.mono ?_;rintro e w5 ⟨rv,rfl,hq,ah⟩;obtain⟨HQ,yg⟩:=hZ2 hq ah;obtain⟨qa,qc,rfl⟩:=hq.form;clear hq ah y0 y1 y2 y3 y4;go_wp2
  go_ret2
  rw[sh.out];exact⟨_,rfl,HQ.out,(StR.pre (B0.out.trans (aO.out.mono B0.out.size)) yg.out).mono (Nat.le_succ _)⟩
theorem M0(B:Nat)(w:World)(g:Nat)(S:List Tb)(x:List Sv)(h:RD B w g S x)(hB:B≤w.heap.size)(hx:x.length≤80000)(id:Int)(k:Nat)(hI:ce (dbS S (sns x)) k)(bA:k≤80000)(kd:Int)(nm:ByteArray)(K V:Int)(kb:Bool)(aZ:nm.size≤1000)(hi:I9 id)(cl:Int)(hs:isS id=true)(hc:cl=1∨cl=2∨cl=8)(he:stO (dO (sns x) id)≠69)(ht:txB kd nm K V kb=false):
  Calls Tryz.prog 12 #[SL.ptr g,.int .i64 id,.int .i64 cl,.agg #[.int .i64 kd,.string nm,.int .i64 K,.int .i64 V,.bool kb]] w (J1 B g (x.length+1) (dbS S (sns x),[],1) w):=by
 rcases hc with rfl|rfl|rfl
 all_goals
  obtain⟨W0,aH⟩:∃W,w.alloc (.cells #[.int .i64 kd,.string nm,.int .i64 K,.int .i64 V,.bool kb] 34)=W:=⟨_,rfl⟩;obtain⟨cb,an⟩:∃b,w.heap.size=b:=⟨_,rfl⟩;have b0:Below w.heap.size w W0:=by rw[←aH];exact(Below.refl _ _).alloc (Nat.le_refl _) _
  have k0:SL.Bk W0 cb 34 #[.int .i64 kd,.string nm,.int .i64 K,.int .i64 V,.bool kb]:=by rw[←aH,←an];exact SL.Bk.new _ _ _
  have h0:=h.below b0;have cG:B≤W0.heap.size:=Nat.le_trans hB b0.size;obtain⟨H,B0,KB⟩:=hZ3 h0 b0 k0;have aY:=qid (pm B W0 g S x h0 (by omega) id hi _ rfl)
  have HX:=qid hx;obtain⟨z,hz⟩:∃z,dg (dbS S (sns x)) id=z:=⟨_,rfl⟩;rw[hz]at aY;have zz:¬(z=0):=by rw[←hz];unfold dg;rw[if_pos hs];unfold stO;split<;>decide
  have z9:¬(z=69):=by rw[←hz];unfold dg;rw[if_pos hs];exact he
  have qo:Hid (∀w1,Calls Tryz.prog 38 #[.agg #[.int .i64 kd,.string nm,.int .i64 K,.int .i64 V,.bool kb]] w1 fun e w'=>e=.returned (.string (bb (Ho (kd,nm,K,V,kb))))∧Below w1.heap.size w1 w'):=qid (fun w1=>by
   have:=LU kd nm K V kb w1 (by omega)
   rw[←Lq]at this;exact this)
  have uy:Hid (∀w1,Below W0.heap.size W0 w1→txB kd nm K V kb=true→Calls Tryz.prog 39 #[SL.ptr g,.int .i64 id,.agg #[.int .i64 kd,.string nm,.int .i64 K,.int .i64 V,.bool kb]] w1 (J1 B g x.length (doP (dbS S (sns x)) id kd nm K V kb) w1)):=qid (fun w1 hb ht=>N6 B w1 g S x (h0.below hb) (Nat.le_trans cG hb.size) hx id k hI bA kd nm K V kb aZ ht)
  have y0:W0.cell? ⟨cb,0,none⟩=some (.int .i64 kd):=KB.out.cell 0;have y1:W0.cell? ⟨cb,1,none⟩=some (.string nm):=KB.out.cell 1;have y2:W0.cell? ⟨cb,2,none⟩=some (.int .i64 K):=KB.out.cell 2;have y3:W0.cell? ⟨cb,3,none⟩=some (.int .i64 V):=KB.out.cell 3;have y4:W0.cell? ⟨cb,4,none⟩=some (.bool kb):=KB.out.cell 4;clear h hB b0 k0 h0 cG hi hI bA hz;go_enter Tryz.func12,Tryz.ntmps12;go_wp2_with fail
  try rw[aH]
  try rw[an]
  try clear aH an
  refine aY.out.mono ?_;rintro e w' ⟨rfl,rfl⟩;go_wp2_with fail;refine aY.out.mono ?_;rintro e w' ⟨rfl,rfl⟩;go_wp2_with fail;refine(qo.out _).mono ?_;rintro e w3 ⟨rfl,aG⟩;have aO:=qid aG;have KB:=qid (f9 KB.out aG);clear aG y0 y1 y2 y3 y4;have y0:w3.cell? ⟨cb,0,none⟩=some (.int .i64 kd):=KB.out.cell 0;have y1:w3.cell? ⟨cb,1,none⟩=some (.string nm):=KB.out.cell 1;have y2:w3.cell? ⟨cb,2,none⟩=some (.int .i64 K):=KB.out.cell 2;have y3:w3.cell? ⟨cb,3,none⟩=some (.int .i64 V):=KB.out.cell 3;have y4:w3.cell? ⟨cb,4,none⟩=some (.bool kb):=KB.out.cell 4;have kx:Ho (kd,nm,K,V,kb)=[]:=by
   unfold txB at ht
   simpa using ht
  rw[kx];clear ht;go_wp2
  go_ret2
  exact⟨_,rfl,RQ.nil _,(StR.refl (H.out.below aO.out) (Nat.le_succ _) (Below.refl _ _)).pre (B0.out.trans (aO.out.mono B0.out.size))⟩
theorem Sb(B:Nat)(w:World)(g:Nat)(S:List Tb)(x:List Sv)(h:RD B w g S x)(hB:B≤w.heap.size)(hx:x.length≤80000)(id:Int)(k:Nat)(hI:ce (dbS S (sns x)) k)(bA:k≤80000)(kd:Int)(nm:ByteArray)(K V:Int)(kb:Bool)(aZ:nm.size≤1000)(hi:I9 id)(cl:Int)(hs:isS id=true)(hc:cl<3∨5<cl)(Di:cl≠0)(h6:cl≠6)(h1:cl≠1)(h2:cl≠2)(h8:cl≠8)(he:stO (dO (sns x) id)≠69):
  Calls Tryz.prog 12 #[SL.ptr g,.int .i64 id,.int .i64 cl,.agg #[.int .i64 kd,.string nm,.int .i64 K,.int .i64 V,.bool kb]] w (J1 B g (x.length+1) (Hg (dbS S (sns x)) id,[],5) w):=by
 obtain⟨W0,aH⟩:∃W,w.alloc (.cells #[.int .i64 kd,.string nm,.int .i64 K,.int .i64 V,.bool kb] 34)=W:=⟨_,rfl⟩;obtain⟨cb,an⟩:∃b,w.heap.size=b:=⟨_,rfl⟩;have b0:Below w.heap.size w W0:=by rw[←aH];exact(Below.refl _ _).alloc (Nat.le_refl _) _
 have k0:SL.Bk W0 cb 34 #[.int .i64 kd,.string nm,.int .i64 K,.int .i64 V,.bool kb]:=by rw[←aH,←an];exact SL.Bk.new _ _ _
 have h0:=h.below b0;have cG:B≤W0.heap.size:=Nat.le_trans hB b0.size;obtain⟨H,B0,KB⟩:=hZ3 h0 b0 k0;have aY:=qid (pm B W0 g S x h0 (by omega) id hi _ rfl)
 have HX:=qid hx;obtain⟨z,hz⟩:∃z,dg (dbS S (sns x)) id=z:=⟨_,rfl⟩;rw[hz]at aY;have zz:¬(z=0):=by rw[←hz];unfold dg;rw[if_pos hs];unfold stO;split<;>decide
 have z9:¬(z=69):=by rw[←hz];unfold dg;rw[if_pos hs];exact he
 have fv:=qid (M6 B W0 g S x h0 (by omega) id 5)
 clear h hB b0 k0 h0 cG hi hI bA hz;go_enter Tryz.func12,Tryz.ntmps12;go_wp2_with fail
 try rw[aH]
 try rw[an]
 try clear aH an
 refine aY.out.mono ?_;rintro e w' ⟨rfl,rfl⟩;rcases hc with hc|hc
 ·go_wp2_with fail
  refine aY.out.mono ?_;rintro e w' ⟨rfl,rfl⟩;go_wp2_with fail;refine fv.out.mono ?_;rintro e w1 ⟨rfl,ah⟩;have dL:=qid ah;clear ah;go_wp2
  go_ret2
  exact⟨_,rfl,RQ.nil _,(StR.pre B0.out dL.out).mono (Nat.le_succ _)⟩
 ·have oM:3≤cl:=by omega
  have nr:¬(cl≤5):=by omega
  go_wp2_with fail;refine aY.out.mono ?_;rintro e w' ⟨rfl,rfl⟩;go_wp2_with fail;refine fv.out.mono ?_;rintro e w1 ⟨rfl,ah⟩;have dL:=qid ah;clear ah;go_wp2
  go_ret2
  exact⟨_,rfl,RQ.nil _,(StR.pre B0.out dL.out).mono (Nat.le_succ _)⟩
theorem VD(B:Nat)(w:World)(g:Nat)(S:List Tb)(x:List Sv)(h:RD B w g S x)(hB:B≤w.heap.size)(hx:x.length≤80000)(id:Int)(k:Nat)(hI:ce (dbS S (sns x)) k)(bA:k≤80000)(kd:Int)(nm:ByteArray)(K V:Int)(kb:Bool)(aZ:nm.size≤1000)(hi:I9 id)(cl:Int):
  Calls Tryz.prog 12 #[SL.ptr g,.int .i64 id,.int .i64 cl,.agg #[.int .i64 kd,.string nm,.int .i64 K,.int .i64 V,.bool kb]] w (J1 B g (x.length+1) (Ic (dbS S (sns x)) id cl kd nm K V kb (txB kd nm K V kb)) w):=by
 unfold Ic
 cases hs:isS id with
 |false=>
  rw[if_neg (by simp)]
  exact Sa B w g S x h hB hx id k hI bA kd nm K V kb aZ hi cl hs
 |true=>
  rw[if_pos rfl];unfold U4
  by_cases h3:cl=3
  ·rw[if_pos h3];exact XW B w g S x h hB hx id k hI bA kd nm K V kb aZ hi cl hs h3
  rw[if_neg h3]
  by_cases h4:cl=4
  ·rw[if_pos h4];exact XX B w g S x h hB hx id k hI bA kd nm K V kb aZ hi cl hs h4
  rw[if_neg h4]
  by_cases h5:cl=5
  ·rw[if_pos h5];exact XY B w g S x h hB hx id k hI bA kd nm K V kb aZ hi cl hs h5
  rw[if_neg h5]
  by_cases he:stO ((dbS S (sns x)).2 id)=69
  ·rw[if_pos he];exact VC B w g S x h hB hx id k hI bA kd nm K V kb aZ hi cl hs (by omega) he
  rw[if_neg he]
  by_cases h0:cl=0
  ·rw[if_pos (.inl h0)];exact XZ B w g S x h hB hx id k hI bA kd nm K V kb aZ hi cl hs h0 he
  by_cases h6:cl=6
  ·rw[if_pos (.inr h6)];exact X0 B w g S x h hB hx id k hI bA kd nm K V kb aZ hi cl hs h6 he
  rw[if_neg (by omega)]
  by_cases h1:cl=1
  ·rw[if_pos (.inl h1)]
   cases ht:txB kd nm K V kb with
   |true=>rw[if_pos rfl];exact MZ B w g S x h hB hx id k hI bA kd nm K V kb aZ hi cl hs (.inl h1) he ht
   |false=>rw[if_neg (by simp)];exact M0 B w g S x h hB hx id k hI bA kd nm K V kb aZ hi cl hs (.inl h1) he ht
  by_cases h2:cl=2
  ·rw[if_pos (.inr (.inl h2))]
   cases ht:txB kd nm K V kb with
   |true=>rw[if_pos rfl];exact MZ B w g S x h hB hx id k hI bA kd nm K V kb aZ hi cl hs (.inr (.inl h2)) he ht
   |false=>rw[if_neg (by simp)];exact M0 B w g S x h hB hx id k hI bA kd nm K V kb aZ hi cl hs (.inr (.inl h2)) he ht
  by_cases h8:cl=8
  ·rw[if_pos (.inr (.inr h8))]
   cases ht:txB kd nm K V kb with
   |true=>rw[if_pos rfl];exact MZ B w g S x h hB hx id k hI bA kd nm K V kb aZ hi cl hs (.inr (.inr h8)) he ht
   |false=>rw[if_neg (by simp)];exact M0 B w g S x h hB hx id k hI bA kd nm K V kb aZ hi cl hs (.inr (.inr h8)) he ht
  rw[if_neg (by omega)]
  exact Sb B w g S x h hB hx id k hI bA kd nm K V kb aZ hi cl hs (by omega) h0 h6 h1 h2 h8 he
def LB(w0 w:World)(g n:Nat)(D:Dbp)(gr m:Nat)(E:Dbp):Prop:=∃C x,CD w0.heap.size w g n C D∧RD w0.heap.size w gr E.1 x∧dO (sns x)=E.2∧x.length≤m∧Below w0.heap.size w0 w
section
variable {w0 w w':World} {g n m gr:Nat} {D E:Dbp}
theorem LB.bel(h:LB w0 w g n D gr m E):Below w0.heap.size w0 w:=by obtain⟨_,_,_,_,_,_,h⟩:=h;exact h
theorem LB.below(h:LB w0 w g n D gr m E)(hb:Below w.heap.size w w'):LB w0 w' g n D gr m E:=by
 obtain⟨C,x,h1,h2,h3,h4,h5⟩:=h;exact⟨C,x,h1.below hb,h2.below hb,h3,h4,h5.trans (hb.mono h5.size)⟩
theorem LB.mono{n2 m2:Nat}(h:LB w0 w g n D gr m E)(hn:n≤n2)(hm:m≤m2):LB w0 w g n2 D gr m2 E:=by
 obtain⟨C,x,h1,h2,h3,h4,h5⟩:=h;exact⟨C,x,h1.mono hn,h2,h3,Nat.le_trans h4 hm,h5⟩
theorem LB.left(h:LB w0 w g n D gr m E):LD w0 w g n D:=by
 obtain⟨C,x,h1,_,_,_,h5⟩:=h;exact⟨C,h1,h5⟩
theorem M2{E:Dbp}{x:List Sv}(h:dO (sns x)=E.2):dbS E.1 (sns x)=E:=by unfold dbS;rw[h]
theorem qbe{C:Cdb}{x:List Sv}{D':Dbp}{n2:Nat}(h:CD w0.heap.size w g n C D)(k:RD w0.heap.size w gr E.1 x)(hx:dO (sns x)=E.2)(hm:x.length≤m)(hb:Below w0.heap.size w0 w)(hs:StD w0.heap.size g n2 C D' w w'):LB w0 w' g n2 D' gr m E∧Kc w w':=by
 have h2:=O5 h hb.size hs;have h3:=RM h hs;obtain⟨C',h1,_,_⟩:=hs;exact⟨⟨C',x,h1,k.kc h3,hx,hm,hb.trans h2⟩,h3⟩
theorem qbR{C:Cdb}{x:List Sv}{E':Dbp}{m2:Nat}(h:CD w0.heap.size w g n C D)(hb:Below w0.heap.size w0 w)(hs:StR w0.heap.size gr m2 E' w w'):LB w0 w' g n D gr m2 E'∧Kt w w':=by
 obtain⟨x',h1,h2,h3,h4⟩:=hs;exact⟨⟨C,x',h.keepR h4,h1,h2,h3,hb.trans (lT.below h4 hb.size)⟩,lT.kt h4⟩
theorem qbS(h:LB w0 w g n D gr m E)(hn:n≤9000)(id:Int)(hi:I9 id)(cl kd:Int)(nm:ByteArray)(K V:Int)(kb:Bool)(mm:Int)(hw:Wq mm w)(aZ:nm.size≤1000)(hK:f7 K)(hV:f7 V)(k:Nat)(hI:ce D k)(hk:k≤9000)(R:Dbp×List Rw×Int)(hR:Ic D id cl kd nm K V kb (txB kd nm K V kb)=R):
  Calls Tryz.prog 11 #[SL.ptr g,.int .i64 id,.int .i64 cl,.agg #[.int .i64 kd,.string nm,.int .i64 K,.int .i64 V,.bool kb]] w fun e w'=>∃rv,e=.returned (.tuple #[rv,.int .i64 R.2.2])∧RQ w' rv R.2.1∧LB w0 w' g (n+1) R.1 gr m E∧Kc w w':=by
 subst hR;obtain⟨C,x,h1,k1,k2,k3,h2⟩:=h;refine(O4 _ w g n C D h1 hn h2.size id hi cl kd nm K V kb mm hw aZ hK hV k hI hk).mono ?_;rintro e w' ⟨rv,he,hq,hs⟩;obtain⟨a,b⟩:=qbe h1 k1 k2 k3 h2 hs;exact⟨rv,he,hq,a,b⟩
theorem qbT(h:LB w0 w g n D gr m E)(id:Int)(hi:I9 id):
  Calls Tryz.prog 8 #[SL.ptr g,.int .i64 id] w fun e w'=>e=.returned (.tuple #[])∧LB w0 w' g n (IS D id) gr m E∧Kc w w':=by
 obtain⟨C,x,h1,k1,k2,k3,h2⟩:=h;refine(Th _ w g n C D h1 h2.size id hi).mono ?_;rintro e w' ⟨he,hs⟩;exact⟨he,qbe h1 k1 k2 k3 h2 hs⟩
theorem X1(h:LB w0 w g n D gr m E)(hm:m≤9000)(id:Int)(hi:I9 id)(R:Int)(hR:dg E id=R):
  Calls Tryz.prog 17 #[SL.ptr gr,.int .i64 id] w fun e w'=>e=.returned (.int .u8 R)∧w=w':=by
 obtain⟨C,x,h1,k1,k2,k3,h2⟩:=h;exact pm w0.heap.size w gr E.1 x k1 (by omega) id hi R (by rw[M2 k2];exact hR)
theorem X2(h:LB w0 w g n D gr m E)(hm:m≤9000){k:Nat}(hI:ce E k)(hk:k≤9000)(id:Int)(R:List Tb)(hR:d6 E id=R):
  Calls Tryz.prog 22 #[SL.ptr gr,.int .i64 id] w (PV R w):=by
 obtain⟨C,x,h1,k1,k2,k3,h2⟩:=h;exact JF w0.heap.size w gr E.1 x k1 (by omega) id k (by rw[M2 k2];exact hI) (by omega) R (by rw[M2 k2];exact hR)
theorem X3(h:LB w0 w g n D gr m E)(hm:m≤9000){k:Nat}(hI:ce E k)(hk:k≤9000)(id:Int)(R:List ByteArray)(hR:(JW (E.2 id)).map (·.1)=R):
  Calls Tryz.prog 20 #[SL.ptr gr,.int .i64 id] w (Zw R w):=by
 obtain⟨C,x,h1,k1,k2,k3,h2⟩:=h;exact RU w0.heap.size w gr E.1 x k1 (by omega) id k (by rw[M2 k2];exact hI) (by omega) R (by rw[M2 k2];exact hR)
theorem qbU(h:LD w0 w g n D)(v:Value)(s:List Tb)(hs:SR w v s)(hf:IK s)(hr:wt s=true):
  Calls Tryz.prog 7 #[v] w fun e w'=>∃gr,e=.returned (.tuple #[SL.ptr gr,.int .i64 0])∧LB w0 w' g n D gr 0 (s,fun _=>none)∧Below w.heap.size w w':=by
 obtain⟨C,h1,h2⟩:=h;refine(Vq w0.heap.size v s w hs hf hr h2.size).mono ?_;rintro e w' ⟨gr,he,h3,hb⟩;exact⟨gr,he,⟨C,[],h1.below hb,h3,rfl,Nat.le_refl _,h2.trans (hb.mono h2.size)⟩,hb⟩
end
end Go.Proofs.YtpgddamhdfmdjaaGreatDoor
namespace Go.Proofs.YtpgddamhdfmdjaaGreatDoor
open Go.ChangeShapes Go.WideShapes Go.ChangeAt Go.RowKit Go.Maps Go.ChangeMaps
theorem Qs(w:World)(b n:Nat)(T:List Tb)(h:In w b n T):
  Calls Tryz.prog 30 #[.map (some b)] w fun e w'=>e=.returned (.map (some w.heap.size))∧In w' w.heap.size n T∧Below w.heap.size w w':=by
 obtain⟨U,⟨D,⟨es,clock,hb,r⟩,ha⟩,pA,hU⟩:=h;have hq:=fun w=>run_eql_map_nil_sl (P:=Tryz.prog) w 66 _ _ (some b) Tryz.underlying66
 have kP:=run_maps_clone_sl (P:=Tryz.prog) w 66 hb;have EF:(callFunc 51 #[.iface 66 (.map (some b))]).run Tryz.prog w=.ok (.value (.iface 66 (.map (some w.heap.size)))) (w.alloc (.map es clock)):=by
  rw[run_callFunc_extern Tryz.func51 (by kernel_rfl) (by kernel_rfl) (by kernel_rfl) (e:=Extern.MapsClone.clone) (by kernel_rfl),kP];rfl
 have rI:=fun W v=>run_typeAssert_map_sl (P:=Tryz.prog) W 66 20 _ _ v Tryz.underlying66
 have cr:Below w.heap.size w (w.alloc (.map es clock)):=(Below.refl _ _).alloc (Nat.le_refl _) _;have aE:In (w.alloc (.map es clock)) w.heap.size n T:=⟨U,⟨D,⟨es,clock,heap_alloc_new w _,r⟩,ha⟩,fun x p hp=>(pA x p hp).bel cr,hU⟩
 obtain⟨iC,lF⟩:=hZ2 aE cr;clear aE cr pA hU ha;go_enter Tryz.func30,Tryz.ntmps30;go_wp2;go_ret;exact⟨rfl,iC.out,lF.out⟩
theorem X4(v:Value)(s:List Tb)(w:World)(h:SR w v s)(hf:IK s)(hr:wt s=false):
  Calls Tryz.prog 7 #[v] w fun e w'=>∃g,e=.returned (.tuple #[SL.ptr g,.int .i64 4])∧Below w.heap.size w w':=by
 have HR:=qid (TJ v s false hr hf w h);obtain⟨a,c,rfl⟩:=h.form;clear h hf hr;go_enter Tryz.func7,Tryz.ntmps7;go_wp2_with fail;refine HR.out.mono ?_;rintro e w1 ⟨rfl,hb⟩;have aX:=qid hb;clear hb;go_wp2
 go_ret2
 exact⟨_,rfl,aX.out.alloc aX.out.size _⟩
end Go.Proofs.YtpgddamhdfmdjaaGreatDoor
namespace Go.Proofs.YtpgddamhdfmdjaaGreatDoor
open Go.ChangeShapes Go.WideShapes Go.ChangeAt Go.RowKit Go.ChangeMaps
section
variable {B:Nat} {w w':World} {g n m:Nat} {C:Cdb} {D:Dbp}
theorem CD.alt2(h:CD B w g n C D)(hn:n≤m)(hB:B≤w.heap.size)(hc:SL.Chg (C.own g) w w')(id:Int)(o:Option (Nat×Nat))(q:Ses)(hg:w'.heap[g]? =w.heap[g]?)(yG:MV.MapV Tryz.prog 3 w' C.mb m (gF ⟨C.mb,C.vs,H7 C.G id o⟩))(qE:∀i p,i≠id→C.G i=some p→w'.heap[p.1]? =w.heap[p.1]? ∧w'.heap[p.2]? =w.heap[p.2]?)(hid:∀p,o=some p→∃x,q=some x∧SL.Bk w' p.1 68 (trC x.1 p.2)∧In w' p.2 m x.2∧p.2≠C.mb∧(∀i r,i≠id→C.G i=some r→p.1≠r.1∧p.2≠r.2)∧((C.own g p.1∧C.own g p.2)∨(w.heap.size≤p.1∧w.heap.size≤p.2)))(cW:o=none→q=none):CD B w' g m ⟨C.mb,C.vs,H7 C.G id o⟩ (D.1,pi D.2 id q):=by
 have hk:=(h.kc hc fun _ e=>e).kt
 have aE:∀b,Cdb.own ⟨C.mb,C.vs,H7 C.G id o⟩ g b→C.own g b∨w.heap.size≤b:=by
  rintro b (rfl|rfl|⟨i,p,hp,hb⟩)
  ·exact .inl (.inl rfl)
  ·exact .inl (.inr (.inl rfl))
  ·simp only[H7]at hp
   split at hp
   ·obtain⟨x,_,_,_,_,_,h1|h1⟩:=hid p hp
    ·rcases hb with rfl|rfl
     ·exact .inl h1.1
     ·exact .inl h1.2
    ·rcases hb with rfl|rfl
     ·exact .inr h1.1
     ·exact .inr h1.2
   ·exact .inl (.inr (.inr ⟨i,p,hp,hb⟩))
 refine⟨h.bk.heap hg,h.sq.kt hk,yG,fun i p hp=>?_,fun i hi=>?_,fun i j p r hp hr eT=>?_,fun i p hp=>?_,fun b hb=>?_⟩
 ·simp only[H7]at hp
  by_cases e:i=id
  ·rw[if_pos e]at hp
   obtain⟨x,h1,h2,h3,_⟩:=hid p hp;refine⟨x,?_,h2,h3⟩;show pi D.2 id q i=_;rw[e,K6];exact h1
  ·rw[if_neg e]at hp
   obtain⟨x,h1,h2,h3⟩:=h.tr i p hp;obtain⟨e1,e2⟩:=qE i p e hp;refine⟨x,?_,h2.heap e1,(h3.keep hk e2).mono hn⟩;show pi D.2 id q i=_;rw[Kk _ _ e];exact h1
 ·show pi D.2 id q i=none
  simp only[H7]at hi
  by_cases e:i=id
  ·rw[if_pos e]at hi
   rw[e,K6];exact cW hi
  ·rw[if_neg e]at hi
   rw[Kk _ _ e];exact h.no i hi
 ·simp only[H7]at hp hr
  by_cases e:i=id
  ·rw[if_pos e]at hp
   rw[if_neg (fun e2=>eT (by rw[e,e2]))]at hr
   obtain⟨x,_,_,_,_,h5,_⟩:=hid p hp;exact h5 j r (fun e2=>eT (by rw[e,e2])) hr
  ·rw[if_neg e]at hp
   by_cases e2:j=id
   ·rw[if_pos e2]at hr
    obtain⟨x,_,_,_,_,h5,_⟩:=hid r hr;have:=h5 i p e hp;exact⟨this.1.symm,this.2.symm⟩
   ·rw[if_neg e2]at hr
    exact h.ap i j p r hp hr eT
 ·simp only[H7]at hp
  split at hp
  ·obtain⟨x,_,_,_,h4,_⟩:=hid p hp
   exact h4
  ·exact h.mo i p hp
 ·rcases aE b hb with e|e
  ·exact h.bs b e
  ·exact Nat.le_trans hB e
end
def CpI(B:Nat)(w:World)(g2 n k:Nat)(D:Dbp)(left:Lit→Bool)(Cc:Cdb)(E:Int→Ses):Prop:=
 CD B w g2 n Cc (D.1,E)∧MV.MapV Tryz.prog 3 w Cc.mb k (gF Cc)∧∀i,if left (.int .i64 i)=true then Cc.G i=none else E i=D.2 i
theorem CpI.step{B:Nat}{w:World}{g2 n k:Nat}{D:Dbp}{left:Lit→Bool}{Cc:Cdb}{E:Int→Ses}(h:CpI B w g2 n k D left Cc E)(hk:k+1≤n)(hn:n≤100000)(hB:B≤w.heap.size){i:Int}(hi:I9 i)(hl:left (.int .i64 i)=true){q:Bool×List Tb}(hq:D.2 i=some q){W:World}{ob tr:Nat}(oN:Below w.heap.size w W)(vi:In W ob n q.2)(oO:SL.Bk W tr 68 (trC q.1 ob))(h1:w.heap.size≤ob)(h2:w.heap.size≤tr):
  ∃w4,(Instr.mapUpdate 60 (.map (some Cc.mb)) (.int .i64 i) (SL.ptr tr)).run Tryz.prog W=.ok () w4∧CpI B w4 g2 n (k+1) D (fun z=>left z&& !z.sameKey (.int .i64 i)) ⟨Cc.mb,Cc.vs,H7 Cc.G i (some (tr,ob))⟩ (pi E i (some q))∧W.mapTurned w4 Cc.mb:=by
 obtain⟨gb,hm,hE⟩:=h;obtain⟨w4,dK,EG,Bp⟩:=(hm.below oN).put M4 Tryz.underlying60 (by unfold maxLen;omega) (Oa i hi) (SL.ptr tr)
 have Bq:MV.MapV Tryz.prog 3 w4 Cc.mb (k+1) (gF ⟨Cc.mb,Cc.vs,H7 Cc.G i (some (tr,ob))⟩):=EG.congr fun kl=>OM Cc i (some (tr,ob)) kl _
 have eB:=Bp.grown;have yH:=gb.mp.lt;have hc:SL.Chg (Cc.own g2) w w4:=(SL.Chg.of_below oN).grown eB fun k hk _=>by injection hk with hk;subst hk;exact .inr (.inl rfl)
 have cr:∀b,b<w.heap.size→b≠Cc.mb→w4.heap[b]? =w.heap[b]? :=fun b hb b7=>(eB.block b (Nat.lt_of_lt_of_le hb oN.size) (fun e=>b7 (by injection e))).trans (oN.block b hb)
 have nZ:=oO.lt;have jB:=vi.lt;refine⟨w4,dK,⟨gb.alt2 (Nat.le_refl n) hB hc i (some (tr,ob)) (some q) (cr g2 gb.bk.lt (us gb.bk gb.mp.obj)) (Bq.mono hk) (fun j p _ hp=>?_) (fun p hp=>?_) (fun e=>(by cases e)),Bq,fun j=>?_⟩,Bp⟩
 ·obtain⟨x,_,k2,k3⟩:=gb.tr j p hp
  exact⟨cr p.1 k2.lt (us k2 gb.mp.obj),cr p.2 k3.lt (gb.mo j p hp)⟩
 ·injection hp with hp
  subst hp;have k4:SL.Bk w4 tr 68 (trC q.1 ob):=oO.heap (eB.block tr nZ (fun e=>by injection e with e;omega))
  have o4:In w4 ob n q.2:=vi.keep (fun b cs t fr ht hb=>(eB.block b (Array.getElem?_eq_some_iff.1 hb).1 (fun e=>by
   injection e with e;obtain⟨es,ck,hx⟩:=(hm.below oN).obj;rw[←e,hb]at hx;injection hx with hx
   cases hx)).trans hb) (eB.block ob jB (fun e=>by injection e with e;omega))
  refine⟨q,rfl,k4,o4,by show ob≠Cc.mb;omega,fun j r hj hr=>?_,.inr ⟨h2,h1⟩⟩
  obtain⟨x,_,k2,k3⟩:=gb.tr j r hr;have:=k2.lt;have:=k3.lt;exact⟨by show tr≠r.1;omega,by show ob≠r.2;omega⟩
 ·show if(left (.int .i64 j)&& !(Lit.int .i64 j).sameKey (.int .i64 i))=true then H7 Cc.G i (some (tr,ob)) j=none else pi E i (some q) j=D.2 j
  by_cases e:j=i
  ·subst e
   rw[if_neg (by rw[WideAt.sameKey_self (show WideAt.IsKeyLit (Lit.int _ _)from trivial)];simp),K6,hq]
  ·have b7:(Lit.int .i64 j).sameKey (.int .i64 i)=false:=Maps.sameKey_ne (fun e2=>e (by injection e2))
   have:=hE j;rw[b7];simp only[Bool.not_false,Bool.and_true]
   split
   ·rename_i zK
    rw[if_pos zK]at this;unfold H7;rw[if_neg e];exact this
   ·rename_i zK
    rw[if_neg zK]at this;rw[Kk _ _ e];exact this
end Go.Proofs.YtpgddamhdfmdjaaGreatDoor
