/- Dj Tac Tcb Tad Tcc Di Dl Ds Dca Teo Tep -/
import Derived.Test.YtpgddamhdfmdjaaGreatDoorG2
import Derived.OwnWalk
import Derived.Deep.RegionLaw
import Derived.Deep.LoopGhost
import Derived.Test.YtpgddamhdfmdjaaGreatDoorG1
set_option linter.unusedSimpArgs false
set_option linter.unusedVariables false
set_option maxRecDepth 100000
set_option maxHeartbeats 16000000
namespace Go.Proofs.YtpgddamhdfmdjaaGreatDoor
open Go.ChangeShapes Go.WideShapes Go.ChangeAt Go.RowKit
theorem FS.modk{w w1:World}{B g cap:Nat}{x:List Tv}(h:FS B w (.slice (some ⟨g,0,none⟩) x.length cap) x)(i:Nat)(t:Tv)(hi:x[i]? =some t)(u:Value)(l:List Rw)(hu:OR B w1 u l)(hk:∀k,k<w.heap.size→some k≠t.2.1.ownBlock→w1.heap[k]? =w.heap[k]?)(key:∀(j:Nat) (p:Tv),j≠i→x[j]? =some p→(p.2.1.ownBlock=none∨p.2.1.ownBlock≠u.ownBlock)):
  FS B (w1.setCell ⟨g,i*2+1,none⟩ u) (.slice (some ⟨g,0,none⟩) x.length cap) (x.set i (t.1,u,l)):=by
 have hl:i<x.length:=(List.getElem?_eq_some_iff.1 hi).1;have hm:t∈x:=List.mem_of_getElem? hi;have hgt:some g≠t.2.1.ownBlock:=fun e=>JC h.own (h.rows t hm) (g:=g) (g':=g) rfl e.symm JL rfl
 have iE:w1.ownsRow B 55 2 (.slice (some ⟨g,0,none⟩) x.length cap) x.length (tcs x):=lE h.own fun k bK=>by
  obtain rfl:g=k:=by simpa[Value.ownBlock]using bK
  exact hk g (h.own.lt g rfl).2 hgt
 have EU:u.ownBlock≠some g:=fun e=>JC iE hu (g:=g) (g':=g) rfl e JL rfl
 have ah:=(World.ownsRow.stored iE (i*2+1) u).1;rw[OP x i t u l hi]at ah;refine⟨by rw[List.length_set];exact ah,?_,?_⟩
 ·intro t' EV
  obtain⟨j,hj,e⟩:=List.getElem_of_mem EV;rw[List.getElem_set]at e;rw[List.length_set]at hj
  split at e
  ·subst e
   exact lE hu fun k bK=>Below.heap_setCell _ _ _ _ (fun e=>EU (by rw[bK,e]))
  ·rename_i eT
   subst e;have sS:x[j]∈x:=List.getElem_mem hj;refine lE (h.rows _ sS) fun k bK=>?_
   have jf:k≠g:=fun e=>JC h.own (h.rows _ sS) (g:=g) (g':=k) rfl bK JL e.symm
   rw[Below.heap_setCell _ _ _ _ (by exact jf)]
   refine hk k ((h.rows _ sS).lt k bK).2 fun e=>?_
   rcases h.apart j i _ _ (fun e=>eT e.symm) (List.getElem?_eq_getElem hj) hi with h1|h1
   ·rw[bK]at h1;cases h1
   ·exact h1 (bK.trans e)
 ·intro a b p q fa ha aA
  rw[List.getElem?_set]at ha aA
  split at ha
  ·rename_i e1
   split at aA
   ·rename_i e2;exact absurd (e1.symm.trans e2) fa
   ·rename_i e2
    try rw[if_pos hl]at ha
    injection ha with ha;subst ha;rcases key b q (fun e=>e2 e.symm) aA with h1|h1
    ·cases xL:u.ownBlock with
     |none=>exact .inl xL
     |some k=>exact .inr (by show u.ownBlock≠_;rw[xL,h1];exact fun e=>by cases e)
    ·exact .inr (fun e=>h1 e.symm)
  ·rename_i e1
   split at aA
   ·rename_i e2
    try rw[if_pos hl]at aA
    injection aA with aA;subst aA;exact key a p (fun e=>e1 e.symm) ha
   ·exact h.apart a b p q fa ha aA
theorem FS.name{w:World}{B g cap:Nat}{x:List Tv}(h:FS B w (.slice (some ⟨g,0,none⟩) x.length cap) x)(i:Nat)(t:Tv)(hi:x[i]? =some t)(n:ByteArray):
  FS B (w.setCell ⟨g,i*2,none⟩ (.string n)) (.slice (some ⟨g,0,none⟩) x.length cap) (x.set i (n,t.2.1,t.2.2)):=by
 have hl:i<x.length:=(List.getElem?_eq_some_iff.1 hi).1;have hm:t∈x:=List.mem_of_getElem? hi;have ah:=(World.ownsRow.stored h.own (i*2) (.string n)).1;rw[PY x i t n t.2.2 hi]at ah;have kp:∀b∈x,OR B (w.setCell ⟨g,i*2,none⟩ (.string n)) b.2.1 b.2.2:=fun b hb=>lE (h.rows b hb) fun k bK=>Below.heap_setCell _ _ _ _ (fun e=>JC h.own (h.rows b hb) (g:=g) (g':=k) rfl bK JL e.symm)
 refine⟨by rw[List.length_set];exact ah,fun b hb=>?_,fun a b p q fa ha aA=>?_⟩
 ·rcases L8 hb with rfl|hb
  ·exact kp t hm
  ·exact kp b hb
 ·rw[List.getElem?_set]at ha aA
  have e1:∃p',x[a]? =some p'∧p'.2.1=p.2.1:=by
   split at ha
   ·rename_i e;subst e
    try rw[if_pos hl]at ha
    injection ha with ha;subst ha;exact⟨t,hi,rfl⟩
   ·exact⟨p,ha,rfl⟩
  have e2:∃q',x[b]? =some q'∧q'.2.1=q.2.1:=by
   split at aA
   ·rename_i e;subst e
    try rw[if_pos hl]at aA
    injection aA with aA;subst aA;exact⟨t,hi,rfl⟩
   ·exact⟨q,aA,rfl⟩
  obtain⟨p',hp,ep⟩:=e1;obtain⟨q',hq,eq⟩:=e2;have:=h.apart a b p' q' fa hp hq;unfold UZ at this⊢;rw[←ep,←eq];exact this
def tight(t:Tv):Prop:=∃g,t.2.1=.slice (some ⟨g,0,none⟩) t.2.2.length t.2.2.length
structure Qu(B g n:Nat)(s:List Tb)(i:Nat)(w:World)(x:List Tv):Prop where
 fs:FS B w (.slice (some ⟨g,0,none⟩) x.length n) x
 len:x.length=n
 done:tbs (x.take i)=s.take i
 tight:∀(j:Nat) (t:Tv),j<i→x[j]? =some t→tight t
theorem Qu.start{B g n:Nat}{s:List Tb}{w:World}(h:w.ownsRow B 55 2 (.slice (some ⟨g,0,none⟩) n n) n (fl (List.replicate n (.string ByteArray.empty,.slice none 0 0)))):Qu B g n s 0 w (List.replicate n (⟨#[]⟩,.slice none 0 0,[])):=by
 refine⟨⟨?_,?_,?_⟩,List.length_replicate ..,by simp[tbs],fun j t hj=>by omega⟩
 ·rw[List.length_replicate]
  unfold tcs;rw[List.map_replicate];exact h
 ·intro t ht
  rw[List.eq_of_mem_replicate ht];exact World.ownsRow_nil _ _ _ _
 ·intro i j a b _ ha _
  rw[List.eq_of_mem_replicate (List.mem_of_getElem? ha)];exact .inl rfl
theorem Qu.step{B g n:Nat}{s:List Tb}{i:Nat}{w w1:World}{x:List Tv}(h:Qu B g n s i w x)(hb:Below w.heap.size w w1)(t:Tb)(ht:s[i]? =some t)(hn:i<n)(G:Nat)(hG:w.heap.size≤G)(hu:OR B w1 (.slice (some ⟨G,0,none⟩) t.2.length t.2.length) t.2):
  Qu B g n s (i+1) ((w1.setCell ⟨g,i*2,none⟩ (.string t.1)).setCell ⟨g,i*2+1,none⟩ (.slice (some ⟨G,0,none⟩) t.2.length t.2.length)) (x.set i (t.1,.slice (some ⟨G,0,none⟩) t.2.length t.2.length,t.2)):=by
 have bw:i<x.length:=by rw[h.len];exact hn
 have EW:=List.getElem?_eq_getElem bw;have f1:=FS.name (h.fs.below hb) i _ EW t.1;have hy:(x.set i (t.1,x[i].2.1,x[i].2.2))[i]? =some (t.1,x[i].2.1,x[i].2.2):=by rw[List.getElem?_set,if_pos rfl,if_pos bw]
 have hlen:(x.set i (t.1,x[i].2.1,x[i].2.2)).length=x.length:=List.length_set ..;have cx:g<w.heap.size:=(h.fs.own.lt g rfl).2;rw[←hlen]at f1;have f2:=FS.modk f1 i _ hy (.slice (some ⟨G,0,none⟩) t.2.length t.2.length) t.2 (w1:=w1.setCell ⟨g,i*2,none⟩ (.string t.1)) (lE hu fun k hk=>Below.heap_setCell _ _ _ _ (by
   have e:G=k:=by simpa[Value.ownBlock]using hk
   show k≠g;omega)) (fun k _ _=>rfl) (fun j p hj hp=>by
   rw[List.getElem?_set,if_neg (fun e=>hj e.symm)]at hp
   cases nW:p.2.1.ownBlock with
   |none=>exact .inl rfl
   |some k=>
    right
    intro e;have:=((h.fs.rows p (List.mem_of_getElem? hp)).lt k nW).2;have e2:k=G:=by simpa[Value.ownBlock]using e
    omega)
 rw[List.set_set,hlen]at f2;refine⟨by rw[List.length_set];exact f2,by rw[List.length_set];exact h.len,?_,fun j q hj hq=>?_⟩
 ·rw[List.take_add_one,List.getElem?_set,if_pos rfl,if_pos bw,Option.toList_some]
  have e1:(x.set i (t.1,.slice (some ⟨G,0,none⟩) t.2.length t.2.length,t.2)).take i=x.take i:=by
   apply List.ext_getElem?
   intro k;rw[List.getElem?_take,List.getElem?_take]
   split
   ·rw[List.getElem?_set,if_neg (by omega)]
   ·rfl
  rw[e1,List.take_add_one,ht,Option.toList_some,←h.done];unfold tbs;rw[List.map_append];rfl
 ·rw[List.getElem?_set]at hq
  split at hq
  ·try rw[if_pos bw]at hq
   injection hq with hq;subst hq;exact⟨G,rfl⟩
  ·exact h.tight j q (by omega) hq
theorem Sg{α:Type}(L X:List α)(h:X.length=L.length):splice L 0 X=X:=by
 unfold splice;rw[List.take_zero,List.nil_append,List.drop_of_length_le (by omega),List.append_nil]
def IK(s:List Tb):Prop:=s.length≤1000000∧∀t∈s,t.1.size≤1000000∧t.2.length≤1000000
def qbV(s:List Tb)(w:World)(e:Ending)(w':World):Prop:=
 ∃g x,e=.returned (.slice (some ⟨g,0,none⟩) s.length s.length)∧w.heap.size≤g∧FS w.heap.size w' (.slice (some ⟨g,0,none⟩) s.length s.length) x∧tbs x=s∧(∀t∈x,tight t)∧Below w.heap.size w w'
theorem RR.src{w:World}{a:Option Addr}{c:Nat}{l:List Rw}(h:RR w (.slice a l.length c) l)(hp:0<l.length):∃ad,a=some ad∧∀j v,(rcs l)[j]? =some v→w.cell? (ad.add j)=some v:=by
 obtain⟨g,off,cap,he,hc,hx⟩:=h.inv hp;injection he with ea _ _;refine⟨_,ea,fun j v hj=>?_⟩
 obtain⟨i,p,hi,EX⟩:=MD _ j v hj;rw[List.getElem?_map]at hi
 cases zN:l[i]? with
 |none=>rw[zN]at hi;cases hi
 |some r=>
  rw[zN]at hi;injection hi with hi;subst hi;obtain⟨h1,h2⟩:=hx i r zN;rw[Addr.add_lit];rcases EX with⟨rfl,rfl⟩|⟨rfl,rfl⟩
  ·exact h1
  ·exact h2
theorem M3(v:Value)(s:List Tb)(w:World)(h:SR w v s)(hf:IK s):
  Calls Tryz.prog 26 #[v] w (qbV s w):=by
 obtain⟨a,cap,rfl⟩:=h.form;obtain⟨i30,bQ,cS,bR,cY⟩:=OX;obtain⟨i31,bW,cP,cN,cR⟩:=Qb;have bE:=I8;have ak:=JX;obtain⟨HH,HF⟩:=hZ2 h hf;have eI:Hid (s.length≤1000000):=qid hf.1;clear h hf;go_enter Tryz.func26,Tryz.ntmps26;go_wp2_with (refine wpList_make_full _ rfl _ _ 22 rfl w.heap.size 55 i30 _ 2 bE bQ cS bR _ _ _ _ s.length rfl rfl rfl rfl ?a1 ?a2 (Nat.le_refl _) ?_)
 case a1=>rw[cY];have:=eI.out;omega
 case a2=>have:=eI.out;unfold maxLen;omega
 intro w1 mw eB
 rw[qbc]at mw;have Bs:=qid (Qu.start (s:=s) mw);have aX:=qid ((Below.refl w.heap.size w).grown eB (Nat.le_refl _) (fun k hk=>by cases hk))
 obtain⟨g,hg⟩:∃g,w.heap.size=g:=⟨_,rfl⟩;have HG:=qid hg;have G5:Hid (SR w1 (.slice a s.length cap) s):=qid (HH.out.below aX.out);rw[hg]at Bs aX⊢;clear mw eB hg;go_wp2
 go_loopg [12] s.length (fun gk qN wx=>∃(i:Nat) (x:List Tv),qN=.int .i64 (i:Int)∧i+gk=s.length∧Qu g g s.length s i wx x∧Below g w wx)
 case atStart=>exact⟨0,_,rfl,by omega,Bs.out,aX.out⟩
 case round=>
  obtain⟨i,x,rfl,hi,hC,hB⟩:=hrel;obtain⟨HB,HI,HC⟩:=hZ3 hB hi hC
  cases gk with
  |zero=>
   have l1:¬((i:Int)<(s.length:Int)):=by omega
   have bP:qbV s w (.returned (.slice (some ⟨g,0,none⟩) s.length s.length)) wr:=by
    have eE:x.length=s.length:=hC.len;refine⟨g,x,rfl,Nat.le_of_eq HG.out,by have:=hC.fs;rw[eE]at this;rw[HG.out];exact this,?_,fun t ht=>?_,by rw[HG.out];exact hB⟩
    ·have:=hC.done
     rw[List.take_of_length_le (by omega),List.take_of_length_le (by omega)]at this
     exact this
    ·obtain⟨j,hj⟩:=List.getElem?_of_mem ht
     exact hC.tight j t (by have:=(List.getElem?_eq_some_iff.1 hj).1;omega) hj
   have gL:=qid bP;clear hB hi hC bP;go_wp2;go_ret;exact gL.out
  |succ gk=>
   have aD:i<s.length:=by omega
   have vt:=HH.out.below (show Below w.heap.size w wr by rw[HG.out];exact hB)
   obtain⟨b,o,cp,he,cL,hx⟩:=vt.inv (by omega)
   injection he with ea _ ec;subst ea ec;obtain⟨t,de⟩:∃t,s[i]=t:=⟨_,rfl⟩;have dr:s[i]? =some t:=by rw[List.getElem?_eq_getElem aD,de]
   obtain⟨x0,u,x1,hu⟩:=hx i t dr;have bH:=HF.out.2 t (List.mem_of_getElem? dr);have l0:(0:Int)≤(i:Int):=by omega
   have l1:(i:Int)<(s.length:Int):=by omega
   obtain⟨i1,aN⟩:∃i1,i+1=i1:=⟨_,rfl⟩;have wk:IntKind.i64.wrap ((i:Int)+1)=(i1:Int):=by rw[show(i:Int)+1=(i1:Int) by omega];exact IntWalk.i64_in _ (by have:=eI.out;omega)
   have aQ:=qid aN;obtain⟨nm,rs⟩:=t;simp only at bH x0 x1 hu;obtain⟨ua,eJ,rfl⟩:=hu.form;obtain⟨jq,eA,cj⟩:=hZ3 dr bH aD;have gl:=(Below.refl wr.heap.size wr).alloc (Nat.le_refl _) (.cells #[.string nm,.slice ua rs.length eJ] 55);have jK:Blk (wr.alloc (.cells #[.string nm,.slice ua rs.length eJ] 55)) wr.heap.size 55 #[.string nm,.slice ua rs.length eJ]:=Blk.new _ _ _;obtain⟨dh,HK⟩:=hZ2 gl jK;have HU:=qid (hu.below gl);have cx:g<wr.heap.size:=(hC.fs.own.lt g rfl).2;have ks:=qid cx;have eE:i<x.length:=by rw[hC.len];exact aD
   have fh:=qid eE;clear hB hi hC vt hx de dr bH aD aN hu gl jK cx eE;go_wp2_with (refine wpList_make_full _ rfl _ _ 39 rfl g 57 i31 _ 2 ak bW cP cN _ _ _ _ rs.length rfl rfl rfl rfl ?b1 ?b2 ?b3 ?_)
   case b1=>have:=eA.out.2;omega
   case b2=>have:=eA.out.2;unfold maxLen;omega
   case b3=>have:=ks.out;simp;omega
   intro w2 fU gn;rw[qbc]at fU;have aA:Below (wr.alloc (.cells #[.string nm,.slice ua rs.length eJ] 55)).heap.size _ w2:=(Below.refl _ _).grown gn (Nat.le_refl _) (fun k hk=>by cases hk)
   have EY:(wr.alloc (.cells #[.string nm,.slice ua rs.length eJ] 55)).heap.size=wr.heap.size+1:=by simp
   have EZ:=qid (HU.out.below aA);have bK:=HK.out.below aA HK.out.lt;have y0:w2.cell? ⟨wr.heap.size,0,none⟩=some (.string nm):=bK.cell 0;have y1:w2.cell? ⟨wr.heap.size,1,none⟩=some (.slice ua rs.length eJ):=bK.cell 1;have dQ:=qid bK;have aL:Hid (Below wr.heap.size wr w2):=qid (dh.out.trans (aA.mono dh.out.size));have dB:=qid fU;have jX:Hid (wr.heap.size+1<w2.heap.size):=qid (fU.lt _ rfl).2;clear fU gn aA EY bK;go_wp2_with (refine Ht rfl _ _ 39 39 rfl i31 ak bW cN _ _ _ _ _ _ rfl rfl dB.out (rcs rs) ?d1 ?d2 ?d3 (Gu rs) ?_)
   case d1=>rw[show Nat.min rs.length rs.length=rs.length from Nat.min_self _,JB]
   case d2=>exact fun h=>EZ.out.src (by rw[show Nat.min rs.length rs.length=rs.length from Nat.min_self _]at h;exact h)
   case d3=>rw[JB];omega
   intro w3 jC ez;rw[Sg _ _ (by rw[Gr,List.length_replicate,JB])]at jC
   have aO:Hid (Below wr.heap.size wr w3):=qid (aL.out.grown ez aL.out.size (fun k hk=>by injection hk with hk;omega))
   have dt:Hid (OR g w3 (.slice (some ⟨wr.heap.size+1,0,none⟩) rs.length rs.length) rs):=qid jC;have eN:=qid (dQ.out.grown ez (fun e=>by injection e;omega))
   have z0:w3.cell? ⟨wr.heap.size,0,none⟩=some (.string nm):=eN.out.cell 0;have iB:=qid (Hp nm w3 (Nat.le_trans eA.out.1 (by decide)))
   clear y0 y1 jC ez;go_wp2_with (go_at_call 48;(refine iB.out.mono ?_);rintro e w4 ⟨rfl,ai⟩;have bh:Below wr.heap.size wr w4:=aO.out.trans (ai.mono aO.out.size);have ah:=Qu.step HC.out bh (nm,rs) jq.out cj.out (wr.heap.size+1) (Nat.le_succ _) (aS dt.out ai);obtain⟨aY,cH⟩:=hZ2 ah bh;have cJ:=HC.out.fs.below bh;obtain⟨c0,c1⟩:=FS.at_ cJ i _ (List.getElem?_eq_getElem fh.out);have f0:=World.ownsRow.frozenAt cJ.own (i*2);have f1:=World.ownsRow.frozenAt cJ.own (i*2+1);clear ai bh ah cJ);go_roundg gk
   case measure=>exact Nat.lt_succ_self _
   case rel=>
    have sH:Below g w w4:=HB.out.trans (cH.out.mono (Nat.le_of_lt ks.out));refine⟨i1,_,rfl,by have:=aQ.out;have:=HI.out;omega,by have:=aY.out;rw[aQ.out]at this;exact this,?_⟩
    exact(sH.setCell (p:=⟨g,i*2,none⟩) (Nat.le_refl _) _).setCell (p:=⟨g,i*2+1,none⟩) (Nat.le_refl _) _
def Kt(w w':World):Prop:=∀(b:Nat) (cs:Array Value) (t:TypeId) (fr:Nat×Nat),(t=57∨t=55)→w.heap[b]? =some (.cells cs t fr)→w'.heap[b]? =some (.cells cs t fr)
theorem Kt.trans{a b c:World}(h:Kt a b)(k:Kt b c):Kt a c:=fun i cs t fr ht hb=>k i cs t fr ht (h i cs t fr ht hb)
theorem Kt.bel{w w':World}(h:Below w.heap.size w w'):Kt w w':=fun i cs t fr _ hb=>(h.block i (Array.getElem?_eq_some_iff.1 hb).1).trans hb
def RQ(w:World)(v:Value)(l:List Rw):Prop:=
 (∃a cap,l=[]∧v=.slice a 0 cap)∨∃g off cap cs fr,v=.slice (some ⟨g,off,none⟩) l.length cap∧l.length≤cap∧w.heap[g]? =some (.cells cs 57 fr)∧∀(i:Nat) (r:Rw),l[i]? =some r→cs[off+i*2]? =some (.int .i64 r.1)∧cs[off+i*2+1]? =some (.int .i64 r.2)
theorem RQ.rr{w:World}{v:Value}{l:List Rw}(h:RQ w v l):RR w v l:=by
 rcases h with h|⟨g,off,cap,cs,fr,e,hc,hb,hx⟩
 ·exact .inl h
 ·exact .inr ⟨g,off,cap,e,hc,fun i r hi=>⟨(cell_of_row w g _ cs _ fr hb).trans (hx i r hi).1,(cell_of_row w g _ cs _ fr hb).trans (hx i r hi).2⟩⟩
theorem RQ.kt{w w':World}{v:Value}{l:List Rw}(h:RQ w v l)(hk:Kt w w'):RQ w' v l:=by
 rcases h with h|⟨g,off,cap,cs,fr,e,hc,hb,hx⟩
 ·exact .inl h
 ·exact .inr ⟨g,off,cap,cs,fr,e,hc,hk _ _ _ _ (.inl rfl) hb,hx⟩
theorem RQ.krow{w w':World}{v:Value}{l:List Rw}(h:RQ w v l)(hk:∀(b:Nat) (cs:Array Value) (fr:Nat×Nat),w.heap[b]? =some (.cells cs 57 fr)→w'.heap[b]? =w.heap[b]?):RQ w' v l:=by
 rcases h with h|⟨g,off,cap,cs,fr,e,hc,hb,hx⟩
 ·exact .inl h
 ·exact .inr ⟨g,off,cap,cs,fr,e,hc,(hk g cs fr hb).trans hb,hx⟩
theorem RQ.nil(w:World):RQ w (.slice none 0 0) []:=.inl ⟨_,_,rfl,rfl⟩
def SQ(w:World)(v:Value)(s:List Tb):Prop:=
 (∃a cap,s=[]∧v=.slice a 0 cap)∨∃g off cap cs fr,v=.slice (some ⟨g,off,none⟩) s.length cap∧s.length≤cap∧w.heap[g]? =some (.cells cs 55 fr)∧∀(i:Nat) (t:Tb),s[i]? =some t→cs[off+i*2]? =some (.string t.1)∧∃u,cs[off+i*2+1]? =some u∧RQ w u t.2
theorem SQ.sr{w:World}{v:Value}{s:List Tb}(h:SQ w v s):SR w v s:=by
 rcases h with h|⟨g,off,cap,cs,fr,e,hc,hb,hx⟩
 ·exact .inl h
 ·refine .inr ⟨g,off,cap,e,hc,fun i t hi=>?_⟩
  obtain⟨h1,u,h2,h3⟩:=hx i t hi;exact⟨(cell_of_row w g _ cs _ fr hb).trans h1,u,(cell_of_row w g _ cs _ fr hb).trans h2,h3.rr⟩
theorem SQ.kt{w w':World}{v:Value}{s:List Tb}(h:SQ w v s)(hk:Kt w w'):SQ w' v s:=by
 rcases h with h|⟨g,off,cap,cs,fr,e,hc,hb,hx⟩
 ·exact .inl h
 ·refine .inr ⟨g,off,cap,cs,fr,e,hc,hk _ _ _ _ (.inr rfl) hb,fun i t hi=>?_⟩
  obtain⟨h1,u,h2,h3⟩:=hx i t hi;exact⟨h1,u,h2,h3.kt hk⟩
theorem SQ.bel{w w':World}{v:Value}{s:List Tb}(h:SQ w v s)(hb:Below w.heap.size w w'):SQ w' v s:=h.kt (.bel hb)
theorem RQ.bel{w w':World}{v:Value}{l:List Rw}(h:RQ w v l)(hb:Below w.heap.size w w'):RQ w' v l:=h.kt (.bel hb)
theorem SQ.nil(w:World):SQ w (.slice none 0 0) []:=.inl ⟨_,_,rfl,rfl⟩
theorem OR.rq{B:Nat}{w:World}{v:Value}{l:List Rw}(h:OR B w v l):RQ w v l:=by
 rcases h.2 with⟨rfl,h0⟩|⟨g,cap,cur,rfl,hb,hg,hn,_,hs,ht⟩
 ·exact .inl ⟨_,_,List.eq_nil_of_length_eq_zero h0,rfl⟩
 ·refine .inr ⟨g,0,cap,cur,_,rfl,hn,hg,fun i r hi=>?_⟩
  obtain⟨h1,h2⟩:=Ry l i r hi;have hl:i<l.length:=(List.getElem?_eq_some_iff.1 hi).1;have c:=fun j hj=>World.ownsRow.cellAt h (g:=g) (n:=l.length) (cap:=cap) j hj
  have k:=fun j=>cell_of_row w g j cur _ _ hg
  rw[Nat.zero_add];exact⟨(k _).symm.trans ((c (i*2) (by omega)).trans h1),(k _).symm.trans ((c (i*2+1) (by omega)).trans h2)⟩
theorem SQ.of_own{B:Nat}{w:World}{v:Value}{x:List Tv}(h:w.ownsRow B 55 2 v x.length (tcs x))(hr:∀t∈x,RQ w t.2.1 t.2.2):SQ w v (tbs x):=by
 rcases h.2 with⟨rfl,h0⟩|⟨g,cap,cur,rfl,hb,hg,hn,_,hs,ht⟩
 ·have:x=[]:=List.eq_nil_of_length_eq_zero h0
  subst this;exact .inl ⟨_,_,rfl,rfl⟩
 ·refine .inr ⟨g,0,cap,cur,_,by rw[mt],by rw[mt];exact hn,hg,fun i t hi=>?_⟩
  obtain⟨u,hu⟩:=IX x i t hi;obtain⟨h1,h2⟩:=ME x i _ hu;have hl:i<x.length:=(List.getElem?_eq_some_iff.1 hu).1;have c:=fun j hj=>World.ownsRow.cellAt h (g:=g) (n:=x.length) (cap:=cap) j hj
  have k:=fun j=>cell_of_row w g j cur _ _ hg
  rw[Nat.zero_add];exact⟨(k _).symm.trans ((c (i*2) (by omega)).trans h1),u,(k _).symm.trans ((c (i*2+1) (by omega)).trans h2),hr _ (List.mem_of_getElem? hu)⟩
theorem FS.sq{B:Nat}{w:World}{v:Value}{x:List Tv}(h:FS B w v x):SQ w v (tbs x):=SQ.of_own h.own fun t ht=>(h.rows t ht).rq
theorem FS.sqE{B:Nat}{w:World}{v:Value}{x:List Tv}{s:List Tb}(h:FS B w v x)(e:tbs x=s):SQ w v s:=by rw[←e];exact h.sq
theorem SQ.tv{w:World}{v:Value}{s:List Tb}(h:SQ w v s)(hp:0<s.length):∃g off cap,v=.slice (some ⟨g,off,none⟩) s.length cap∧s.length≤cap∧∃X:List Tv,tbs X=s∧∀(i:Nat) (t:Tv),X[i]? =some t→w.cell? ⟨g,off+i*2,none⟩=some (.string t.1)∧w.cell? ⟨g,off+i*2+1,none⟩=some t.2.1∧RQ w t.2.1 t.2.2:=by
 rcases h with⟨a,cap,rfl,_⟩|⟨g,off,cap,cs,fr,e,hc,hb,hx⟩
 ·simp at hp
 ·refine⟨g,off,cap,e,hc,?_⟩
  have key:∀k,k≤s.length→∃X:List Tv,tbs X=s.take k∧∀(i:Nat) (t:Tv),X[i]? =some t→w.cell? ⟨g,off+i*2,none⟩=some (.string t.1)∧w.cell? ⟨g,off+i*2+1,none⟩=some t.2.1∧RQ w t.2.1 t.2.2:=by
   intro k
   induction k with
   |zero=>intro _;exact⟨[],rfl,fun i t hi=>by simp at hi⟩
   |succ k ih=>
    intro hk;obtain⟨X,h1,h2⟩:=ih (by omega)
    have hlen:X.length=k:=by
     have:=congrArg List.length h1;rw[mt,List.length_take]at this;omega
    obtain⟨t,ht⟩:∃t,s[k]? =some t:=⟨s[k]'(by omega),List.getElem?_eq_getElem _⟩
    obtain⟨c1,u,c2,c3⟩:=hx k t ht;refine⟨X++[(t.1,u,t.2)],?_,fun i x hi=>?_⟩
    ·have e2:s.take (k+1)=s.take k++[t]:=by rw[List.take_add_one,ht];rfl
     unfold tbs at h1⊢;rw[List.map_append,h1,e2];rfl
    ·by_cases fV:i<X.length
     ·rw[List.getElem?_append_left fV]at hi;exact h2 i x hi
     ·rw[List.getElem?_append_right (by omega)]at hi
      have hz:i-X.length=0:=by
       have:=(List.getElem?_eq_some_iff.1 hi).1;simp at this;omega
      rw[hz]at hi;simp at hi;subst hi;have:i=k:=by omega
      subst this;exact⟨(cell_of_row w g _ cs _ fr hb).trans c1,(cell_of_row w g _ cs _ fr hb).trans c2,c3⟩
  obtain⟨X,h1,h2⟩:=key s.length (Nat.le_refl _);rw[List.take_length]at h1;exact⟨X,h1,h2⟩
theorem RQ.one{w:World}{v:Value}{l:List Rw}(h:RQ w v l):v.oneCell'=true:=by
 rcases h with⟨a,c,_,rfl⟩|⟨g,o,c,cs,fr,rfl,_⟩<;>rfl
theorem RQ.form{w:World}{v:Value}{l:List Rw}(h:RQ w v l):∃a c,v=.slice a l.length c:=h.rr.form
theorem SQ.form{w:World}{v:Value}{l:List Tb}(h:SQ w v l):∃a c,v=.slice a l.length c:=h.sr.form
abbrev tbV(n:ByteArray)(u:Value):Value:=.agg #[.string n,u]
def In(w:World)(b n:Nat)(T:List Tb):Prop:=
 ∃U:ByteArray→Option (Value×List Rw),MV.MapV Tryz.prog 9 w b n (MV.fS fun x=>(U x).map fun p=>tbV x p.1)∧(∀x p,U x=some p→RQ w p.1 p.2)∧∀x,(U x).map (·.2)=lkT T x
theorem In.lt{w:World}{b n:Nat}{T:List Tb}(h:In w b n T):b<w.heap.size:=by obtain⟨U,h,_⟩:=h;exact h.lt
theorem In.obj{w:World}{b n:Nat}{T:List Tb}(h:In w b n T):∃es clock,w.heap[b]? =some (.map es clock):=by obtain⟨U,h,_⟩:=h;exact h.obj
theorem In.keep{w w':World}{b n:Nat}{T:List Tb}(h:In w b n T)(hk:Kt w w')(e:w'.heap[b]? =w.heap[b]?):In w' b n T:=by
 obtain⟨U,h1,h2,h3⟩:=h;exact⟨U,h1.keep e,fun x p hp=>(h2 x p hp).kt hk,h3⟩
theorem In.mono{w:World}{b n m:Nat}{T:List Tb}(h:In w b n T)(hm:n≤m):In w b m T:=by
 obtain⟨U,h1,h2,h3⟩:=h;exact⟨U,h1.mono hm,h2,h3⟩
theorem TM:Maps.Keyed Tryz.prog 9:=Maps.string_keyed Tryz.underlying9
theorem M4:Maps.Keyed Tryz.prog 3:=Maps.int_keyed Tryz.underlying3
theorem qcC(k:ByteArray)(h:k.size≤281474976710656):keyOf Tryz.prog 9 (.string k)=some (.string k.data.toList):=
 WideMaps.keyOf_string_mk Tryz.underlying9 (by unfold maxLen;omega)
abbrev I9(k:Int):Prop:= -9223372036854775808≤k∧k≤9223372036854775807
theorem Oa(k:Int)(h:I9 k):keyOf Tryz.prog 3 (.int .i64 k)=some (.int .i64 k):=
 Maps.keyOf_int_mk Tryz.underlying3 (by simp[Lit.wf,IntKind.min,IntKind.max,IntKind.signed,IntKind.bits];omega)
abbrev Sv:Type:=Int×Bool×Value×List Tb
def scs:List Sv→List Value
 | []=>[]
 |s::l=>.int .i64 s.1::.bool s.2.1::s.2.2.1::scs l
def sns(x:List Sv):List Sn:=x.map fun s=>(s.1,s.2.1,s.2.2.2)
theorem TN(x y:List Sv):scs (x++y)=scs x++scs y:=by
 induction x with
 |nil=>rfl
 |cons s l ih=>simp only[List.cons_append,scs,ih]
theorem qbW(x:List Sv)(i:Nat)(s:Sv)(h:x[i]? =some s):(scs x)[i*3]? =some (.int .i64 s.1)∧(scs x)[i*3+1]? =some (.bool s.2.1)∧(scs x)[i*3+2]? =some s.2.2.1:=by
 induction x generalizing i with
 |nil=>simp at h
 |cons y l ih=>
  cases i with
  |zero=>simp at h;subst h;exact⟨rfl,rfl,rfl⟩
  |succ i=>
   obtain⟨a,b,c⟩:=ih i (by simpa using h)
   have e:(i+1)*3=i*3+1+1+1:=by omega
   rw[e];exact⟨a,b,c⟩
theorem qad(x:List Sv)(i:Nat)(s:Sv)(h:x[i]? =some s)(b:Bool):(scs x).set (i*3+1) (.bool b)=scs (x.set i (s.1,b,s.2.2)):=by
 induction x generalizing i with
 |nil=>simp at h
 |cons y l ih=>
  cases i with
  |zero=>simp at h;subst h;rfl
  |succ i=>
   have e:(i+1)*3+1=i*3+1+1+1+1:=by omega
   rw[e];show _::_::_::(scs l).set (i*3+1) _=_;rw[ih i (by simpa using h)]
   rfl
theorem qae(x:List Sv)(i:Nat)(s:Sv)(h:x[i]? =some s)(v:Value)(T:List Tb):(scs x).set (i*3+2) v=scs (x.set i (s.1,s.2.1,v,T)):=by
 induction x generalizing i with
 |nil=>simp at h
 |cons y l ih=>
  cases i with
  |zero=>simp at h;subst h;rfl
  |succ i=>
   have e:(i+1)*3+2=i*3+2+1+1+1:=by omega
   rw[e];show _::_::_::(scs l).set (i*3+2) _=_;rw[ih i (by simpa using h)]
   rfl
theorem JG{x:List Sv}{i:Nat}{s:Sn}(h:(sns x)[i]? =some s):∃v,x[i]? =some (s.1,s.2.1,v,s.2.2):=by
 unfold sns at h;rw[List.getElem?_map]at h
 cases hx:x[i]? with
 |none=>rw[hx]at h;cases h
 |some y=>rw[hx]at h;injection h with h;subst h;exact⟨y.2.2.1,rfl⟩
theorem qbX{x:List Sv}{i:Nat}{s:Sv}(h:x[i]? =some s):(sns x)[i]? =some (s.1,s.2.1,s.2.2.2):=by
 unfold sns;rw[List.getElem?_map,h];rfl
theorem qaf(x:List Sv):(sns x).length=x.length:=List.length_map ..
theorem TO(x:List Sv)(i:Nat)(s:Sv):sns (x.set i s)=(sns x).set i (s.1,s.2.1,s.2.2.2):=List.map_set ..
theorem qag(x y:List Sv):sns (x++y)=sns x++sns y:=List.map_append ..
structure RD(B:Nat)(w:World)(g:Nat)(S:List Tb)(x:List Sv):Prop where
 at_:∃cv sv,SL.Bk w g 47 #[cv,sv]∧SQ w cv S∧w.ownsRow B 64 3 sv x.length (scs x)
 lo:B≤g
 rows:∀s∈x,SQ w s.2.2.1 s.2.2.2
theorem jp{B:Nat}{w:World}{sv:Value}{x:List Sv}(h:w.ownsRow B 64 3 sv x.length (scs x)):∃a cap,sv=.slice a x.length cap:=by
 rcases h.2 with⟨rfl,h0⟩|⟨g,cap,cur,rfl,_⟩
 ·exact⟨none,0,by rw[h0]⟩
 ·exact⟨_,_,rfl⟩
theorem Hv{B:Nat}{w:World}{sv:Value}{x:List Sv}(h:w.ownsRow B 64 3 sv x.length (scs x))(hp:0<x.length):∃sg cap,sv=.slice (some ⟨sg,0,none⟩) x.length cap∧x.length≤cap∧B≤sg∧∀(i:Nat) (s:Sv),x[i]? =some s→w.cell? ⟨sg,i*3,none⟩=some (.int .i64 s.1)∧w.cell? ⟨sg,i*3+1,none⟩=some (.bool s.2.1)∧w.cell? ⟨sg,i*3+2,none⟩=some s.2.2.1:=by
 rcases h.2 with⟨rfl,h0⟩|⟨g,cap,cur,rfl,hb,hg,hn,_,hs,ht⟩
 ·omega
 ·refine⟨g,cap,rfl,hn,hb,fun i s hi=>?_⟩
  obtain⟨h1,h2,h3⟩:=qbW x i s hi;have hl:i<x.length:=(List.getElem?_eq_some_iff.1 hi).1;have c:=fun j hj=>World.ownsRow.cellAt h (g:=g) (n:=x.length) (cap:=cap) j hj
  exact⟨(c (i*3) (by omega)).trans h1,(c (i*3+1) (by omega)).trans h2,(c (i*3+2) (by omega)).trans h3⟩
def qbY(ss:List Sn)(id:Int)(r:Int):Prop:=(∃i:Nat,AtS ss id i∧r=(i:Int))∨(dO ss id=none∧r= -1)
theorem m7(B:Nat)(w:World)(g:Nat)(S:List Tb)(x:List Sv)(h:RD B w g S x)(hx:x.length≤100000)(id:Int):
  Calls Tryz.prog 41 #[SL.ptr g,.int .i64 id] w fun e w'=>(∃r,e=.returned (.int .i64 r)∧qbY (sns x) id r)∧w=w':=by
 obtain⟨cv,sv,hk,_,ho⟩:=h.at_;have y1:w.cell? ⟨g,1,none⟩=some sv:=hk.cell 1;obtain⟨sa,sc,rfl⟩:=jp ho;obtain⟨HO,HX⟩:=hZ2 ho hx;clear h ho hk;go_enter Tryz.func41,Tryz.ntmps41;go_wp2
 go_loopg [5] x.length (fun gk u5 wr=>∃j:Nat,u5=.int .i64 (j:Int)∧j+gk=x.length∧Hid (∀(k:Nat) (s:Sn),k<j→(sns x)[k]? =some s→s.1≠id)∧wr=w)
 case atStart=>exact⟨0,rfl,by omega,qid (fun k s hk=>by omega),rfl⟩
 case round=>
  obtain⟨j,rfl,Bt,fX,rfl⟩:=hrel
  by_cases dk:j<x.length
  ·have l2:(j:Int)<(x.length:Int):=by omega
   have l3:(0:Int)≤(j:Int):=by omega
   obtain⟨j1,gW⟩:∃j1,j+1=j1:=⟨_,rfl⟩;have wk:IntKind.i64.wrap ((j:Int)+1)=(j1:Int):=by rw[show(j:Int)+1=(j1:Int) by omega];exact IntWalk.i64_in _ (by have:=HX.out;omega)
   have eD:Hid (j1+(gk-1)=x.length∧gk-1<gk):=qid (by omega)
   obtain⟨s,hs⟩:∃s,x[j]? =some s:=⟨x[j],List.getElem?_eq_getElem dk⟩;obtain⟨sg,cap,he,cL,_,hx⟩:=Hv HO.out (by omega)
   injection he with ea _ ec;subst ea ec;obtain⟨z0,_,_⟩:=hx j s hs;have j7:=qid (qbX hs);have ik:=qid gW;obtain⟨s0,s1,s2,s3⟩:=s;have z0:wr.cell? ⟨sg,j*3,none⟩=some (.int .i64 s0):=z0;have j7:Hid ((sns x)[j]? =some (s0,s1,s3)):=j7;clear hx hs dk Bt gW
   by_cases hid:s0=id
   ·subst hid
    have dV:=qid (show qbY (sns x) s0 (j:Int)from .inl ⟨j,⟨⟨_,j7.out,rfl⟩,fX.out⟩,rfl⟩);clear fX;go_wp2;go_ret;exact⟨⟨_,rfl,dV.out⟩,rfl⟩
   ·have fY:Hid (∀(k:Nat) (s:Sn),k<j1→(sns x)[k]? =some s→s.1≠id):=qid (fun k s hk hs=>by
     by_cases Ea:k<j
     ·exact fX.out k s Ea hs
     ·have:k=j:=by have:=ik.out;omega
      subst this;rw[j7.out]at hs;injection hs with hs;subst hs;exact hid)
    clear fX;go_wp2;go_roundg (gk-1)
    case measure=>exact eD.out.2
    case rel=>exact⟨j1,rfl,eD.out.1,fY,rfl⟩
  ·have l2:¬((j:Int)<(x.length:Int)):=by omega
   have dV:=qid (show qbY (sns x) id (-1)from .inr ⟨IJ.2 fun s hs=>by
    obtain⟨k,hk⟩:=List.getElem?_of_mem hs;have:=(List.getElem?_eq_some_iff.1 hk).1;rw[qaf]at this;exact fX.out k s (by omega) hk,rfl⟩)
   clear fX dk Bt;go_wp2;go_ret;exact⟨⟨_,rfl,dV.out⟩,rfl⟩
theorem f9{w w':World}{g:Nat}{t:TypeId}{cs:Array Value}(h:SL.Bk w g t cs)(hb:Below w.heap.size w w'):SL.Bk w' g t cs:=h.heap (hb.block g h.lt)
abbrev trC(b:Bool)(ob:Nat):Array Value:=#[.int .u8 (if b=true then 69 else 84),.map (some ob)]
structure Cdb where
 mb:Nat
 vs:Value
 G:Int→Option (Nat×Nat)
def Cdb.own(C:Cdb)(g b:Nat):Prop:=b=g∨b=C.mb∨∃i p,C.G i=some p∧(b=p.1∨b=p.2)
abbrev dbC(g:Nat)(C:Cdb):Array Value:=#[SL.ptr g,C.vs,.map (some C.mb)]
def gF(C:Cdb):Lit→Option Value:=MV.fI fun i=>(C.G i).map fun p=>SL.ptr p.1
structure CD(B:Nat)(w:World)(g n:Nat)(C:Cdb)(D:Dbp):Prop where
 bk:SL.Bk w g 62 (dbC g C)
 sq:SQ w C.vs D.1
 mp:MV.MapV Tryz.prog 3 w C.mb n (gF C)
 tr:∀i p,C.G i=some p→∃q,D.2 i=some q∧SL.Bk w p.1 68 (trC q.1 p.2)∧In w p.2 n q.2
 no:∀i,C.G i=none→D.2 i=none
 ap:∀i j p q,C.G i=some p→C.G j=some q→i≠j→p.1≠q.1∧p.2≠q.2
 mo:∀i p,C.G i=some p→p.2≠C.mb
 bs:∀b,C.own g b→B≤b
def Kc(w w':World):Prop:=∀(b:Nat) (cs:Array Value) (t:TypeId) (fr:Nat×Nat),t≠62→t≠68→w.heap[b]? =some (.cells cs t fr)→w'.heap[b]? =some (.cells cs t fr)
theorem Kc.kt{w w':World}(h:Kc w w'):Kt w w':=fun b cs t fr ht hb=>h b cs t fr (by rcases ht with rfl|rfl<;>decide) (by rcases ht with rfl|rfl<;>decide) hb
theorem Kc.bel{w w':World}(h:Below w.heap.size w w'):Kc w w':=fun i cs t fr _ _ hb=>(h.block i (Array.getElem?_eq_some_iff.1 hb).1).trans hb
section
variable {B:Nat} {w w':World} {g n:Nat} {C:Cdb} {D:Dbp}
theorem CD.kind(h:CD B w g n C D){b:Nat}(hb:C.own g b):(∃cs t fr,(t=62∨t=68)∧w.heap[b]? =some (.cells cs t fr))∨∃es clock,w.heap[b]? =some (.map es clock):=by
 rcases hb with rfl|rfl|⟨i,p,hp,rfl|rfl⟩
 ·exact .inl ⟨_,_,_,.inl rfl,h.bk⟩
 ·exact .inr h.mp.obj
 ·obtain⟨q,_,h2,_⟩:=h.tr i p hp
  exact .inl ⟨_,_,_,.inr rfl,h2⟩
 ·obtain⟨q,_,_,h3⟩:=h.tr i p hp
  exact .inr h3.obj
theorem CD.lt(h:CD B w g n C D){b:Nat}(hb:C.own g b):b<w.heap.size:=by
 rcases h.kind hb with⟨cs,t,fr,_,e⟩|⟨es,ck,e⟩<;>exact(Array.getElem?_eq_some_iff.1 e).1
theorem CD.kc(h:CD B w g n C D){S:Nat→Prop}(hc:SL.Chg S w w')(hs:∀b,S b→C.own g b):Kc w w':=fun b cs t fr h1 h2 hb=>(hc.block b (Array.getElem?_eq_some_iff.1 hb).1 (fun ho=>by
 rcases h.kind (hs b ho)with⟨mv,t',zO,ht,e⟩|⟨es,ck,e⟩
 ·rw[hb]at e
  injection e with e;injection e with _ e2 _;subst e2;rcases ht with ht|ht
  ·exact h1 ht
  ·exact h2 ht
 ·rw[hb]at e
  injection e with e
  cases e)).trans hb
theorem CD.keep(h:CD B w g n C D)(hk:Kt w w')(hb:∀b,C.own g b→w'.heap[b]? =w.heap[b]?):CD B w' g n C D:=
 ⟨h.bk.heap (hb g (.inl rfl)),h.sq.kt hk,h.mp.keep (hb _ (.inr (.inl rfl))),fun i p hp=>by
  obtain⟨q,h1,h2,h3⟩:=h.tr i p hp;exact⟨q,h1,h2.heap (hb _ (.inr (.inr ⟨i,p,hp,.inl rfl⟩))),h3.keep hk (hb _ (.inr (.inr ⟨i,p,hp,.inr rfl⟩)))⟩,h.no,h.ap,h.mo,h.bs⟩
theorem CD.below(h:CD B w g n C D)(hb:Below w.heap.size w w'):CD B w' g n C D:=h.keep (.bel hb) fun b ho=>hb.block b (h.lt ho)
theorem CD.mono(h:CD B w g n C D){m:Nat}(hm:n≤m):CD B w g m C D:=
 ⟨h.bk,h.sq,h.mp.mono hm,fun i p hp=>by
  obtain⟨q,h1,h2,h3⟩:=h.tr i p hp;exact⟨q,h1,h2,h3.mono hm⟩,h.no,h.ap,h.mo,h.bs⟩
theorem CD.cells(h:CD B w g n C D):w.cell? ⟨g,0,none⟩=some (SL.ptr g)∧w.cell? ⟨g,1,none⟩=some C.vs∧w.cell? ⟨g,2,none⟩=some (.map (some C.mb)):=⟨h.bk.cell 0,h.bk.cell 1,h.bk.cell 2⟩
theorem CD.at_(h:CD B w g n C D)(i:Int):(C.G i=none∧D.2 i=none)∨∃p q,C.G i=some p∧D.2 i=some q∧SL.Bk w p.1 68 (trC q.1 p.2)∧In w p.2 n q.2:=by
 cases hg:C.G i with
 |none=>exact .inl ⟨rfl,h.no i hg⟩
 |some p=>
  obtain⟨q,h1,h2,h3⟩:=h.tr i p hg;exact .inr ⟨p,q,rfl,h1,h2,h3⟩
end
def StD(B:Nat)(g n:Nat)(C:Cdb)(D':Dbp)(w w':World):Prop:=∃C',CD B w' g n C' D'∧SL.Chg (C.own g) w w'∧∀b,C'.own g b→C.own g b∨w.heap.size≤b
theorem StD.refl{B:Nat}{w w':World}{g n:Nat}{C:Cdb}{D:Dbp}(h:CD B w g n C D)(hb:Below w.heap.size w w'):StD B g n C D w w':=⟨C,h.below hb,.of_below hb,fun b hb=>.inl hb⟩
theorem StD.mono{B:Nat}{w w':World}{g n m:Nat}{C:Cdb}{D':Dbp}(h:StD B g n C D' w w')(hm:n≤m):StD B g m C D' w w':=by
 obtain⟨C',h1,h2,h3⟩:=h;exact⟨C',h1.mono hm,h2,h3⟩
theorem StD.trans{B:Nat}{w w1 w2:World}{g n m:Nat}{C:Cdb}{D1 D2:Dbp}(h:StD B g n C D1 w w1)(k:∀C1,CD B w1 g n C1 D1→StD B g m C1 D2 w1 w2):StD B g m C D2 w w2:=by
 obtain⟨C1,h1,h2,h3⟩:=h;obtain⟨C2,k1,k2,k3⟩:=k C1 h1;refine⟨C2,k1,h2.trans' k2 fun b hb ho=>?_,fun b hb=>?_⟩
 ·rcases h3 b ho with h|h
  ·exact h
  ·omega
 ·rcases k3 b hb with h|h
  ·exact h3 b h
  ·exact .inr (Nat.le_trans h2.size h)
theorem StD.pre{B:Nat}{w w1 w2:World}{g n:Nat}{C:Cdb}{D2:Dbp}(hb:Below w.heap.size w w1)(h:StD B g n C D2 w1 w2):StD B g n C D2 w w2:=by
 obtain⟨C2,k1,k2,k3⟩:=h;refine⟨C2,k1,(SL.Chg.of_below hb).trans' k2 fun b _ ho=>ho,fun b ho=>?_⟩
 rcases k3 b ho with h|h
 ·exact .inl h
 ·exact .inr (Nat.le_trans hb.size h)
def lT(B:Nat)(w:World)(b:Nat):Prop:=B≤b∧∃cs t fr,(t=47∨t=64)∧w.heap[b]? =some (.cells cs t fr)
theorem lT.back{B:Nat}{w w':World}(hc:SL.Chg (lT B w) w w'){b:Nat}(hb:b<w.heap.size)(h:lT B w' b):lT B w b:=by
 refine Classical.byContradiction fun hn=>hn ?_
 obtain⟨h1,cs,t,fr,h2,h3⟩:=h;exact⟨h1,cs,t,fr,h2,(hc.block b hb hn).symm.trans h3⟩
theorem lT.trans{B:Nat}{w w1 w2:World}(h:SL.Chg (lT B w) w w1)(k:SL.Chg (lT B w1) w1 w2):SL.Chg (lT B w) w w2:=h.trans' k fun b hb ho=>ho.back h hb
theorem lT.kt{B:Nat}{w w':World}(h:SL.Chg (lT B w) w w'):Kt w w':=fun b cs t fr ht hb=>(h.block b (Array.getElem?_eq_some_iff.1 hb).1 (fun ho=>by
 obtain⟨_,mv,t',zO,h2,h3⟩:=ho;rw[hb]at h3;injection h3 with h3;injection h3 with _ e _;subst e;rcases ht with rfl|rfl<;>rcases h2 with h2|h2<;>exact absurd h2 (by decide))).trans hb
theorem lT.below{B:Nat}{w w':World}(h:SL.Chg (lT B w) w w')(hB:B≤w.heap.size):Below B w w':=h.below hB fun b hb ho=>by have:=ho.1;omega
theorem CD.keepR{B B2:Nat}{w w':World}{g n:Nat}{C:Cdb}{D:Dbp}(h:CD B w g n C D)(hc:SL.Chg (lT B2 w) w w'):CD B w' g n C D:=
 h.keep (lT.kt hc) fun b hb=>hc.block b (h.lt hb) fun ho=>by
  obtain⟨_,cs,t,fr,h2,h3⟩:=ho;rcases h.kind hb with⟨mv,t',zO,ht,e⟩|⟨es,ck,e⟩
  ·rw[h3]at e
   injection e with e;injection e with _ e _;subst e;rcases ht with rfl|rfl<;>rcases h2 with h2|h2<;>exact absurd h2 (by decide)
  ·rw[h3]at e
   injection e with e
   cases e
theorem RD.keep{B:Nat}{w w':World}{g:Nat}{S:List Tb}{x:List Sv}(h:RD B w g S x)(hk:Kt w w')(hb:∀(b:Nat) (cs:Array Value) (t:TypeId) (fr:Nat×Nat),t=47∨t=64→w.heap[b]? =some (.cells cs t fr)→w'.heap[b]? =w.heap[b]?):RD B w' g S x:=by
 obtain⟨cv,sv,h1,h2,h3⟩:=h.at_;refine⟨⟨cv,sv,h1.heap (hb g _ _ _ (.inl rfl) h1),h2.kt hk,lE h3 fun k bK=>?_⟩,h.lo,fun s hs=>(h.rows s hs).kt hk⟩
 obtain⟨cur,hc⟩:=m9 h3 bK;exact hb k _ _ _ (.inr rfl) hc
theorem RD.kc{B:Nat}{w w':World}{g:Nat}{S:List Tb}{x:List Sv}(h:RD B w g S x)(hk:Kc w w'):RD B w' g S x:=
 h.keep hk.kt fun b cs t fr ht hb=>(hk b cs t fr (by rcases ht with rfl|rfl<;>decide) (by rcases ht with rfl|rfl<;>decide) hb).trans hb.symm
theorem RD.below{B:Nat}{w w':World}{g:Nat}{S:List Tb}{x:List Sv}(h:RD B w g S x)(hb:Below w.heap.size w w'):RD B w' g S x:=h.kc (.bel hb)
theorem RD.own{B:Nat}{w:World}{g:Nat}{S:List Tb}{x:List Sv}(h:RD B w g S x):lT B w g:=by
 obtain⟨cv,sv,h1,_,_⟩:=h.at_;exact⟨h.lo,_,_,_,.inl rfl,h1⟩
def StR(B g n:Nat)(D':Dbp)(w w':World):Prop:=∃x',RD B w' g D'.1 x'∧dO (sns x')=D'.2∧x'.length≤n∧SL.Chg (lT B w) w w'
theorem StR.refl{B g n:Nat}{S:List Tb}{x:List Sv}{w w':World}(h:RD B w g S x)(hn:x.length≤n)(hb:Below w.heap.size w w'):StR B g n (dbS S (sns x)) w w':=⟨x,h.below hb,rfl,hn,.of_below hb⟩
theorem StR.mono{B g n m:Nat}{D:Dbp}{w w1:World}(h:StR B g n D w w1)(hm:n≤m):StR B g m D w w1:=by
 obtain⟨x,h1,h2,h3,h4⟩:=h;exact⟨x,h1,h2,Nat.le_trans h3 hm,h4⟩
theorem StR.pre{B g n:Nat}{D:Dbp}{w w1 w2:World}(hb:Below w.heap.size w w1)(h:StR B g n D w1 w2):StR B g n D w w2:=by
 obtain⟨x,h1,h2,h3,h4⟩:=h;exact⟨x,h1,h2,h3,lT.trans (.of_below hb) h4⟩
theorem RD.set_{B:Nat}{w:World}{g:Nat}{S:List Tb}{x:List Sv}(h:RD B w g S x){sg cap:Nat}{cv:Value}(hk:SL.Bk w g 47 #[cv,.slice (some ⟨sg,0,none⟩) x.length cap])(ho:w.ownsRow B 64 3 (.slice (some ⟨sg,0,none⟩) x.length cap) x.length (scs x))(hq:SQ w cv S)(k:Nat)(v:Value)(y:List Sv)(hl:y.length=x.length)(he:(scs x).set k v=scs y)(hr:∀s∈y,SQ w s.2.2.1 s.2.2.2):RD B (w.setCell ⟨sg,k,none⟩ v) g S y∧SL.Chg (lT B w) w (w.setCell ⟨sg,k,none⟩ v):=by
 obtain⟨cur,cT⟩:=m9 ho (g:=sg) rfl;have mL:B≤sg:=(ho.lt sg rfl).1;have hO:lT B w sg:=⟨mL,_,_,_,.inr rfl,cT⟩;have hc:SL.Chg (lT B w) w (w.setCell ⟨sg,k,none⟩ v):=(SL.Chg.refl _ w).setCell (p:=⟨sg,k,none⟩) hO v;have b7:g≠sg:=fun e=>by
  subst e;have:=hk.symm.trans cT;injection this with this;injection this with _ e _;exact absurd e (by decide)
 obtain⟨a1,_⟩:=World.ownsRow.stored ho k v;rw[he]at a1;exact⟨⟨⟨cv,.slice (some ⟨sg,0,none⟩) x.length cap,hk.heap (Below.heap_setCell _ _ _ _ b7),hq.kt (lT.kt hc),by rw[hl];exact a1⟩,h.lo,fun s hs=>(hr s hs).kt (lT.kt hc)⟩,hc⟩
theorem pm(B:Nat)(w:World)(g:Nat)(S:List Tb)(x:List Sv)(h:RD B w g S x)(hx:x.length≤100000)(id:Int)(hi:I9 id)(R:Int)(hR:dg (dbS S (sns x)) id=R):
  Calls Tryz.prog 17 #[SL.ptr g,.int .i64 id] w fun e w'=>e=.returned (.int .u8 R)∧w=w':=by
 by_cases h0:0≤id
 ·by_cases h1:id≤1000
  ·have hs:isS id=true:=by unfold isS;simp[h0,h1]
   have l1:¬(id<0):=by omega
   have l2:¬(1000<id):=by omega
   unfold dg at hR;rw[if_pos hs]at hR;obtain⟨cv,sv,hk,bU,ho⟩:=h.at_;have y1:w.cell? ⟨g,1,none⟩=some sv:=hk.cell 1;have HF:=qid (m7 B w g S x h hx id);obtain⟨sa,sc,rfl⟩:=jp ho;obtain⟨HO,HH,eH⟩:=hZ3 ho h bU;clear bU;clear h ho hk;go_enter Tryz.func17,Tryz.ntmps17;go_wp2_with fail;refine HF.out.mono ?_;rintro e w' ⟨⟨r,rfl,hr⟩,rfl⟩;rcases hr with⟨i,al,rfl⟩|⟨hn,rfl⟩
   ·have dS:=al
    obtain⟨⟨s,az,bC⟩,_⟩:=dS;have hg:=I7 al az;obtain⟨v,hv⟩:=JG az;have bw:i<x.length:=(List.getElem?_eq_some_iff.1 hv).1;obtain⟨sg,cap,he,cL,_,dE⟩:=Hv HO.out (by omega)
    injection he with ea _ ec;subst ea ec;obtain⟨_,z1,_⟩:=dE i _ hv;obtain⟨s0,s1,s2⟩:=s;have z1:w.cell? ⟨sg,i*3+1,none⟩=some (.bool s1):=z1;have hR:stO (some (s1,s2))=R:=by rw[←hg];exact hR
    have l3:(i:Int)<(x.length:Int):=by omega
    have l4:(0:Int)≤(i:Int):=by omega
    have l5:¬((i:Int)<0):=by omega
    clear dE hv az bC hg al bw
    cases s1 with
    |true=>
     have hR:(69:Int)=R:=hR;subst hR;go_wp2;go_ret;exact⟨rfl,rfl⟩
    |false=>
     have hR:(84:Int)=R:=hR;subst hR;go_wp2;go_ret;exact⟨rfl,rfl⟩
   ·have hR:stO (dO (sns x) id)=R:=hR
    rw[hn]at hR;have hR:(73:Int)=R:=hR;subst hR;clear hn;go_wp2;go_ret;exact⟨rfl,rfl⟩
  ·have hs:isS id=false:=by unfold isS;simp[h1]
   unfold dg at hR;rw[if_neg (by rw[hs];simp)]at hR
   subst hR;have l2:1000<id:=by omega
   have l1:¬(id<0):=by omega
   clear h;go_enter Tryz.func17,Tryz.ntmps17;go_wp2;go_ret;exact⟨rfl,rfl⟩
 ·have hs:isS id=false:=by unfold isS;simp[h0]
  unfold dg at hR;rw[if_neg (by rw[hs];simp)]at hR
  subst hR;have l1:id<0:=by omega
  clear h;go_enter Tryz.func17,Tryz.ntmps17;go_wp2;go_ret;exact⟨rfl,rfl⟩
def M5(B g n:Nat)(D':Dbp)(c:Int)(w:World)(e:Ending)(w':World):Prop:=e=.returned (.int .i64 c)∧StR B g n D' w w'
theorem M6(B:Nat)(w:World)(g:Nat)(S:List Tb)(x:List Sv)(h:RD B w g S x)(hx:x.length≤100000)(id:Int)(c:Int):
  Calls Tryz.prog 40 #[SL.ptr g,.int .i64 id,.int .i64 c] w (M5 B g x.length (Hg (dbS S (sns x)) id) c w):=by
 obtain⟨cv,sv,hk,bU,ho⟩:=h.at_;have y1:w.cell? ⟨g,1,none⟩=some sv:=hk.cell 1;have HF:=qid (m7 B w g S x h hx id);obtain⟨sa,sc,rfl⟩:=jp ho;obtain⟨HO,HH,eH⟩:=hZ3 ho h bU;clear bU;have fQ:=qid hk;clear h hk;go_enter Tryz.func40,Tryz.ntmps40;go_wp2_with fail;refine HF.out.mono ?_;rintro e w' ⟨⟨r,rfl,hr⟩,rfl⟩;rcases hr with⟨i,al,rfl⟩|⟨hn,rfl⟩
 ·have dS:=al
  obtain⟨⟨s,az,bC⟩,_⟩:=dS;obtain⟨v,hv⟩:=JG az;have bw:i<x.length:=(List.getElem?_eq_some_iff.1 hv).1;obtain⟨sg,cap,he,cL,_,dE⟩:=Hv HO.out (by omega)
  injection he with ea _ ec;subst ea ec;obtain⟨_,z1,_⟩:=dE i _ hv;obtain⟨s0,s1,s2⟩:=s;have z1:w.cell? ⟨sg,i*3+1,none⟩=some (.bool s1):=z1;have zf:w.frozen? ⟨sg,i*3+1,none⟩=false:=World.ownsRow.frozenAt ho _;have l3:(i:Int)<(x.length:Int):=by omega
  have l4:(0:Int)≤(i:Int):=by omega
  obtain⟨HV,s9,bx,dL⟩:=hZ4 hv al bC az;clear dE hv az bC al bw ho;go_wp2;go_ret;obtain⟨h1,h2⟩:=RD.set_ HH.out fQ.out HO.out eH.out (i*3+1) (.bool true) _ (List.length_set ..) (qad x i _ HV.out true) (fun q hq=>by
   rcases List.mem_or_eq_of_mem_set hq with hq|hq
   ·exact HH.out.rows q hq
   ·subst hq;exact HH.out.rows (s0,s1,v,s2) (List.mem_of_getElem? HV.out))
  obtain rfl:=bx.out;refine⟨rfl,⟨_,h1,?_,by rw[List.length_set];exact Nat.le_refl _,h2⟩⟩
  have e3:=Xp (S:=S) s9.out dL.out;rw[TO];exact congrArg Prod.snd e3
 ·have e:Hg (dbS S (sns x)) id=dbS S (sns x):=(U5 hn).symm
  have HE:=qid e;clear hn e ho;go_wp2;go_ret;refine⟨rfl,?_⟩;rw[HE.out];exact StR.refl HH.out (Nat.le_refl _) (Below.refl _ _)
theorem IE{α:Type}(A Z X:List α)(k:Nat)(hk:A.length=k)(h:X.length≤Z.length):splice (A++Z) k X=A++X++Z.drop X.length:=by
 subst hk;unfold splice;rw[List.take_left,List.drop_append,List.drop_of_length_le (by omega:A.length≤A.length+X.length),List.nil_append,←List.append_assoc]
 congr 2
 omega
theorem Jz{α:Type}(A Z X Y:List α)(k m:Nat)(hk:A.length=k)(hm:k+X.length=m)(hz:Z.length=X.length+Y.length):splice (splice (A++Z) k X) m Y=A++(X++Y):=by
 rw[IE A Z X k hk (by omega)]
 have h2:(A++X).length=m:=by rw[List.length_append];omega
 have h3:(Z.drop X.length).length=Y.length:=by rw[List.length_drop];omega
 rw[IE (A++X) (Z.drop X.length) Y m h2 (by omega),List.drop_of_length_le (by omega),List.append_nil,List.append_assoc]
def MA(ty:TypeId)(B g:Nat)(l:List (Value×Value))(w:World)(e:Ending)(w':World):Prop:=
 ∃h c,e=.returned (.slice (some ⟨h,0,none⟩) l.length c)∧w'.ownsRow B ty 2 (.slice (some ⟨h,0,none⟩) l.length c) l.length (fl l)∧w.grownBy w' (some g)∧(h=g∨w.heap.size≤h)
theorem Lw{α:Type}(l:List α)(i:Nat)(x:α)(h:i≤l.length):(l.take i++x::l.drop i).length=l.length+1:=by
 rw[List.length_append,List.length_cons,List.length_take,List.length_drop];omega
theorem Qv(B g:Nat)(l:List (Value×Value))(i:Nat)(p0 p1:Value)(vb:Nat)(w:World)(h:w.ownsRow B 57 2 (.slice (some ⟨g,0,none⟩) l.length l.length) l.length (fl l))(fD:∀v∈fl l,v.oneCell'=true)(vu:p0.oneCell'=true)(lu:p1.oneCell'=true)(jv:w.cell? ⟨vb,0,none⟩=some p0)(gm:w.cell? ⟨vb,1,none⟩=some p1)(hi:i≤l.length)(hl:l.length≤1000000)(hB:B≤w.heap.size):
  Calls Tryz.prog 100 #[.slice (some ⟨g,0,none⟩) l.length l.length,.int .i64 (i:Int),.slice (some ⟨vb,0,none⟩) 1 1] w (MA 57 B g (l.take i++(p0,p1)::l.drop i) w):=by
 obtain⟨i30,bQ,cS,bR,cY⟩:=Qb;have bE:=JX;have jR:∀(W:World),W.cell? ⟨vb,0,none⟩=some p0→W.cell? ⟨vb,1,none⟩=some p1→∀j u,([p0,p1]:List Value)[j]? =some u→W.cell? ((⟨vb,0,none⟩:Addr).add j)=some u:=by
  intro W h0 h1 j u hu;rw[Addr.add_lit]
  match j,hu with
  |0,hu=>simp at hu;subst hu;exact h0
  |1,hu=>simp at hu;subst hu;exact h1
 have fR:∀u∈([p0,p1]:List Value),u.oneCell'=true:=by
  intro u hu;simp only[List.mem_cons,List.not_mem_nil,or_false]at hu;rcases hu with rfl|rfl
  ·exact vu
  ·exact lu
 obtain⟨HN,dB,HO,fj,HB,HL⟩:=hZ6 jR fR h fD hB hl;obtain⟨zP,cB⟩:=hZ2 jv gm;have cx:=(h.lt g rfl).2;have vv:vb<w.heap.size:=World.block_lt_of_cell? w _ jv;obtain⟨ks,yC⟩:=hZ2 cx vv;have eY:=Lw l i (p0,p1) hi;obtain⟨R,hR⟩:∃R,l.take i++(p0,p1)::l.drop i=R:=⟨_,rfl⟩;rw[hR]at eY⊢;have HR:=qid hR;obtain⟨n1,dj⟩:∃n1,l.length+1=n1:=⟨_,rfl⟩;rw[dj]at eY;obtain⟨o7,cu⟩:=hZ2 eY dj;have l0:(0:Int)≤(i:Int):=by omega
 have l1:(i:Int)≤(l.length:Int):=by omega
 have wk:IntKind.i64.wrap ((l.length:Int)+1)=(n1:Int):=by rw[show(l.length:Int)+1=(n1:Int) by omega];exact IntWalk.i64_in _ (by omega)
 unfold MA;rw[eY];clear h fD vu lu jR fR hl cx vv hR eY hB
 by_cases eO:i=l.length
 ·subst eO
  clear jv gm;go_enter Tryz.func100,Tryz.ntmps100;go_wp2_with (at_builtin;refine wpList_append_lies _ rfl _ _ 39 rfl B 57 i30 (.agg #[.int .i64 0,.int .i64 0]) 2 16 bE bQ cS bR cY rfl (by decide) _ l.length (fl l) rfl HO.out ⟨vb,0,none⟩ 1 1 [p0,p1] rfl rfl ?c1 ?c2 (by decide) ?c3 ?c4 ?c5 _ rfl ?_)
  all_goals first
   |exact HN.out _ zP.out cB.out
   |exact dB.out
   |(have:=HL.out;unfold maxLen;omega)
   |(have:=HL.out;omega)
   |exact HB.out
   |skip
  intro g9 bN w9 aB aM af cE;have dC:=HR.out;rw[List.take_of_length_le (Nat.le_refl _),List.drop_of_length_le (Nat.le_refl _)]at dC;have ay:w9.ownsRow B 57 2 (.slice (some ⟨g9,0,none⟩) n1 bN) n1 (fl R):=by
   rw[←dC,Ib];exact aB
  obtain⟨cX,nh⟩:=hZ2 ay aM;have eS:g9=g∨w.heap.size≤g9:=by
   rcases af with h|h
   ·left;injection h with h;exact h.symm
   ·right;omega
  have qA:=qid eS;clear aB ay aM af eS dC;go_wp2;go_ret;exact⟨g9,bN,rfl,cX.out,nh.out,qA.out⟩
 ·have bw:i<l.length:=by omega
  have dM:=qid bw;obtain⟨k,hk⟩:∃k,n1-i=k:=⟨_,rfl⟩;have HK:=qid hk;have sJ:IntKind.i64.wrap ((n1:Int)-(i:Int))=(k:Int):=by rw[show(n1:Int)-(i:Int)=(k:Int) by omega];exact IntWalk.i64_in _ (by have:=HL.out;have:=cu.out;omega)
  have l2:¬((i:Int)=(l.length:Int)):=by omega
  have l3:(l.length:Int)<(n1:Int):=by omega
  have l4:¬(l.length=i):=by omega
  obtain⟨i1,aN⟩:∃i1,i+1=i1:=⟨_,rfl⟩;have aQ:=qid aN;have yD:IntKind.i64.wrap ((i:Int)+1)=(i1:Int):=by rw[show(i:Int)+1=(i1:Int) by omega];exact IntWalk.i64_in _ (by have:=HL.out;have:=dM.out;omega)
  obtain⟨c,w1,dK,aE,eB⟩:=run_app_zeros (P:=Tryz.prog) (w:=w) (B:=B) (e:=57) 39 3 39 i30 (.int .i64 0) (.int .i64 0) 16 .i64 .i64 bE Tryz.underlying3 bQ cS bR cY
   (some ⟨g,0,none⟩) i l.length (fl (l.take i)) (by rw[Gr,List.length_take];omega) (fun _=>⟨_,rfl,fun j v hj=>by
    rw[KW,List.getElem?_take]at hj
    split at hj
    ·have:=HO.out.cells rfl j v hj
     exact this
    ·cases hj⟩) k (by omega) (by omega) HB.out (by have:=HL.out;omega) (by have:=HL.out;unfold maxLen;omega)
  have fV:i+k=n1:=by omega
  rw[fV]at dK aE;have bn:n1≤c:=by
   rcases aE.2 with⟨h',_⟩|⟨g',jm,cur,h',_,_,ns,_⟩
   ·cases h'
   ·injection h' with _ _ h';omega
  have l5:(n1:Int)≤(c:Int):=by omega
  have l6:¬(c=i):=by omega
  have l7:¬(c=i1):=by omega
  have l8:(i:Int)≤(n1:Int):=by omega
  have l9:(i1:Int)≤(n1:Int):=by omega
  have l10:(0:Int)≤(i1:Int):=by omega
  obtain⟨qC,HC,iC,iD⟩:=hZ4 fV bn aE eB;have x0:w1.cell? ⟨vb,0,none⟩=some p0:=eB.cell (a:=⟨vb,0,none⟩) jv (by simp)
  have x1:w1.cell? ⟨vb,1,none⟩=some p1:=eB.cell (a:=⟨vb,1,none⟩) gm (by simp)
  obtain⟨dz,bX⟩:=hZ2 x0 x1;clear x0 x1 jv gm eO bw hk aN aE eB fV bn;obtain⟨H,hH⟩:∃H,w.heap.size=H:=⟨_,rfl⟩;have HH:=qid hH;rw[hH]at dK iC⊢;clear hH;go_enter Tryz.func100,Tryz.ntmps100;go_wp2_with (first
   |(at_builtin;refine Lib.wpList_append_run _ rfl _ _ _ _ rfl _ _ rfl rfl _ _ dK ?_)
   |(refine Ht rfl _ _ 39 39 rfl i30 bE bQ bR _ _ _ _ _ _ rfl rfl iC.out [p0,p1] ?d1 ?d2 ?d3 dB.out ?_))
  case d1=>
   have:=dM.out;have:=cu.out;rw[show Nat.min 1 (n1-i)=1 from Nat.min_eq_left (by omega)];rfl
  case d2=>exact fun _=>⟨_,rfl,HN.out w1 dz.out bX.out⟩
  case d3=>
   have:=dM.out;have:=cu.out;show i*2+2≤n1*2;omega
  intro w3 jC ez;have gZ:Nat.min 1 (n1-i)=1:=Nat.min_eq_left (by have:=dM.out;have:=cu.out;omega)
  have i':Nat.min (l.length-i) (n1-i1)=l.length-i:=Nat.min_eq_left (by have:=dM.out;have:=cu.out;have:=aQ.out;omega)
  have jx:(fl (l.drop i)).length=(l.length-i)*2:=by rw[Gr,List.length_drop]
  have dw:∀j v,(fl (l.drop i))[j]? =some v→w3.cell? ((⟨g,i*2,none⟩:Addr).add j)=some v:=by
   intro j v hj;rw[Ki,List.getElem?_drop]at hj;have h1:=HO.out.cells rfl (i*2+j) v hj;rw[Addr.add_lit,Nat.zero_add]at h1;rw[Addr.add_lit];have b7:g≠H:=by have:=ks.out;have:=HH.out;omega
   exact ez.cell (a:=⟨g,i*2+j,none⟩) (iD.out.cell (a:=⟨g,i*2+j,none⟩) h1 (by simp)) (fun e=>b7 (by injection e))
  obtain⟨jy,dt,gM,iQ,lM⟩:=hZ5 dw jC ez i' jx;have mY:Hid (∀v∈fl (l.drop i),v.oneCell'=true):=qid (fun v hv=>fj.out v (by rw[Ki]at hv;exact List.mem_of_mem_drop hv))
  clear dw jC ez i' jx;rw[gZ];clear gZ;go_wp2_with fail
  go_region_law (refine JE rfl _ _ 39 39 rfl i30 bE bQ bR (i1*2) (n1-i1) (c-i1) (some ⟨g,i*2,none⟩) (l.length-i) (l.length-i) (by simp[Act.eval,Act.put]) (by simp[Act.eval,Act.put]) dt.out (fl (l.drop i)) (by rw[iQ.out];exact lM.out) (fun _=>⟨_,rfl,jy.out⟩) (by rw[lM.out];have:=dM.out;have:=cu.out;have:=aQ.out;omega) mY.out ?_;intro w4 eM eW)
  obtain⟨iV,ed⟩:=hZ2 eM eW;clear eM eW;go_wp2;go_ret;have hO:=iV.out;rw[Jz _ _ _ _ _ _ (by rw[Gr,List.length_take,Nat.min_eq_left (Nat.le_of_lt dM.out)]) (by have:=aQ.out;show i*2+2=i1*2;omega) (by rw[Gr,List.length_replicate,lM.out];have:=qC.out;have:=cu.out;have:=dM.out;show k*2=2+_;omega)]at hO
  have hG:w.grownBy w4 (some g):=by
   have g1:=iD.out;have bH:=HH.out;refine⟨ed.out.os.trans (gM.out.os.trans g1.os),ed.out.tape.trans (gM.out.tape.trans g1.tape),ed.out.output.trans (gM.out.output.trans g1.output),Nat.le_trans g1.size (Nat.le_trans gM.out.size ed.out.size),fun q hq _=>?_⟩
   have p4:some q≠some H:=fun e=>by injection e with e;omega
   have h1:=g1.size;exact(ed.out.block q (Nat.lt_of_lt_of_le hq (Nat.le_trans h1 gM.out.size)) p4).trans ((gM.out.block q (Nat.lt_of_lt_of_le hq h1) p4).trans (g1.block q hq (by simp)))
  refine⟨H,c,rfl,?_,hG,.inr (Nat.le_refl _)⟩;rw[←HR.out,Ib];exact hO
theorem Qw(B g:Nat)(l:List (Value×Value))(i:Nat)(p0 p1:Value)(vb:Nat)(w:World)(h:w.ownsRow B 55 2 (.slice (some ⟨g,0,none⟩) l.length l.length) l.length (fl l))(fD:∀v∈fl l,v.oneCell'=true)(vu:p0.oneCell'=true)(lu:p1.oneCell'=true)(jv:w.cell? ⟨vb,0,none⟩=some p0)(gm:w.cell? ⟨vb,1,none⟩=some p1)(hi:i≤l.length)(hl:l.length≤1000000)(hB:B≤w.heap.size):
  Calls Tryz.prog 68 #[.slice (some ⟨g,0,none⟩) l.length l.length,.int .i64 (i:Int),.slice (some ⟨vb,0,none⟩) 1 1] w (MA 55 B g (l.take i++(p0,p1)::l.drop i) w):=by
 obtain⟨i30,bQ,cS,bR,cY⟩:=OX;have bE:=I8;have jR:∀(W:World),W.cell? ⟨vb,0,none⟩=some p0→W.cell? ⟨vb,1,none⟩=some p1→∀j u,([p0,p1]:List Value)[j]? =some u→W.cell? ((⟨vb,0,none⟩:Addr).add j)=some u:=by
  intro W h0 h1 j u hu;rw[Addr.add_lit]
  match j,hu with
  |0,hu=>simp at hu;subst hu;exact h0
  |1,hu=>simp at hu;subst hu;exact h1
 have fR:∀u∈([p0,p1]:List Value),u.oneCell'=true:=by
  intro u hu;simp only[List.mem_cons,List.not_mem_nil,or_false]at hu;rcases hu with rfl|rfl
  ·exact vu
  ·exact lu
 obtain⟨HN,dB,HO,fj,HB,HL⟩:=hZ6 jR fR h fD hB hl;obtain⟨zP,cB⟩:=hZ2 jv gm;have cx:=(h.lt g rfl).2;have vv:vb<w.heap.size:=World.block_lt_of_cell? w _ jv;obtain⟨ks,yC⟩:=hZ2 cx vv;have eY:=Lw l i (p0,p1) hi;obtain⟨R,hR⟩:∃R,l.take i++(p0,p1)::l.drop i=R:=⟨_,rfl⟩;rw[hR]at eY⊢;have HR:=qid hR;obtain⟨n1,dj⟩:∃n1,l.length+1=n1:=⟨_,rfl⟩;rw[dj]at eY;obtain⟨o7,cu⟩:=hZ2 eY dj;have l0:(0:Int)≤(i:Int):=by omega
 have l1:(i:Int)≤(l.length:Int):=by omega
 have wk:IntKind.i64.wrap ((l.length:Int)+1)=(n1:Int):=by rw[show(l.length:Int)+1=(n1:Int) by omega];exact IntWalk.i64_in _ (by omega)
 unfold MA;rw[eY];clear h fD vu lu jR fR hl cx vv hR eY hB
 by_cases eO:i=l.length
 ·subst eO
  clear jv gm;go_enter Tryz.func68,Tryz.ntmps68;go_wp2_with (at_builtin;refine wpList_append_lies _ rfl _ _ 22 rfl B 55 i30 (.agg #[.string ByteArray.empty,.slice none 0 0]) 2 40 bE bQ cS bR cY rfl (by decide) _ l.length (fl l) rfl HO.out ⟨vb,0,none⟩ 1 1 [p0,p1] rfl rfl ?c1 ?c2 (by decide) ?c3 ?c4 ?c5 _ rfl ?_)
  all_goals first
   |exact HN.out _ zP.out cB.out
   |exact dB.out
   |(have:=HL.out;unfold maxLen;omega)
   |(have:=HL.out;omega)
   |exact HB.out
   |skip
  intro g9 bN w9 aB aM af cE;have dC:=HR.out;rw[List.take_of_length_le (Nat.le_refl _),List.drop_of_length_le (Nat.le_refl _)]at dC;have ay:w9.ownsRow B 55 2 (.slice (some ⟨g9,0,none⟩) n1 bN) n1 (fl R):=by
   rw[←dC,Ib];exact aB
  obtain⟨cX,nh⟩:=hZ2 ay aM;have eS:g9=g∨w.heap.size≤g9:=by
   rcases af with h|h
   ·left;injection h with h;exact h.symm
   ·right;omega
  have qA:=qid eS;clear aB ay aM af eS dC;go_wp2;go_ret;exact⟨g9,bN,rfl,cX.out,nh.out,qA.out⟩
 ·have bw:i<l.length:=by omega
  have dM:=qid bw;obtain⟨k,hk⟩:∃k,n1-i=k:=⟨_,rfl⟩;have HK:=qid hk;have sJ:IntKind.i64.wrap ((n1:Int)-(i:Int))=(k:Int):=by rw[show(n1:Int)-(i:Int)=(k:Int) by omega];exact IntWalk.i64_in _ (by have:=HL.out;have:=cu.out;omega)
  have l2:¬((i:Int)=(l.length:Int)):=by omega
  have l3:(l.length:Int)<(n1:Int):=by omega
  have l4:¬(l.length=i):=by omega
  obtain⟨i1,aN⟩:∃i1,i+1=i1:=⟨_,rfl⟩;have aQ:=qid aN;have yD:IntKind.i64.wrap ((i:Int)+1)=(i1:Int):=by rw[show(i:Int)+1=(i1:Int) by omega];exact IntWalk.i64_in _ (by have:=HL.out;have:=dM.out;omega)
  obtain⟨c,w1,dK,aE,eB⟩:=run_app_zeros (P:=Tryz.prog) (w:=w) (B:=B) (e:=55) 22 3 22 i30 (.string ByteArray.empty) (.slice none 0 0) 40 .i64 .i64 bE Tryz.underlying3 bQ cS bR cY
   (some ⟨g,0,none⟩) i l.length (fl (l.take i)) (by rw[Gr,List.length_take];omega) (fun _=>⟨_,rfl,fun j v hj=>by
    rw[KW,List.getElem?_take]at hj
    split at hj
    ·have:=HO.out.cells rfl j v hj
     exact this
    ·cases hj⟩) k (by omega) (by omega) HB.out (by have:=HL.out;omega) (by have:=HL.out;unfold maxLen;omega)
  have fV:i+k=n1:=by omega
  rw[fV]at dK aE;have bn:n1≤c:=by
   rcases aE.2 with⟨h',_⟩|⟨g',jm,cur,h',_,_,ns,_⟩
   ·cases h'
   ·injection h' with _ _ h';omega
  have l5:(n1:Int)≤(c:Int):=by omega
  have l6:¬(c=i):=by omega
  have l7:¬(c=i1):=by omega
  have l8:(i:Int)≤(n1:Int):=by omega
  have l9:(i1:Int)≤(n1:Int):=by omega
  have l10:(0:Int)≤(i1:Int):=by omega
  obtain⟨qC,HC,iC,iD⟩:=hZ4 fV bn aE eB;have x0:w1.cell? ⟨vb,0,none⟩=some p0:=eB.cell (a:=⟨vb,0,none⟩) jv (by simp)
  have x1:w1.cell? ⟨vb,1,none⟩=some p1:=eB.cell (a:=⟨vb,1,none⟩) gm (by simp)
  obtain⟨dz,bX⟩:=hZ2 x0 x1;clear x0 x1 jv gm eO bw hk aN aE eB fV bn;obtain⟨H,hH⟩:∃H,w.heap.size=H:=⟨_,rfl⟩;have HH:=qid hH;rw[hH]at dK iC⊢;clear hH;go_enter Tryz.func68,Tryz.ntmps68;go_wp2_with (first
   |(at_builtin;refine Lib.wpList_append_run _ rfl _ _ _ _ rfl _ _ rfl rfl _ _ dK ?_)
   |(refine Ht rfl _ _ 22 22 rfl i30 bE bQ bR _ _ _ _ _ _ rfl rfl iC.out [p0,p1] ?d1 ?d2 ?d3 dB.out ?_))
  case d1=>
   have:=dM.out;have:=cu.out;rw[show Nat.min 1 (n1-i)=1 from Nat.min_eq_left (by omega)];rfl
  case d2=>exact fun _=>⟨_,rfl,HN.out w1 dz.out bX.out⟩
  case d3=>
   have:=dM.out;have:=cu.out;show i*2+2≤n1*2;omega
  intro w3 jC ez;have gZ:Nat.min 1 (n1-i)=1:=Nat.min_eq_left (by have:=dM.out;have:=cu.out;omega)
  have i':Nat.min (l.length-i) (n1-i1)=l.length-i:=Nat.min_eq_left (by have:=dM.out;have:=cu.out;have:=aQ.out;omega)
  have jx:(fl (l.drop i)).length=(l.length-i)*2:=by rw[Gr,List.length_drop]
  have dw:∀j v,(fl (l.drop i))[j]? =some v→w3.cell? ((⟨g,i*2,none⟩:Addr).add j)=some v:=by
   intro j v hj;rw[Ki,List.getElem?_drop]at hj;have h1:=HO.out.cells rfl (i*2+j) v hj;rw[Addr.add_lit,Nat.zero_add]at h1;rw[Addr.add_lit];have b7:g≠H:=by have:=ks.out;have:=HH.out;omega
   exact ez.cell (a:=⟨g,i*2+j,none⟩) (iD.out.cell (a:=⟨g,i*2+j,none⟩) h1 (by simp)) (fun e=>b7 (by injection e))
  obtain⟨jy,dt,gM,iQ,lM⟩:=hZ5 dw jC ez i' jx;have mY:Hid (∀v∈fl (l.drop i),v.oneCell'=true):=qid (fun v hv=>fj.out v (by rw[Ki]at hv;exact List.mem_of_mem_drop hv))
  clear dw jC ez i' jx;rw[gZ];clear gZ;go_wp2_with fail
  go_region_law (refine JE rfl _ _ 22 22 rfl i30 bE bQ bR (i1*2) (n1-i1) (c-i1) (some ⟨g,i*2,none⟩) (l.length-i) (l.length-i) (by simp[Act.eval,Act.put]) (by simp[Act.eval,Act.put]) dt.out (fl (l.drop i)) (by rw[iQ.out];exact lM.out) (fun _=>⟨_,rfl,jy.out⟩) (by rw[lM.out];have:=dM.out;have:=cu.out;have:=aQ.out;omega) mY.out ?_;intro w4 eM eW)
  obtain⟨iV,ed⟩:=hZ2 eM eW;clear eM eW;go_wp2;go_ret;have hO:=iV.out;rw[Jz _ _ _ _ _ _ (by rw[Gr,List.length_take,Nat.min_eq_left (Nat.le_of_lt dM.out)]) (by have:=aQ.out;show i*2+2=i1*2;omega) (by rw[Gr,List.length_replicate,lM.out];have:=qC.out;have:=cu.out;have:=dM.out;show k*2=2+_;omega)]at hO
  have hG:w.grownBy w4 (some g):=by
   have g1:=iD.out;have bH:=HH.out;refine⟨ed.out.os.trans (gM.out.os.trans g1.os),ed.out.tape.trans (gM.out.tape.trans g1.tape),ed.out.output.trans (gM.out.output.trans g1.output),Nat.le_trans g1.size (Nat.le_trans gM.out.size ed.out.size),fun q hq _=>?_⟩
   have p4:some q≠some H:=fun e=>by injection e with e;omega
   have h1:=g1.size;exact(ed.out.block q (Nat.lt_of_lt_of_le hq (Nat.le_trans h1 gM.out.size)) p4).trans ((gM.out.block q (Nat.lt_of_lt_of_le hq h1) p4).trans (g1.block q hq (by simp)))
  refine⟨H,c,rfl,?_,hG,.inr (Nat.le_refl _)⟩;rw[←HR.out,Ib];exact hO
theorem Ob(v:Value)(l:List Rw)(k:Int)(w:World)(h:RR w v l)(hu:upR l)(hl:l.length≤1000000):
  Calls Tryz.prog 99 #[v,.int .i64 k] w fun e w'=>e=.returned (.tuple #[.int .i64 (Hr l k:Nat),.bool (Im l k)])∧Below w.heap.size w w':=by
 obtain⟨a,cap,rfl⟩:=h.form;have HS:=qid (P5 _ l k w h (Xh hu k) hl);clear h hu hl;go_enter Tryz.func99,Tryz.ntmps99;go_wp2_with (go_at_call 137;(refine HS.out.mono ?_);rintro e w2 ⟨rfl,aA⟩;have aL:=qid aA;clear aA)
 go_ret2
 exact⟨rfl,aL.out⟩
theorem FS.modr{w w1:World}{B:Nat}{v:Value}{x:List Tv}(h:FS B w v x)(i:Nat)(t:Tv)(hi:x[i]? =some t)(l:List Rw)(hu:OR B w1 t.2.1 l)(hk:∀k,k<w.heap.size→some k≠t.2.1.ownBlock→w1.heap[k]? =w.heap[k]?):FS B w1 v (x.set i (t.1,t.2.1,l)):=by
 have hl:i<x.length:=(List.getElem?_eq_some_iff.1 hi).1;have hm:t∈x:=List.mem_of_getElem? hi;have e:tcs (x.set i (t.1,t.2.1,l))=tcs x:=by
  rw[←OP x i t t.2.1 l hi];exact JV _ _ _ (ME x i t hi).2
 refine⟨?_,?_,?_⟩
 ·rw[List.length_set,e]
  refine lE h.own fun k bK=>hk k (h.own.lt k bK).2 fun e=>?_
  exact JC h.own (h.rows t hm) bK e.symm JL rfl
 ·intro b hb
  obtain⟨j,hj,e⟩:=List.getElem_of_mem hb;rw[List.getElem_set]at e;rw[List.length_set]at hj
  split at e
  ·subst e;exact hu
  ·rename_i eT
   subst e;refine lE (h.rows _ (List.getElem_mem hj)) fun k bK=>hk k ((h.rows _ (List.getElem_mem hj)).lt k bK).2 fun e=>?_
   rcases h.apart j i _ _ (fun e=>eT e.symm) (List.getElem?_eq_getElem hj) hi with h1|h1
   ·rw[bK]at h1;cases h1
   ·exact h1 (bK.trans e)
 ·intro a b p q fa ha aA
  rw[List.getElem?_set]at ha aA;have e1:∃p',x[a]? =some p'∧p'.2.1=p.2.1:=by
   split at ha
   ·rename_i e;subst e
    try rw[if_pos hl]at ha
    injection ha with ha;subst ha;exact⟨t,hi,rfl⟩
   ·exact⟨p,ha,rfl⟩
  have e2:∃q',x[b]? =some q'∧q'.2.1=q.2.1:=by
   split at aA
   ·rename_i e;subst e
    try rw[if_pos hl]at aA
    injection aA with aA;subst aA;exact⟨t,hi,rfl⟩
   ·exact⟨q,aA,rfl⟩
  obtain⟨p',hp,ep⟩:=e1;obtain⟨q',hq,eq⟩:=e2;have:=h.apart a b p' q' fa hp hq;unfold UZ at this⊢;rw[←ep,←eq];exact this
theorem OR.setV{B g cap:Nat}{w:World}{l:List Rw}(h:OR B w (.slice (some ⟨g,0,none⟩) l.length cap) l)(i:Nat)(r:Rw)(v:Int)(hi:l[i]? =some r):
  OR B (w.setCell ⟨g,i*2+1,none⟩ (.int .i64 v)) (.slice (some ⟨g,0,none⟩) l.length cap) (l.set i (r.1,v))∧w.grownBy (w.setCell ⟨g,i*2+1,none⟩ (.int .i64 v)) (some g):=by
 obtain⟨a1,a2⟩:=World.ownsRow.stored h (i*2+1) (.int .i64 v);have e:(rcs l).set (i*2+1) (.int .i64 v)=rcs (l.set i (r.1,v)):=by
  unfold rcs;rw[L7 _ i (rp r) _ (by rw[List.getElem?_map,hi];rfl),List.map_set]
 rw[e]at a1;exact⟨by unfold OR;rw[List.length_set];exact a1,a2⟩
theorem Sh(B h:Nat)(l:List Rw)(i:Nat)(k v:Int)(vb:Nat)(w:World)(ho:OR B w (.slice (some ⟨h,0,none⟩) l.length l.length) l)(jv:w.cell? ⟨vb,0,none⟩=some (.int .i64 k))(gm:w.cell? ⟨vb,1,none⟩=some (.int .i64 v))(hi:i≤l.length)(hl:l.length≤1000000)(hB:B≤w.heap.size):
  Calls Tryz.prog 100 #[.slice (some ⟨h,0,none⟩) l.length l.length,.int .i64 (i:Int),.slice (some ⟨vb,0,none⟩) 1 1] w fun e w'=>
   ∃h' c,e=.returned (.slice (some ⟨h',0,none⟩) (l.take i++(k,v)::l.drop i).length c)∧OR B w' (.slice (some ⟨h',0,none⟩) (l.take i++(k,v)::l.drop i).length c) (l.take i++(k,v)::l.drop i)∧w.grownBy w' (some h)∧(h'=h∨w.heap.size≤h'):=by
 have e1:(l.map rp).length=l.length:=List.length_map ..;have e2:(l.map rp).take i++(.int .i64 k,.int .i64 v)::(l.map rp).drop i=(l.take i++(k,v)::l.drop i).map rp:=by
  rw[List.map_append,List.map_cons,List.map_take,List.map_drop]
 have fU:w.ownsRow B 57 2 (.slice (some ⟨h,0,none⟩) (l.map rp).length (l.map rp).length) (l.map rp).length (fl (l.map rp)):=by rw[e1];exact ho
 have:=Qv B h (l.map rp) i (.int .i64 k) (.int .i64 v) vb w fU (Gu l) rfl rfl jv gm (by rw[e1];exact hi) (by rw[e1];exact hl) hB
 rw[e1,e2]at this;refine this.mono ?_;rintro e w' ⟨h',c,h1,h2,h3,h4⟩;rw[List.length_map]at h1 h2;exact⟨h',c,h1,h2,h3,h4⟩
def qah(B:Nat)(V:Value)(x:List Tv)(i:Nat)(n:ByteArray)(R:List Rw×Int)(w:World)(e:Ending)(w':World):Prop:=
 ∃u,e=.returned (.int .i64 R.2)∧FS B w' V (x.set i (n,u,R.1))∧Below B w w'
theorem Qx{B:Nat}{a b:World}{row:Option Nat}(h:a.grownBy b row)(hB:B≤a.heap.size)(hr:∀k,row=some k→B≤k):Below B a b:=(Below.refl B a).grown h hB hr
theorem qai(B g cap:Nat)(x:List Tv)(i:Nat)(t:Tv)(k v:Int)(w:World)(h:FS B w (.slice (some ⟨g,0,none⟩) x.length cap) x)(hi:x[i]? =some t)(ht:tight t)(hu:upR t.2.2)(hl:t.2.2.length≤1000000)(hB:B≤w.heap.size):
  Calls Tryz.prog 77 #[.pointer (some ⟨g,i*2,none⟩),.int .i64 k,.int .i64 v] w (qah B (.slice (some ⟨g,0,none⟩) x.length cap) x i t.1 (MG t.2.2 k v) w):=by
 obtain⟨c0,c1⟩:=FS.at_ h i t hi;have lR:=h.rows t (List.mem_of_getElem? hi);obtain⟨HF,HI⟩:=hZ2 h hi;have cx:=(h.own.lt g rfl).2;have sH:=(h.own.lt g rfl).1;have oP:∀(j:Nat) (p:Tv),j≠i→x[j]? =some p→(p.2.1.ownBlock=none∨p.2.1.ownBlock≠t.2.1.ownBlock):=fun j p hj hp=>h.apart j i p t hj hp hi
 obtain⟨hb,qR⟩:=ht;obtain⟨n,u,l⟩:=t;simp only at qR lR hu hl c0 c1 oP⊢;subst qR;have cr:=lR.lt hb rfl;have Bu:g≠hb:=JC h.own lR rfl rfl JL;obtain⟨vx,kU⟩:=hZ2 oP lR;have lH:=qid (Ob _ l k w lR.rr hu hl);have au:Hr l k≤l.length:=IF (ltK k) l;obtain⟨ks,Eb,lF,Ec,HL,HB⟩:=hZ6 cx sH cr Bu hl hB;have vy:∀W:World,Below w.heap.size w W→W.cell? ⟨g,i*2+1,none⟩=some (.slice (some ⟨hb,0,none⟩) l.length l.length)∧W.frozen? ⟨g,i*2+1,none⟩=false:=fun W hW=>
  ⟨(hW.cell (p:=⟨g,i*2+1,none⟩) cx).trans c1,World.ownsRow.frozenAt (HF.out.below hW).own _⟩
 have rM:=qid vy;obtain⟨R,hR⟩:∃R,MG l k v=R:=⟨_,rfl⟩;rw[hR];obtain⟨F,hF⟩:∃F,Im l k=F:=⟨_,rfl⟩;obtain⟨L,hL⟩:∃L,Hr l k=L:=⟨_,rfl⟩;have sk:MG l k v=if F=true then(l.set L (k,v),0)else if 64≤l.length then(l,11)else(l.take L++(k,v)::l.drop L,0):=by unfold MG OQ;rw[hF,hL]
 rw[hF,hL]at lH;rw[hL]at au;rw[hR]at sk;have Bv:F=true→∃r,l[L]? =some r∧r.1=k:=fun e=>by rw[←hL];exact MI (hF.trans e)
 obtain⟨Ed,q7⟩:=hZ2 Bv au;clear h hi cx sH oP lR hu hl cr Bu au hB vy hR hF hL Bv c0
 cases F with
 |true=>
  obtain⟨r,hr,kz⟩:=Ed.out rfl;have aD:L<l.length:=(List.getElem?_eq_some_iff.1 hr).1;have dC:R=(l.set L (k,v),0):=by rw[sk,if_pos rfl]
  subst dC;obtain⟨HR,zQ⟩:=hZ2 hr kz;have l0:(0:Int)≤(L:Int):=by omega
  have l1:(L:Int)<(l.length:Int):=by omega
  clear hr kz aD sk;go_enter Tryz.func77,Tryz.ntmps77;go_wp2_with (go_at_call 99;(refine lH.out.mono ?_);rintro e w2 ⟨rfl,aA⟩;have aL:=qid aA;have dB:Hid (OR B w2 (.slice (some ⟨hb,0,none⟩) l.length l.length) l):=qid (aS kU.out aA);obtain⟨y0,y1,f0,f1⟩:=OR.cells dB.out L _ HR.out;obtain⟨c2,f2⟩:=rM.out w2 aA;clear aA);go_ret;obtain⟨o1,o2⟩:=OR.setV dB.out L _ v HR.out;rw[zQ.out]at o1;refine⟨.slice (some ⟨hb,0,none⟩) l.length l.length,rfl,?_,(aL.out.mono HB.out).setCell (p:=⟨hb,L*2+1,none⟩) lF.out.1 _⟩;refine FS.modr HF.out i (n,.slice (some ⟨hb,0,none⟩) l.length l.length,l) HI.out (l.set L (k,v)) ?_ ?_
  ·have e:(l.set L (k,v)).length=l.length:=List.length_set ..
   exact o1
  ·intro q hq b7
   exact(o2.block q (Nat.lt_of_lt_of_le hq aL.out.size) b7).trans (aL.out.block q hq)
 |false=>
  have pS:R=if 64≤l.length then(l,11)else(l.take L++(k,v)::l.drop L,0):=by rw[sk,if_neg (by decide)]
  by_cases eZ:64≤l.length
  ·have dC:R=(l,11):=by rw[pS,if_pos eZ]
   subst dC;have ko:(64:Int)≤(l.length:Int):=by omega
   clear sk pS eZ;go_enter Tryz.func77,Tryz.ntmps77;go_wp2_with (go_at_call 99;(refine lH.out.mono ?_);rintro e w2 ⟨rfl,aA⟩;have aL:=qid aA;obtain⟨c2,f2⟩:=rM.out w2 aA;clear aA);go_ret;refine⟨.slice (some ⟨hb,0,none⟩) l.length l.length,rfl,?_,aL.out.mono HB.out⟩;rw[JV x i _ HI.out];exact HF.out.below aL.out
  ·have dC:R=(l.take L++(k,v)::l.drop L,0):=by rw[pS,if_neg eZ]
   subst dC;have ko:¬((64:Int)≤(l.length:Int)):=by omega
   clear sk pS eZ;go_enter Tryz.func77,Tryz.ntmps77;go_wp2_with (first
    |(go_at_call 99;(refine lH.out.mono ?_);rintro e w2 ⟨rfl,aA⟩;have aL:=qid aA;have gl:=aA.alloc aA.size (.cells #[.int .i64 k,.int .i64 v] 57);have dh:=qid gl;obtain⟨c2,f2⟩:=rM.out w2 aA;obtain⟨c3,f3⟩:=rM.out _ gl;have q8:=qid (Sh B hb l L k v w2.heap.size (w2.alloc (.cells #[.int .i64 k,.int .i64 v] 57)) (aS kU.out gl) ((Blk.new w2 _ _).cell 0) ((Blk.new w2 _ _).cell 1) q7.out HL.out (Nat.le_trans HB.out gl.size));clear aA gl)
    |(go_at_call 100;(refine q8.out.mono ?_);rintro e w3 ⟨h',c',rfl,jC,ez,Bw⟩;obtain⟨dt,gM,pQ⟩:=hZ3 jC ez Bw;have rN:(some g:Option Nat)≠some hb:=(fun e=>Ec.out (by injection e));have c4:=ez.cell (a:=⟨g,i*2+1,none⟩) c3 rN;have f4:w3.frozen? ⟨g,i*2+1,none⟩=false:=(World.frozen?_of_block (ez.block g (Nat.lt_of_lt_of_le ks.out dh.out.size) rN)).trans f3;clear jC ez Bw rN))
   go_ret;have vz:Below w.heap.size w _:=dh.out;have hle:min L l.length+(l.length-L+1)=(l.take L++(k,v)::l.drop L).length:=by simp
   rw[hle];refine⟨.slice (some ⟨h',0,none⟩) (l.take L++(k,v)::l.drop L).length c',rfl,?_,?_⟩
   ·refine FS.modk HF.out i _ HI.out _ _ dt.out (fun q hq b7=>(gM.out.block q (Nat.lt_of_lt_of_le hq vz.size) b7).trans (vz.block q hq)) (fun j p hj hp=>?_)
    rcases pQ.out with rfl|hnew
    ·exact vx.out j p hj hp
    ·cases nW:p.2.1.ownBlock with
     |none=>exact .inl rfl
     |some q=>
      right
      intro e;have h1:=((HF.out.rows p (List.mem_of_getElem? hp)).lt q nW).2;have h2:q=h':=by simpa[Value.ownBlock]using e
      have h3:=vz.size;omega
   ·exact((vz.mono HB.out).grown gM.out (Nat.le_trans HB.out vz.size) (fun q hq=>by injection hq with hq;rw[←hq];exact lF.out.1)).setCell (p:=⟨g,i*2+1,none⟩) Eb.out _
theorem qaj(B g cap:Nat)(x:List Tv)(i:Nat)(t:Tv)(k:Int)(w:World)(h:FS B w (.slice (some ⟨g,0,none⟩) x.length cap) x)(hi:x[i]? =some t)(ht:tight t)(hu:upR t.2.2)(hl:t.2.2.length≤1000000)(hB:B≤w.heap.size)(hv:∀r∈t.2.2,inI r.2):
  Calls Tryz.prog 78 #[.pointer (some ⟨g,i*2,none⟩),.int .i64 k] w (qah B (.slice (some ⟨g,0,none⟩) x.length cap) x i t.1 (MH t.2.2 k) w):=by
 obtain⟨c0,c1⟩:=FS.at_ h i t hi;have lR:=h.rows t (List.mem_of_getElem? hi);obtain⟨HF,HI⟩:=hZ2 h hi;have cx:=(h.own.lt g rfl).2;obtain⟨hb,qR⟩:=ht;obtain⟨n,u,l⟩:=t;simp only at qR lR hu hl c0 c1 hv⊢;subst qR;have cr:=lR.lt hb rfl;have kU:=qid lR;have lH:=qid (Ob _ l k w lR.rr hu hl);obtain⟨lF,HL,HB,HV⟩:=hZ4 cr hl hB hv;have vy:∀W:World,Below w.heap.size w W→W.cell? ⟨g,i*2+1,none⟩=some (.slice (some ⟨hb,0,none⟩) l.length l.length):=fun W hW=>(hW.cell (p:=⟨g,i*2+1,none⟩) cx).trans c1
 have rM:=qid vy;obtain⟨R,hR⟩:∃R,MH l k=R:=⟨_,rfl⟩;rw[hR];obtain⟨F,hF⟩:∃F,Im l k=F:=⟨_,rfl⟩;obtain⟨L,hL⟩:∃L,Hr l k=L:=⟨_,rfl⟩;have Ee:(F=false∧R=(l,0))∨∃r,F=true∧l[L]? =some r∧r.1=k∧R=if 999999≤r.2 then(l,2)else(l.set L (k,r.2+1),0):=by
  rw[←hR,←hF,←hL]
  cases hh:Im l k with
  |false=>
   refine .inl ⟨rfl,?_⟩;unfold MH
   split
   ·rename_i r hr
    have:r.1≠k:=fun e=>by
     unfold Im at hh;rw[hr]at hh;simp[e]at hh
    rw[if_neg this]
   ·rfl
  |true=>
   obtain⟨r,hr,hk⟩:=MI hh;refine .inr ⟨r,rfl,hr,hk,?_⟩;unfold MH;rw[hr];simp only;rw[if_pos hk]
 rw[hF,hL]at lH;clear h hi cx lR hu hl cr hB vy hR hF hL c0 hv;rcases Ee with⟨rfl,rfl⟩|⟨r,rfl,hr,kz,hR⟩
 ·go_enter Tryz.func78,Tryz.ntmps78
  go_wp2_with (go_at_call 99;(refine lH.out.mono ?_);rintro e w2 ⟨rfl,aA⟩;have aL:=qid aA;clear aA);go_ret;refine⟨.slice (some ⟨hb,0,none⟩) l.length l.length,rfl,?_,aL.out.mono HB.out⟩;rw[JV x i _ HI.out];exact HF.out.below aL.out
 ·have aD:L<l.length:=(List.getElem?_eq_some_iff.1 hr).1
  obtain⟨HR,zQ⟩:=hZ2 hr kz;have xQ:=HV.out r (List.mem_of_getElem? hr);obtain⟨r0,r1⟩:=r;simp only at hR xQ;have l0:(0:Int)≤(L:Int):=by omega
  have l1:(L:Int)<(l.length:Int):=by omega
  clear hr kz aD
  by_cases h9:999999≤r1
  ·rw[if_pos h9]at hR
   subst hR;clear xQ;go_enter Tryz.func78,Tryz.ntmps78;go_wp2_with (go_at_call 99;(refine lH.out.mono ?_);rintro e w2 ⟨rfl,aA⟩;have aL:=qid aA;have dB:Hid (OR B w2 (.slice (some ⟨hb,0,none⟩) l.length l.length) l):=qid (aS kU.out aA);obtain⟨y0,y1,f0,f1⟩:=OR.cells dB.out L _ HR.out;have c2:=rM.out w2 aA;clear aA);go_ret;refine⟨.slice (some ⟨hb,0,none⟩) l.length l.length,rfl,?_,aL.out.mono HB.out⟩;rw[JV x i _ HI.out];exact HF.out.below aL.out
  ·rw[if_neg h9]at hR
   subst hR;have wk:IntKind.i64.wrap (r1+1)=r1+1:=IntWalk.i64_in _ (by unfold inI at xQ;omega)
   clear xQ;go_enter Tryz.func78,Tryz.ntmps78;go_wp2_with (go_at_call 99;(refine lH.out.mono ?_);rintro e w2 ⟨rfl,aA⟩;have aL:=qid aA;have dB:Hid (OR B w2 (.slice (some ⟨hb,0,none⟩) l.length l.length) l):=qid (aS kU.out aA);obtain⟨y0,y1,f0,f1⟩:=OR.cells dB.out L _ HR.out;have c2:=rM.out w2 aA;clear aA);go_ret;obtain⟨o1,o2⟩:=OR.setV dB.out L _ (r1+1) HR.out;rw[zQ.out]at o1;refine⟨.slice (some ⟨hb,0,none⟩) l.length l.length,rfl,?_,(aL.out.mono HB.out).setCell (p:=⟨hb,L*2+1,none⟩) lF.out.1 _⟩;refine FS.modr HF.out i (n,.slice (some ⟨hb,0,none⟩) l.length l.length,l) HI.out (l.set L (k,r1+1)) o1 ?_;intro q hq b7;exact(o2.block q (Nat.lt_of_lt_of_le hq aL.out.size) b7).trans (aL.out.block q hq)
def M7(t:Tb):Bool:=decide (t.1.size≤60)&&decide (t.2.length≤70)
def IL(s:List Tb):Bool:=decide (s.length≤20)&&s.all M7
theorem Si(v:Value)(s:List Tb)(w:World)(h:SR w v s):
  Calls Tryz.prog 4 #[v] w fun e w'=>e=.returned (.bool (IL s))∧∃n,w'=w.drewN n:=by
 obtain⟨R,hR⟩:∃R,IL s=R:=⟨_,rfl⟩;rw[hR];obtain⟨a,cap,rfl⟩:=h.form;have HH:=qid h
 by_cases rO:s.length≤20
 ·have hg:(s.drop 0).all M7=R:=by rw[←hR,List.drop_zero];unfold IL;rw[decide_eq_true rO,Bool.true_and]
  have pO:¬((20:Int)<(s.length:Int)):=by omega
  obtain⟨HG,oQ⟩:=hZ2 hg rO;clear h hR hg;go_enter Tryz.func4,Tryz.ntmps4;go_wp2
  go_loopg [3] s.length (fun gk u3 wx=>∃i:Nat,u3=.int .i64 (i:Int)∧i+gk=s.length∧(∃n,wx=w.drewN n)∧(s.drop i).all M7=R)
  case atStart=>exact⟨0,rfl,by omega,⟨0,rfl⟩,HG.out⟩
  case round=>
   obtain⟨i,rfl,hi,⟨n0,rfl⟩,hr⟩:=hrel;have HI:=qid hi
   cases gk with
   |zero=>
    have l1:¬((i:Int)<(s.length:Int)):=by omega
    have hR:R=true:=by rw[←hr,List.drop_of_length_le (by omega)];rfl
    subst hR;clear hi hr;go_wp2;go_ret;exact⟨rfl,_,rfl⟩
   |succ gk=>
    have aD:i<s.length:=by omega
    obtain⟨b,o,cp,he,cL,hx⟩:=HH.out.inv (by omega)
    injection he with ea _ ec;subst ea ec;obtain⟨t,de⟩:∃t,s[i]=t:=⟨_,rfl⟩;obtain⟨x0,u,x1,hu⟩:=hx i t (by rw[List.getElem?_eq_getElem aD,de])
    obtain⟨ua,uc,rfl⟩:=hu.form;have l0:(0:Int)≤(i:Int):=by omega
    have l1:(i:Int)<(s.length:Int):=by omega
    obtain⟨i1,aN⟩:∃i1,i+1=i1:=⟨_,rfl⟩;have wk:IntKind.i64.wrap ((i:Int)+1)=(i1:Int):=by rw[show(i:Int)+1=(i1:Int) by omega];exact IntWalk.i64_in _ (by have:=oQ.out;omega)
    have aQ:=qid aN;rw[List.drop_eq_getElem_cons aD,de,List.all_cons,aN]at hr;obtain⟨n,rs⟩:=t;unfold M7 at hr;simp only at hr x0 hu
    by_cases hn:n.size≤60
    ·have ln:¬((60:Int)<(n.size:Int)):=by omega
     rw[decide_eq_true hn,Bool.true_and]at hr
     by_cases hl:rs.length≤70
     ·have ll:¬((70:Int)<(rs.length:Int)):=by omega
      rw[decide_eq_true hl,Bool.true_and]at hr;have cM:=qid hr;clear hi hr hx de aN aD hu hn hl;go_wp2;go_roundg gk
      case measure=>exact Nat.lt_succ_self _
      case rel=>exact⟨i1,rfl,by have:=aQ.out;have:=HI.out;omega,⟨_,rfl⟩,cM.out⟩
     ·have ll:(70:Int)<(rs.length:Int):=by omega
      rw[decide_eq_false hl,Bool.false_and]at hr;have cM:=qid hr.symm;have dC:R=false:=hr.symm;subst dC;clear hi hr hx de aN aD hu hn hl;go_wp2;go_ret;exact⟨rfl,_,rfl⟩
    ·have ln:(60:Int)<(n.size:Int):=by omega
     rw[decide_eq_false hn,Bool.false_and,Bool.false_and]at hr;have dC:R=false:=hr.symm;subst dC;clear hi hr hx de aN aD hu hn;go_wp2;go_ret;exact⟨rfl,_,rfl⟩
 ·have pO:(20:Int)<(s.length:Int):=by omega
  have dC:R=false:=by rw[←hR];unfold IL;rw[decide_eq_false rO,Bool.false_and]
  subst dC;clear h hR rO;go_enter Tryz.func4,Tryz.ntmps4;go_wp2;go_ret;exact⟨rfl,0,rfl⟩
theorem L2{P:Program}{w:World}(t ty e:TypeId)(i:TypeInfo)(ht:P.underlying t=some (.slice e))(hi:P.info? e=some i)(p:Option Addr)(c:Nat):
  (Builtin.append_ #[t,t] ty #[.slice none 0 0,.slice p 0 c]).run P w=.ok (.slice none 0 0) w:=by
 have hf:(Builtin.firstCells i.size 0 (.slice p 0 c)).run P w=.ok #[] w:=by
  cases p with
  |none=>exact run_firstCells_none w i.size 0 0 c
  |some ad=>exact run_firstCells_some w i.size 0 ad 0 c [] (by simp) (fun j v hj=>by simp at hj)
 simp[Builtin.append_,run_underlying ht,sizeOf,typeInfo,hi,Builtin.lenOf,hf]
theorem LH{P:Program}{w:World}{ops:Array Oper}{o:Oper}{a:Act}{K:Act→World→Prop}{Q:Exit→Act→World→Prop}{E:Prop}(nt:o.guard=none)(s x:Operand)(t:TypeId)(ho:o.op=.call {callee:=.builtin .append,args:=#[s,x],argTypes:=#[t,t]})(e:TypeId)(i:TypeInfo)(ht:P.underlying t=some (.slice e))(hi:P.info? e=some i)(p:Option Addr)(c:Nat)(hs:a.eval s=.slice none 0 0)(hx:a.eval x=.slice p 0 c)(h:K (a.put o.dst (.slice none 0 0)) w):if Region.wanted o (yielded ops a.tmps)=true then Oper.wp P o a w K Q else E:=by
 have hw:Region.wanted o (yielded ops a.tmps)=true:=by simp[Region.wanted,nt]
 rw[if_pos hw];have dK:=L2 (P:=P) (w:=w) t o.type e i ht hi p c;unfold Oper.wp;simp[execOp,ho,resolve,invoke,builtin,hs,hx,dK,Result.andThen];exact h
theorem FS.snoc{w w1:World}{B:Nat}{v v1:Value}{x:List Tv}(h:FS B w v x)(n:ByteArray)(u:Value)(l:List Rw)(hu:OR B w u l)(oP:∀t∈x,t.2.1.ownBlock=none∨t.2.1.ownBlock≠u.ownBlock)(hg:w.grownBy w1 v.ownBlock)(ho:w1.ownsRow B 55 2 v1 (x.length+1) (tcs x++[.string n,u])):FS B w1 v1 (x++[(n,u,l)]):=by
 have keep:∀(u:Value) (l:List Rw),OR B w u l→OR B w1 u l:=fun u l hu=>lE hu fun k hk=>hg.block k (hu.lt k hk).2 (fun e=>JC h.own hu (g:=k) (g':=k) e.symm hk JL rfl)
 refine⟨?_,fun t ht=>?_,fun i j a b eT ha hb=>?_⟩
 ·rw[List.length_append,ip];exact ho
 ·rcases List.mem_append.1 ht with ht|ht
  ·exact keep _ _ (h.rows t ht)
  ·rw[List.mem_singleton]at ht;subst ht;exact keep _ _ hu
 ·rw[List.getElem?_append]at ha hb
  have one:∀(k:Nat) (p q:Tv),[q][k]? =some p→k=0∧p=q:=fun k p q hk=>by
   cases k with
   |zero=>simp at hk;exact⟨rfl,hk.symm⟩
   |succ k=>simp at hk
  split at ha
  ·split at hb
   ·exact h.apart i j a b eT ha hb
   ·obtain⟨_,rfl⟩:=one _ _ _ hb
    exact oP a (List.mem_of_getElem? ha)
  ·obtain⟨e1,rfl⟩:=one _ _ _ ha
   split at hb
   ·have:=oP b (List.mem_of_getElem? hb)
    show u.ownBlock=none∨u.ownBlock≠b.2.1.ownBlock;rcases this with h1|h1
    ·cases lJ:u.ownBlock with
     |none=>exact .inl rfl
     |some k=>exact .inr (by rw[h1];exact fun e=>by cases e)
    ·exact .inr (fun e=>h1 e.symm)
   ·obtain⟨e2,rfl⟩:=one _ _ _ hb
    omega
theorem VE(n name:ByteArray)(u:Value)(x:Nat)(w:World)(h:w.cell? ⟨x,0,none⟩=some (.string name)):
  Calls Tryz.prog 81 #[.agg #[.string n,u],.pointer (some ⟨x,0,none⟩)] w fun e w'=>e=.returned (.bool (n.toList==name.toList))∧Below w.heap.size w w':=by
 have hl:x<w.heap.size:=World.block_lt_of_cell? w _ h;have c1:∀o,(w.alloc o).cell? ⟨x,0,none⟩=some (.string name):=fun o=>(World.cell?_of_block (a:=⟨x,0,none⟩) (Below.heap_alloc w o x hl)).trans h
 have HB:=qid (fun o=>(Below.refl w.heap.size w).alloc (Nat.le_refl _) o)
 go_enter Tryz.func81,Tryz.ntmps81;go_wp2;go_ret;exact⟨rfl,HB.out _⟩
theorem Ya(v:Value)(s:List Tb)(name:ByteArray)(x:Nat)(w:World)(h:SR w v s)(hc:w.cell? ⟨x,0,none⟩=some (.string name))(hs:s.length≤1000000):
  Calls Tryz.prog 80 #[v,.func (.func 81) #[] #[.pointer (some ⟨x,0,none⟩)]] w fun e w'=>e=.returned (.int .i64 (bv s name 0))∧Below w.heap.size w w':=by
 obtain⟨R,hR⟩:∃R,bv s name 0=R:=⟨_,rfl⟩;rw[hR];obtain⟨a,cap,rfl⟩:=h.form;obtain⟨HH,HR,HC,HS⟩:=hZ4 h hR hc hs;have eE:x<w.heap.size:=World.block_lt_of_cell? w _ hc;have fC:∀args w,(callFunc 81 args).run Tryz.prog w=.ok (.enter 81 args) w:=fun args w=>by show Sem.run Tryz.prog (callFunc 81 args) w=_;go_simp
 clear h hR hc hs;go_enter Tryz.func80,Tryz.ntmps80;go_wp2
 go_loopg [8] s.length (fun gk u8 wx=>∃i:Nat,u8=.int .i64 (i:Int)∧i+gk=s.length∧Below w.heap.size w wx∧bv (s.drop i) name i=R)
 case atStart=>exact⟨0,rfl,by omega,Below.refl _ _,HR.out⟩
 case round=>
  obtain⟨i,rfl,hi,hB,hr⟩:=hrel;obtain⟨HB,HI⟩:=hZ2 hB hi
  cases gk with
  |zero=>
   have l1:¬((i:Int)<(s.length:Int)):=by omega
   have hR:R= -1:=by rw[←hr,List.drop_of_length_le (by omega)];rfl
   subst hR;clear hB hi hr;go_wp2;go_ret;exact⟨rfl,HB.out⟩
  |succ gk=>
   have aD:i<s.length:=by omega
   have dP:=HH.out.below hB;obtain⟨b,o,cp,he,cL,hx⟩:=dP.inv (by omega)
   injection he with ea _ ec;subst ea ec;obtain⟨t,de⟩:∃t,s[i]=t:=⟨_,rfl⟩;obtain⟨x0,u,x1,hu⟩:=hx i t (by rw[List.getElem?_eq_getElem aD,de])
   have l0:(0:Int)≤(i:Int):=by omega
   have l1:(i:Int)<(s.length:Int):=by omega
   obtain⟨i1,aN⟩:∃i1,i+1=i1:=⟨_,rfl⟩;have wk:IntKind.i64.wrap ((i:Int)+1)=(i1:Int):=by rw[show(i:Int)+1=(i1:Int) by omega];exact IntWalk.i64_in _ (by have:=HS.out;omega)
   have aQ:=qid aN;rw[List.drop_eq_getElem_cons aD,de,bv,aN]at hr;obtain⟨n,rs⟩:=t;have HF:=qid (VE n name u x wr ((hB.cell (p:=⟨x,0,none⟩) eE).trans HC.out));obtain⟨Q,hQ⟩:∃Q,(n.toList==name.toList)=Q:=⟨_,rfl⟩;rw[hQ]at HF;simp only[hQ]at hr;have cM:=qid hr;clear hB hi hr dP hx de aN hQ aD hu
   cases Q with
   |true=>
    have hR:R=(i:Int):=by have:=cM.out;simpa using this.symm
    subst hR;go_wp2_with (go_at_call 81;(refine HF.out.mono ?_);rintro e w2 ⟨rfl,aA⟩;have aL:=qid aA;clear aA);go_ret;exact⟨rfl,HB.out.trans (aL.out.mono HB.out.size)⟩
   |false=>
    go_wp2_with (go_at_call 81;(refine HF.out.mono ?_);rintro e w2 ⟨rfl,aA⟩;have aL:=qid aA;clear aA);go_roundg gk
    case measure=>exact Nat.lt_succ_self _
    case rel=>exact⟨i1,rfl,by have:=aQ.out;have:=HI.out;omega,HB.out.trans (aL.out.mono HB.out.size),by have:=cM.out;simpa using this⟩
theorem Ij(v:Value)(s:List Tb)(name:ByteArray)(w:World)(h:SR w v s)(hs:s.length≤1000000):
  Calls Tryz.prog 55 #[v,.string name] w fun e w'=>e=.returned (.int .i64 (bv s name 0))∧Below w.heap.size w w':=by
 have hb:=(Below.refl w.heap.size w).alloc (Nat.le_refl _) (.cells #[.string name] 9);have HB:=qid hb;have HI:=qid (Ya v s name w.heap.size _ (h.below hb) (by rw[World.cell?_alloc_new];rfl) hs)
 clear h hs hb;go_enter Tryz.func55,Tryz.ntmps55;go_wp2_with (go_at_call 80;(refine HI.out.mono ?_);rintro e w2 ⟨rfl,aA⟩;have aL:=qid (HB.out.trans (aA.mono HB.out.size));clear aA);go_ret;exact⟨rfl,aL.out⟩
theorem VF(v:Value)(s:List Tb)(name:ByteArray)(w:World)(h:SR w v s)(hs:s.length≤1000000):
  Calls Tryz.prog 59 #[v,.string name] w fun e w'=>e=.returned (.int .i64 (bv s name 0))∧Below w.heap.size w w':=by
 obtain⟨R,hR⟩:∃R,bv s name 0=R:=⟨_,rfl⟩;rw[hR];obtain⟨a,cap,rfl⟩:=h.form;obtain⟨HH,HR,HS⟩:=hZ3 h hR hs;clear h hR hs;go_enter Tryz.func59,Tryz.ntmps59;go_wp2
 go_loopg [5] s.length (fun gk u5 wx=>∃i:Nat,u5=.int .i64 (i:Int)∧i+gk=s.length∧wx=w∧bv (s.drop i) name i=R)
 case atStart=>exact⟨0,rfl,by omega,rfl,HR.out⟩
 case round=>
  obtain⟨i,rfl,hi,rfl,hr⟩:=hrel;have HI:=qid hi
  cases gk with
  |zero=>
   have l1:¬((i:Int)<(s.length:Int)):=by omega
   have hR:R= -1:=by rw[←hr,List.drop_of_length_le (by omega)];rfl
   subst hR;clear hi hr;go_wp2;go_ret;exact⟨rfl,Below.refl _ _⟩
  |succ gk=>
   have aD:i<s.length:=by omega
   obtain⟨b,o,cp,he,cL,hx⟩:=HH.out.inv (by omega)
   injection he with ea _ ec;subst ea ec;obtain⟨t,de⟩:∃t,s[i]=t:=⟨_,rfl⟩;obtain⟨x0,u,x1,hu⟩:=hx i t (by rw[List.getElem?_eq_getElem aD,de])
   have l0:(0:Int)≤(i:Int):=by omega
   have l1:(i:Int)<(s.length:Int):=by omega
   obtain⟨i1,aN⟩:∃i1,i+1=i1:=⟨_,rfl⟩;have wk:IntKind.i64.wrap ((i:Int)+1)=(i1:Int):=by rw[show(i:Int)+1=(i1:Int) by omega];exact IntWalk.i64_in _ (by have:=HS.out;omega)
   have aQ:=qid aN;rw[List.drop_eq_getElem_cons aD,de,bv,aN]at hr;obtain⟨n,rs⟩:=t;obtain⟨Q,hQ⟩:∃Q,(n.toList==name.toList)=Q:=⟨_,rfl⟩;simp only[hQ]at hr;have cM:=qid hr;clear hi hr hx de aN aD hu
   cases Q with
   |true=>
    have hR:R=(i:Int):=by have:=cM.out;simpa using this.symm
    subst hR;go_wp2;go_ret;exact⟨rfl,Below.refl _ _⟩
   |false=>
    go_wp2;go_roundg gk
    case measure=>exact Nat.lt_succ_self _
    case rel=>exact⟨i1,rfl,by have:=aQ.out;have:=HI.out;omega,rfl,by have:=cM.out;simpa using this⟩
theorem RR.drewN{w:World}{v:Value}{l:List Rw}(h:RR w v l)(n:Nat):RR (w.drewN n) v l:=h.keep fun p _=>by cases p;simp[go_sem]
theorem qak(a b c d:Int)(w:World):(binOp .neq 57 (.agg #[.int .i64 a,.int .i64 b]) (.agg #[.int .i64 c,.int .i64 d])).run Tryz.prog w=.ok (.bool (!(a==c&&b==d))) w:=by
 go_simp
 by_cases h0:a=c
 ·by_cases h1:b=d
  ·simp[h0,h1]
  ·simp[h0,h1]
 ·simp[h0]
theorem Qy{α:Type}[DecidableEq α]{l m:List α}{k:Nat}(h1:k<l.length)(h2:k<m.length):decide (l.drop k=m.drop k)=(decide (l[k]=m[k])&&decide (l.drop (k+1)=m.drop (k+1))):=by
 rw[List.drop_eq_getElem_cons h1,List.drop_eq_getElem_cons h2,Bool.eq_iff_iff,decide_eq_true_iff,Bool.and_eq_true,decide_eq_true_iff,decide_eq_true_iff,List.cons.injEq]
theorem Oc(v1 v2:Value)(l m:List Rw)(w:World)(h1:RR w v1 l)(h2:RR w v2 m)(hl:l.length≤1000000):
  Calls Tryz.prog 13 #[v1,v2] w fun e w'=>e=.returned (.bool (decide (l=m)))∧∃n,w'=w.drewN n:=by
 obtain⟨R,hR⟩:∃R,decide (l=m)=R:=⟨_,rfl⟩;rw[hR];obtain⟨a1,fo,rfl⟩:=h1.form;obtain⟨a2,kh,rfl⟩:=h2.form;obtain⟨H1,H2,HS⟩:=hZ3 h1 h2 hl
 by_cases hlen:l.length=m.length
 ·have ne:((l.length:Int) != (m.length:Int))=false:=by rw[bne_eq_false_iff_eq];omega
  obtain⟨HR,HL⟩:=hZ2 hR hlen;clear h1 h2 hl hR hlen;go_enter Tryz.func13,Tryz.ntmps13;go_wp2
  go_loopg [5] l.length (fun gk u5 wx=>∃i:Nat,u5=.int .i64 (i:Int)∧i+gk=l.length∧(∃n,wx=w.drewN n)∧decide (l.drop i=m.drop i)=R)
  case atStart=>exact⟨0,rfl,by omega,⟨0,rfl⟩,HR.out⟩
  case round=>
   obtain⟨i,rfl,hi,⟨n0,rfl⟩,hr⟩:=hrel;have HI:=qid hi
   cases gk with
   |zero=>
    have l1:¬((i:Int)<(l.length:Int)):=by omega
    have hR:R=true:=by
     rw[←hr,List.drop_of_length_le (by omega:l.length≤i),List.drop_of_length_le (by have:=HL.out;omega:m.length≤i)];rfl
    subst hR;clear hi hr;go_wp2;go_ret;exact⟨rfl,_,rfl⟩
   |succ gk=>
    have aD:i<l.length:=by omega
    have dW:i<m.length:=by have:=HL.out;omega
    obtain⟨b1,o1,AZ,nk,tf,ct⟩:=H1.out.inv (by omega)
    obtain⟨b2,o2,Aa,np,pw,dX⟩:=H2.out.inv (by omega)
    injection nk with th _ ti;injection np with tj _ tl;subst th ti tj tl;obtain⟨p,hp⟩:∃p,l[i]=p:=⟨_,rfl⟩;obtain⟨q,hq⟩:∃q,m[i]=q:=⟨_,rfl⟩;obtain⟨x0,x1⟩:=ct i p (by rw[List.getElem?_eq_getElem aD,hp])
    obtain⟨y0,y1⟩:=dX i q (by rw[List.getElem?_eq_getElem dW,hq])
    rw[Qy aD dW,hp,hq]at hr;obtain⟨p0,p1⟩:=p;obtain⟨q0,q1⟩:=q;have l0:(0:Int)≤(i:Int):=by omega
    have l1:(i:Int)<(l.length:Int):=by omega
    have l2:(i:Int)<(m.length:Int):=by omega
    obtain⟨i1,aN⟩:∃i1,i+1=i1:=⟨_,rfl⟩;have wk:IntKind.i64.wrap ((i:Int)+1)=(i1:Int):=by rw[show(i:Int)+1=(i1:Int) by omega];exact IntWalk.i64_in _ (by have:=HS.out;omega)
    have aQ:=qid aN;rw[aN]at hr;have qe:=qak p0 p1 q0 q1
    by_cases pT:p0=q0∧p1=q1
    ·obtain⟨rfl,rfl⟩:=pT
     have hz:(!(p0==p0&&p1==p1))=false:=by simp
     rw[hz]at qe;have ch:decide (l.drop i1=m.drop i1)=R:=by simpa using hr
     have cM:=qid ch;clear hi hr ct dX hp hq aN aD dW hz ch;go_wp2
     go_quiet (fail)
     go_wp2;go_roundg gk
     case measure=>exact Nat.lt_succ_self _
     case rel=>exact⟨i1,rfl,by have:=aQ.out;have:=HI.out;omega,⟨_,rfl⟩,cM.out⟩
    ·have hz:(!(p0==q0&&p1==q1))=true:=by
      rw[Bool.not_eq_true']
      cases h:(p0==q0&&p1==q1)with
      |false=>rfl
      |true=>rw[Bool.and_eq_true,beq_iff_eq,beq_iff_eq]at h;exact absurd h pT
     rw[hz]at qe;have dC:R=false:=by
      rw[←hr,decide_eq_false (fun h=>pT (by injection h with h1 h2;exact⟨h1,h2⟩)),Bool.false_and]
     subst dC;clear hi hr ct dX hp hq aN aD dW hz pT;go_wp2
     go_quiet (fail)
     go_wp2;go_ret;exact⟨rfl,_,World.drewN_drewN _ _ _⟩
 ·have ne:((l.length:Int) != (m.length:Int))=true:=by rw[bne_iff_ne];omega
  have dC:R=false:=by rw[←hR];exact decide_eq_false (fun h=>hlen (by rw[h]))
  subst dC;clear h1 h2 hl hR hlen;go_enter Tryz.func13,Tryz.ntmps13;go_wp2;go_ret;exact⟨rfl,0,rfl⟩
end Go.Proofs.YtpgddamhdfmdjaaGreatDoor
