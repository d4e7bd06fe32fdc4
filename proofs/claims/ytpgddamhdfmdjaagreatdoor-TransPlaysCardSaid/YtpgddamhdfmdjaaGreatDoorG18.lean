/- Tao Tce Tap -/
import Derived.Test.YtpgddamhdfmdjaaGreatDoorG17
import Derived.Test.YtpgddamhdfmdjaaGreatDoorItr
import Derived.Sort.KeysCollected
import Derived.Test.YtpgddamhdfmdjaaGreatDoorG5
import Derived.Test.YtpgddamhdfmdjaaGreatDoorG1
set_option linter.unusedSimpArgs false
set_option linter.unusedVariables false
set_option maxRecDepth 100000
set_option maxHeartbeats 16000000
namespace Go.Proofs.YtpgddamhdfmdjaaGreatDoor
open Go.ChangeShapes Go.WideShapes Go.ChangeAt Go.RowKit Go.ChangeMaps
theorem Ru{T:List Tb}(hT:upW T){ss:List (List UInt8)}(hp:ss.Perm (T.map fun t=>t.1.data.toList)):(ss.mergeSort fun x y=>decide (x≤y))=T.map fun t=>t.1.data.toList:=by
 have tr:∀a b c:List UInt8,(decide (a≤b))=true→(decide (b≤c))=true→(decide (a≤c))=true:=fun a b c h1 h2=>by simp only[decide_eq_true_eq]at *;exact List.le_trans h1 h2
 have DQ:∀a b:List UInt8,(decide (a≤b)||decide (b≤a))=true:=fun a b=>by simp only[Bool.or_eq_true,decide_eq_true_eq];exact List.le_total a b
 refine List.Perm.eq_of_pairwise (le:=fun a b=>decide (a≤b)=true) (fun a b _ _ h1 h2=>?_) (List.pairwise_mergeSort tr DQ ss) ?_ ((List.mergeSort_perm ss _).trans hp)
 ·simp only[decide_eq_true_eq]at h1 h2
  exact List.le_antisymm h1 h2
 ·refine List.pairwise_map.2 (List.Pairwise.imp ?_ hT)
  intro a b h;exact decide_eq_true (List.le_of_lt h)
theorem PT{T:List Tb}(hT:upW T):(T.map fun t=>t.1.data.toList).Nodup:=by
 refine List.pairwise_map.2 (List.Pairwise.imp ?_ hT);intro a b h e;rw[e]at h;exact List.lt_irrefl _ h
theorem In.perm{w:World}{b n:Nat}{T:List Tb}{U:ByteArray→Option (Value×List Rw)}{D0:DataW Value}(aE:w.ownsMap Tryz.prog 9 MV.vE b n D0)(ha:MV.Agr D0 (MV.fS fun x=>(U x).map fun p=>tbV x p.1))(hU:∀x,(U x).map (·.2)=lkT T x)(hT:upW T):(T.map fun t=>t.1.data.toList).Perm (strKeys D0):=by
 obtain⟨es,hD,DR,_⟩:=aE.entries TM;obtain⟨DS,Aq,DT⟩:=aE.keysOf;obtain rfl:es=DS:=by rw[hD]at Aq;simpa using Aq
 subst hD;refine perm_strKeys DR (fun p hp=>by obtain⟨v,hv⟩:=DT p hp;obtain⟨x,_,hx,_⟩:=Maps.keyOf_str Tryz.underlying9 hv;exact⟨x,hx⟩) (PT hT) fun x=>?_
 rw[(ha (.string x) (show WideAt.IsKeyLit (Lit.string _)from trivial)).1];show _↔((U ⟨x.toArray⟩).map fun p=>tbV ⟨x.toArray⟩ p.1).isSome=true
 have hu:=hU ⟨x.toArray⟩;rw[List.mem_map];constructor
 ·rintro⟨t,ht,rfl⟩
  have e:(⟨t.1.data.toList.toArray⟩:ByteArray)=t.1:=MV.ba_of (by simp)
  rw[e]at hu⊢;have hl:lkT T t.1=some t.2:=(OV hT).2 ht;rw[hl]at hu
  cases xC:U t.1 with
  |none=>rw[xC]at hu;cases hu
  |some p=>rfl
 ·intro h
  cases xC:U ⟨x.toArray⟩with
  |none=>rw[xC]at h;cases h
  |some p=>
   rw[xC]at hu;exact⟨_,KE hu.symm,by simp⟩
def Zw(R:List ByteArray)(w:World)(e:Ending)(w':World):Prop:=∃v,e=.returned v∧SL.OT w.heap.size w' v R∧Below w.heap.size w w'
theorem PU(B:Nat)(w:World)(g n:Nat)(C:Cdb)(D:Dbp)(h:CD B w g n C D)(hn:n≤100000)(id:Int)(hi:I9 id)(hT:upW (JW (D.2 id)))(R:List ByteArray)(hR:(JW (D.2 id)).map (·.1)=R):
  Calls Tryz.prog 19 #[SL.ptr g,.int .i64 id] w (Zw R w):=by
 obtain⟨c0,c1,c2⟩:=h.cells;have HG:=qid (d9 w g c0);have HO:=qid (PO B w g n C D h id hi);rcases h.at_ id with⟨hg,hd⟩|⟨⟨tb,ob⟩,q,hg,hd,_,p7⟩
 ·rw[hg]at HO
  have HO:Hid (Calls Tryz.prog 44 #[SL.ptr g,.int .i64 id] w fun e w'=>e=.returned (.map none)∧w=w'):=HO
  rw[hd]at hR;have hR: []=R:=hR;subst hR;have HK:=qid (Tryz.mapKeys_any none w);have HS:=qid (Tryz.sortedKeys_nil w);have HB:=qid ((Below.refl w.heap.size w).alloc (Nat.le_refl _) (.cells #[.map none] 66));clear h c0 c1 c2 hg hd hT hi;go_enter Tryz.func19,Tryz.ntmps19;go_wp2_with fail;refine HG.out.mono ?_;rintro e w' ⟨rfl,rfl⟩;go_wp2_with fail;refine HO.out.mono ?_;rintro e w' ⟨rfl,rfl⟩;go_wp2_with fail;refine HK.out.mono ?_;rintro e w1 ⟨rfl,aJ⟩;subst aJ;go_wp2_with fail;refine HS.out.mono ?_;rintro e w2 ⟨rfl,aA⟩;have aL:=qid (HB.out.trans (aA.mono HB.out.size));clear aA;go_wp2;go_ret;exact⟨_,rfl,SL.OT.nil _ _,aL.out⟩
 ·rw[hg]at HO
  have HO:Hid (Calls Tryz.prog 44 #[SL.ptr g,.int .i64 id] w fun e w'=>e=.returned (.map (some ob))∧w=w'):=HO
  have ho:JW (D.2 id)=q.2:=by rw[hd];rfl
  rw[ho]at hT hR;obtain⟨U,⟨D0,aE,ha⟩,_,hU⟩:=p7;have bH:=aE.size_le;have HP:=qid (In.perm aE ha hU hT);have HK:=qid (Tryz.mapKeys_any (some ob) w);have HS:=qid (Tryz.sortedKeys_any ob n D0 MV.vE w aE (by unfold maxLen;omega) (by omega))
  have HB:=qid ((Below.refl w.heap.size w).alloc (Nat.le_refl _) (.cells #[.map (some ob)] 66));obtain⟨HT,HR⟩:=hZ2 hT hR;clear h c0 c1 c2 hg hd hT hi ho aE ha hU bH hR;go_enter Tryz.func19,Tryz.ntmps19;go_wp2_with fail;refine HG.out.mono ?_;rintro e w' ⟨rfl,rfl⟩;go_wp2_with fail;refine HO.out.mono ?_;rintro e w' ⟨rfl,rfl⟩;go_wp2_with fail;refine HK.out.mono ?_;rintro e w1 ⟨rfl,aJ⟩;subst aJ;go_wp2_with fail;refine HS.out.mono ?_;rintro e w2 ⟨v,ss,rfl,hp,fg,_,aA⟩;have aL:=qid (HB.out.trans (aA.mono HB.out.size));have s6:=Ru HT.out (hp.trans HP.out.symm);have hlen:ss.length=R.length:=by
   have:=(hp.trans HP.out.symm).length_eq;rw[this,←HR.out,List.length_map,List.length_map]
  rw[s6]at fg;have hm:(List.map (fun t:Tb=>t.1.data.toList) q.2).map encStr=R.map SL.bV:=by
   rw[←HR.out,List.map_map,List.map_map];refine List.map_congr_left fun t _=>?_
   show Value.string ⟨t.1.data.toList.toArray⟩=Value.string t.1;rw[MV.ba_of (a:=⟨t.1.data.toList.toArray⟩) (b:=t.1) (by simp)]
  rw[hm,hlen]at fg;have gq:Hid (SL.OT w.heap.size w2 v R):=qid (i7 fg HB.out.size);clear hp fg aA s6 hm hlen;have mE:∃a c,v=.slice a R.length c:=by
   rcases gq.out.2 with⟨rfl,hz⟩|⟨g9,cap,cur,rfl,_⟩
   ·exact⟨none,0,by rw[hz]⟩
   ·exact⟨_,_,rfl⟩
  obtain⟨av,cv,rfl⟩:=mE;go_wp2;go_ret;exact⟨_,rfl,gq.out,aL.out⟩
end Go.Proofs.YtpgddamhdfmdjaaGreatDoor
namespace Go.Proofs.YtpgddamhdfmdjaaGreatDoor
open Go.ChangeShapes Go.WideShapes Go.ChangeAt Go.RowKit
theorem WX{a b:ByteArray}(h:a≠b):(a.toList==b.toList)=false:=by
 rw[beq_eq_false_iff_ne];intro hc;rw[Lib.toList_data,Lib.toList_data]at hc;exact h (by
  cases a with|mk x=>
  cases b with|mk y=>
  exact congrArg ByteArray.mk (Array.toList_inj.1 hc))
theorem SQ.of_own2{B m:Nat}{w:World}{v:Value}{Y:List Tv}{xs:List Value}(h:w.ownsRow B 55 2 v m xs)(hm:Y.length=m)(hx:tcs Y=xs)(hr:∀t∈Y,RQ w t.2.1 t.2.2):SQ w v (tbs Y):=by
 subst hm hx;exact SQ.of_own h hr
def PV(S:List Tb)(w:World)(e:Ending)(w':World):Prop:=∃v,e=.returned v∧SQ w' v S∧Below w.heap.size w w'
theorem WY{s:List Tb}{n:ByteArray}{i:Nat}(hi:i≤s.length)(h1:∀t x,t<i→s[t]? =some x→ltN n x=true)(h2:∀x,s[i]? =some x→ltN n x=false):oR s n=i:=Jd _ s i hi h1 h2
theorem Tj{X:List Tv}{s:List Tb}{n:ByteArray}{u:Value}{l:List Rw}{i:Nat}(hX:tbs X=s)(hi:i≤s.length)(h1:∀t x,t<i→s[t]? =some x→ltN n x=true)(h2:∀x,s[i]? =some x→ltN n x=false∧x.1≠n):tbs (X.take i++(n,u,l)::X.drop i)=AC s (n,l):=by
 have e:=WY hi h1 fun x hx=>(h2 x hx).1
 unfold AC;have hh:IR s n=false:=by
  unfold IR;rw[e]
  split
  ·rename_i t ht
   exact decide_eq_false fun hc=>(h2 t ht).2 (by cases hx:t.1;cases hn:n;rw[hx,hn]at hc;simp at hc;rw[hc])
  ·rfl
 show _=if IR s n=true then _ else _
 rw[if_neg (by rw[hh];simp)]
 show _=s.take (oR s n)++(n,l)::s.drop (oR s n);rw[e,←hX];unfold tbs;rw[List.map_append,List.map_cons,List.map_take,List.map_drop]
theorem Tk{X:List Tv}{s:List Tb}{n:ByteArray}{u:Value}{l:List Rw}{i:Nat}(hX:tbs X=s)(hi:i<s.length)(h1:∀t x,t<i→s[t]? =some x→ltN n x=true){x:Tb}(hx:s[i]? =some x)(h2:ltN n x=false)(h3:x.1=n):tbs (X.take i++(n,u,l)::X.drop (i+1))=AC s (n,l):=by
 have e:=WY (Nat.le_of_lt hi) h1 fun y hy=>by rw[hx]at hy;injection hy with hy;subst hy;exact h2
 unfold AC;have hh:IR s n=true:=by
  unfold IR;rw[e,hx];exact decide_eq_true (by rw[h3])
 show _=if IR s n=true then s.set (oR s n) (n,l)else _
 rw[if_pos hh,e,List.set_eq_take_append_cons_drop,if_pos hi,←hX];unfold tbs;rw[List.map_append,List.map_cons,List.map_take,List.map_drop]
theorem Ly(v:Value)(s:List Tb)(nm:ByteArray)(u:Value)(l:List Rw)(w:World)(h:SQ w v s)(hf:IK s)(hn:nm.size≤1000000)(hq:RQ w u l):
  Calls Tryz.prog 60 #[v,tbV nm u] w (PV (AC s (nm,l)) w):=by
 obtain⟨i31,bW,cP,cN,cR⟩:=OX;have ak:=I8;obtain⟨a,cap,rfl⟩:=h.form;obtain⟨ua,uc,rfl⟩:=hq.form;obtain⟨W0,aH⟩:∃W,w.alloc (.cells #[.string nm,.slice ua l.length uc] 55)=W:=⟨_,rfl⟩;obtain⟨tb,iX⟩:∃b,w.heap.size=b:=⟨_,rfl⟩;have b0:Below w.heap.size w W0:=by rw[←aH];exact(Below.refl _ _).alloc (Nat.le_refl _) _
 have k0:SL.Bk W0 tb 55 #[.string nm,.slice ua l.length uc]:=by rw[←aH,←iX];exact SL.Bk.new _ _ _
 have h0:=h.bel b0;have jH:=hq.bel b0;have yP:∃X:List Tv,tbs X=s∧(0<s.length→∃b off,a=some ⟨b,off,none⟩∧s.length≤cap∧∀(i:Nat) (t:Tv),X[i]? =some t→W0.cell? ⟨b,off+i*2,none⟩=some (.string t.1)∧W0.cell? ⟨b,off+i*2+1,none⟩=some t.2.1∧RQ W0 t.2.1 t.2.2)∧∀t∈X,RQ W0 t.2.1 t.2.2:=by
  by_cases hp:0<s.length
  ·obtain⟨g,o,c,he,hc,X,h1,h2⟩:=h0.tv hp
   injection he with e1 _ e3;subst e1 e3;refine⟨X,h1,fun _=>⟨g,o,rfl,hc,h2⟩,fun t ht=>?_⟩
   obtain⟨i,hi⟩:=List.getElem?_of_mem ht;exact(h2 i t hi).2.2
  ·have:s=[]:=List.eq_nil_of_length_eq_zero (by omega)
   subst this;exact⟨[],rfl,fun h=>absurd h (by simp),fun t ht=>by simp at ht⟩
 obtain⟨X,hX,gQ,lL⟩:=yP;obtain⟨HX,HC,dV,HF⟩:=hZ4 hX gQ lL hf;have HL:Hid (s.length≤1000000):=qid hf.1;have fh:=qid (show X.length=s.length by rw[←mt,hX])
 obtain⟨HN,bG,xD,gu⟩:=hZ4 hn b0 jH k0;clear h hf hn hX gQ lL b0 k0 h0 hq jH;go_enter Tryz.func60,Tryz.ntmps60;go_wp2_with fail
 try rw[aH]
 try rw[iX]
 try clear aH iX
 go_loopg [5,6] s.length (fun gk u5 u6 wx=>∃i:Nat,u6=.int .i64 (i:Int)∧i+gk=s.length∧Hid (wx.ownsRow W0.heap.size 55 2 u5 i (tcs (X.take i)))∧Hid (Below W0.heap.size W0 wx)∧Hid (∀t x,t<i→s[t]? =some x→ltN nm x=true))
 case atStart=>exact⟨0,rfl,by omega,qid (World.ownsRow_nil _ _ _ _),qid (Below.refl _ _),qid (fun t x h=>by omega)⟩
 case round=>
  obtain⟨i,rfl,hi,HO,HB,py⟩:=hrel;obtain⟨gJ,gK,rfl⟩:=Ac HO.out;have kr:SL.Bk wr tb 55 #[.string nm,.slice ua l.length uc]:=f9 gu.out HB.out;have t0:wr.cell? ⟨tb,0,none⟩=some (.string nm):=kr.cell 0;have t1:wr.cell? ⟨tb,1,none⟩=some (.slice ua l.length uc):=kr.cell 1;have Ar:=qid kr;clear kr
  by_cases bw:i<s.length
  ·have l1:(i:Int)<(s.length:Int):=by omega
   have l0:(0:Int)≤(i:Int):=by omega
   obtain⟨i1,aN⟩:∃i1,i+1=i1:=⟨_,rfl⟩;have wk:IntKind.i64.wrap ((i:Int)+1)=(i1:Int):=by rw[show(i:Int)+1=(i1:Int) by omega];exact IntWalk.i64_in _ (by have:=HL.out;omega)
   have eD:Hid (i1+(gk-1)=s.length∧gk-1<gk):=qid (by omega)
   obtain⟨aQ,cj⟩:=hZ2 aN bw;obtain⟨b,off,rfl,cL,hx⟩:=HC.out (by omega)
   have eE:i<X.length:=by rw[fh.out];exact bw
   obtain⟨q,jH⟩:∃q,X[i]=q:=⟨_,rfl⟩;have nQ:X[i]? =some q:=by rw[List.getElem?_eq_getElem eE,jH]
   obtain⟨x0,x1,jc⟩:=hx i q nQ;have uR:=qid (And.intro x0 x1);have x0:=(HB.out.cell (p:=⟨b,off+i*2,none⟩) (World.block_lt_of_cell? W0 _ x0)).trans x0;have x1:=(HB.out.cell (p:=⟨b,off+i*2+1,none⟩) (World.block_lt_of_cell? W0 _ x1)).trans x1;have dr:s[i]? =some (q.1,q.2.2):=by rw[←HX.out];exact Xg X i q nQ
   have sP:q.1.size≤1000000:=(HF.out.2 _ (List.mem_of_getElem? dr)).1;obtain⟨uS,dv,jq,DU⟩:=hZ4 hx cL dr nQ;have j':=qid (fun W=>PK q.1 nm _ rfl sP HN.out W)
   have fj:=qid jc.one;obtain⟨hk,oe⟩:∃b,decide (q.1.data.toList<nm.data.toList)=b:=⟨_,rfl⟩;rw[oe]at j';have Au:=qid oe;obtain⟨q0,qv,qr⟩:=q;simp only at x0 x1;clear hx eE jH nQ dr sP aN oe jc cL bw hi;go_wp2_with fail;refine wp_region_held_drew (S:=(fun w'=>w'.cell? ⟨b,off+i*2,none⟩=some (.string q0)∧w'.cell? ⟨tb,0,none⟩=some (.string nm)∧Below wr.heap.size wr w')) (by kernel_rfl) ?_ (fun hS=>?_)
   ·exact⟨x0,t0,(Below.refl _ _).drew⟩
   refine tkY 0 ?_ rfl hS ?_ ?_;rotate_left
   ·intro wz hz
    go_simp
    all_goals first|with_reducible rfl|omega
   try simp only[Act.put,pu]
   refine tkY 1 ?_ rfl hS ?_ ?_;rotate_left
   ·intro wz hz
    go_simp
    all_goals first|with_reducible rfl|omega
   try simp only[Act.put,pu]
   refine tkY 2 ?_ rfl hS ?_ ?_;rotate_left
   ·intro wz hz
    go_simp
    all_goals first|with_reducible rfl|omega
   try simp only[Act.put,pu]
   refine tkY 3 ?_ rfl hS ?_ ?_;rotate_left
   ·intro wz hz
    go_simp
    all_goals first|with_reducible rfl|omega
   try simp only[Act.put,pu]
   refine tkY 4 ?_ rfl hS ?_ ?_;rotate_left
   ·intro wz hz
    go_simp
    all_goals first|with_reducible rfl|omega
   try simp only[Act.put,pu]
   refine tkY 5 ?_ rfl hS ?_ ?_;rotate_left
   ·intro wz hz
    go_simp
    all_goals first|with_reducible rfl|omega
   try simp only[Act.put,pu]
   refine tkY 6 ?_ rfl hS ?_ ?_;rotate_left
   ·intro wz hz
    go_simp
    all_goals first|with_reducible rfl|omega
   try simp only[Act.put,pu]
   refine tkY 7 ?_ rfl hS ?_ ?_;rotate_left
   ·intro wz hz
    go_simp
    all_goals first|with_reducible rfl|omega
   try simp only[Act.put,pu]
   refine tkY 8 ?_ rfl hS ?_ ?_;rotate_left
   ·intro wz hz
    go_simp
    all_goals first|with_reducible rfl|omega
   try simp only[Act.put,pu]
   refine tkY 9 ?_ rfl hS ?_ ?_;rotate_left
   ·intro wz hz
    obtain⟨z0,z1,_⟩:=hz;go_simp
    all_goals first|with_reducible rfl|omega
   try simp only[Act.put,pu]
   refine tkY 10 ?_ rfl hS ?_ ?_;rotate_left
   ·intro wz hz
    go_simp
    all_goals first|with_reducible rfl|omega
   try simp only[Act.put,pu]
   refine tkY 11 ?_ rfl hS ?_ ?_;rotate_left
   ·intro wz hz
    obtain⟨z0,z1,_⟩:=hz;go_simp
    all_goals first|with_reducible rfl|omega
   try simp only[Act.put,pu]
   refine wpAnyH_ready (rs:=[12]) (by kernel_rfl) (by simp) (AllReadyH.cons rfl (fun K' ae=>?_) AllReadyH.nil)
   go_simp;obtain⟨wd,fP⟩:∃W,wr.drew=W:=⟨_,rfl⟩
   try rw[fP]
   try rw[fP]at hS
   refine(j'.out _).mono ?_;rintro e w3 ⟨rfl,aG⟩;have cq:Below wr.heap.size wr w3:=hS.2.2.trans (aG.mono hS.2.2.size);have mH:=qid cq;have y0:w3.cell? ⟨b,off+i*2,none⟩=some (.string q0):=(cq.cell (p:=⟨b,off+i*2,none⟩) (World.block_lt_of_cell? wr _ x0)).trans x0;have y2:w3.cell? ⟨tb,0,none⟩=some (.string nm):=(cq.cell (p:=⟨tb,0,none⟩) (World.block_lt_of_cell? wr _ t0)).trans t0;clear aG cq;refine ae.out _ _ ?_ (fun aF=>?_)
   ·exact⟨y0,y2,mH.out⟩
   clear ae K' hS;have hS:=aF;clear aF
   try simp only[Act.put,pu]
   refine tkY 13 ?_ rfl hS ?_ ?_;rotate_left
   ·intro wz hz
    go_simp
    all_goals first|with_reducible rfl|omega
   try simp only[Act.put,pu]
   refine wpAnyH_done (by kernel_rfl) ?_ _
   clear hS;have x1:w3.cell? ⟨b,off+i*2+1,none⟩=some qv:=(mH.out.cell (p:=⟨b,off+i*2+1,none⟩) (World.block_lt_of_cell? wr _ x1)).trans x1;have t1:w3.cell? ⟨tb,1,none⟩=some (.slice ua l.length uc):=(mH.out.cell (p:=⟨tb,1,none⟩) (World.block_lt_of_cell? wr _ t1)).trans t1;have x0:=y0;have t0:=y2;clear y0 y2;have dt:=qid (aS HO.out mH.out);have aO:=qid (HB.out.trans (mH.out.mono HB.out.size))
   cases hk with
   |true=>
    have j2:=qid (show tcs (X.take i1)=tcs (X.take i)++[.string q0,qv] by rw[←aQ.out,List.take_add_one,DU.out,Option.toList_some,ip];rfl)
    have lq:=qid (show∀t x,t<i1→s[t]? =some x→ltN nm x=true from fun t x ht hx=>by
     by_cases h:t<i
     ·exact py.out t x h hx
     ·have:t=i:=by have:=aQ.out;omega
      subst this;rw[jq.out]at hx;injection hx with hx;subst hx;exact Au.out)
    go_wp2_with (at_builtin;refine wpList_append_lies _ rfl _ _ 22 rfl W0.heap.size 55 i31 (.agg #[.string ByteArray.empty,.slice none 0 0]) 2 40 ak bW cP cN cR rfl (by decide) (.slice gJ i gK) i (tcs (X.take i)) rfl (dt.out.alloc _) ⟨w3.heap.size,0,none⟩ 1 1 [.string q0,qv] rfl rfl ?a1 ?a2 (by decide) ?a3 ?a4 ?a5 _ rfl ?_)
    all_goals first
     |exact I1 (heap_alloc_new _ _)
     |exact Jc rfl fj.out
     |exact⟨rfl,fj.out⟩
     |(have:=cj.out;have:=HL.out;unfold maxLen;omega)
     |(have:=cj.out;have:=HL.out;omega)
     |(have:=aO.out.size;simp;omega)
     |skip
    intro g9 bN w9 aB aM af cE;have aP:=(aO.out.alloc aO.out.size (.cells #[.string q0,qv] 55)).grown aM (by have:=aO.out.size;simp;omega) (fun k hk=>(dt.out.lt k hk).1)
    obtain⟨cX,cI⟩:=hZ2 aB aP;clear aB aM af aP x0 x1 t0 t1;go_wp2;go_roundg (gk-1)
    case measure=>exact eD.out.2
    case rel=>exact⟨i1,rfl,eD.out.1,qid (by rw[j2.out,←aQ.out];exact cX.out),cI,lq⟩
   |false=>
    have yQ:Hid (ltN nm (q0,qr)=false):=qid Au.out;have dM:Hid (i≤s.length):=qid (Nat.le_of_lt cj.out);go_wp2_with (at_builtin;refine wpList_append_lies _ rfl _ _ 22 rfl W0.heap.size 55 i31 (.agg #[.string ByteArray.empty,.slice none 0 0]) 2 40 ak bW cP cN cR rfl (by decide) (.slice gJ i gK) i (tcs (X.take i)) rfl (dt.out.alloc _) ⟨w3.heap.size,0,none⟩ 1 1 [.string nm,.slice ua l.length uc] rfl rfl ?e11 ?e12 (by decide) ?e13 ?e14 ?e15 _ rfl ?_)
    all_goals first
     |exact I1 (heap_alloc_new _ _)
     |exact Jc rfl rfl
     |exact⟨rfl,rfl⟩
     |(have:=dM.out;have:=HL.out;unfold maxLen;omega)
     |(have:=dM.out;have:=HL.out;omega)
     |(have:=aO.out.size;simp;omega)
     |skip
    intro g9 bN w9 aB aM af cE;have aP:=(aO.out.alloc aO.out.size (.cells #[.string nm,.slice ua l.length uc] 55)).grown aM (by have:=aO.out.size;simp;omega) (fun k hk=>(dt.out.lt k hk).1)
    have cX:=qid aB;have cI:Hid (Below W0.heap.size W0 w9):=qid aP;clear aB aM af aP t0 t1;clear x0 x1;have x0:w9.cell? ⟨b,off+i*2,none⟩=some (.string q0):=(cI.out.cell (p:=⟨b,off+i*2,none⟩) (World.block_lt_of_cell? W0 _ uR.out.1)).trans uR.out.1;have t0:w9.cell? ⟨tb,0,none⟩=some (.string nm):=(f9 gu.out cI.out).cell 0
    by_cases he:q0=nm
    ·subst he
     by_cases gy:i1<s.length
     ·have nR:=qid gy
      clear gy;go_wp2_with fail;refine wp_region_held_drew (S:=(fun w'=>w'.cell? ⟨b,off+i*2,none⟩=some (.string q0)∧w'.cell? ⟨tb,0,none⟩=some (.string q0)∧Below w9.heap.size w9 w')) (by kernel_rfl) ?_ (fun hS=>?_)
      ·exact⟨x0,t0,(Below.refl _ _).drew⟩
      refine tkY 0 ?_ rfl hS ?_ ?_;rotate_left
      ·intro wz hz
       go_simp
       all_goals first|with_reducible rfl|omega
      try simp only[Act.put,pu]
      refine tkY 1 ?_ rfl hS ?_ ?_;rotate_left
      ·intro wz hz
       go_simp
       all_goals first|with_reducible rfl|omega
      try simp only[Act.put,pu]
      refine tkY 2 ?_ rfl hS ?_ ?_;rotate_left
      ·intro wz hz
       go_simp
       all_goals first|with_reducible rfl|omega
      try simp only[Act.put,pu]
      refine tkY 3 ?_ rfl hS ?_ ?_;rotate_left
      ·intro wz hz
       go_simp
       all_goals first|with_reducible rfl|omega
      try simp only[Act.put,pu]
      refine tkY 4 ?_ rfl hS ?_ ?_;rotate_left
      ·intro wz hz
       go_simp
       all_goals first|with_reducible rfl|omega
      try simp only[Act.put,pu]
      refine tkY 5 ?_ rfl hS ?_ ?_;rotate_left
      ·intro wz hz
       go_simp
       all_goals first|with_reducible rfl|omega
      try simp only[Act.put,pu]
      refine tkY 6 ?_ rfl hS ?_ ?_;rotate_left
      ·intro wz hz
       go_simp
       all_goals first|with_reducible rfl|omega
      try simp only[Act.put,pu]
      refine tkY 7 ?_ rfl hS ?_ ?_;rotate_left
      ·intro wz hz
       go_simp
       all_goals first|with_reducible rfl|omega
      try simp only[Act.put,pu]
      refine tkY 8 ?_ rfl hS ?_ ?_;rotate_left
      ·intro wz hz
       go_simp
       all_goals first|with_reducible rfl|omega
      try simp only[Act.put,pu]
      refine tkY 9 ?_ rfl hS ?_ ?_;rotate_left
      ·intro wz hz
       obtain⟨z0,z1,_⟩:=hz;go_simp
       all_goals first|with_reducible rfl|omega
      try simp only[Act.put,pu]
      refine tkY 10 ?_ rfl hS ?_ ?_;rotate_left
      ·intro wz hz
       go_simp
       all_goals first|with_reducible rfl|omega
      try simp only[Act.put,pu]
      refine tkY 11 ?_ rfl hS ?_ ?_;rotate_left
      ·intro wz hz
       obtain⟨z0,z1,_⟩:=hz;go_simp
       all_goals first|with_reducible rfl|omega
      try simp only[Act.put,pu]
      refine tkY 12 ?_ rfl hS ?_ ?_;rotate_left
      ·intro wz hz
       go_simp
       all_goals first|with_reducible rfl|omega
      try simp only[Act.put,pu]
      refine tkY 13 ?_ rfl hS ?_ ?_;rotate_left
      ·intro wz hz
       go_simp
       all_goals first|with_reducible rfl|omega
      try simp only[Act.put,pu]
      have k':=qid hS;refine wpAnyH_done (by kernel_rfl) ?_ _
      clear hS;have fy:=qid (cI.out.trans (k'.out.2.2.mono cI.out.size));have mI:=qid (aS cX.out k'.out.2.2);clear x0 t0;have nw:(i1:Int)≤(s.length:Int):=by have:=nR.out;omega
      have nJ:¬(cap=i1):=by have:=nR.out;have:=dv.out;omega
      have wy:¬(cap-i1=0):=by have:=nR.out;have:=dv.out;omega
      have xw:(0:Int)≤(i1:Int):=by omega
      have fu:=qid (Tk (u:=.slice ua l.length uc) (l:=l) HX.out cj.out py.out jq.out yQ.out rfl);rw[aQ.out]at fu;have HD:Hid (i1<s.length):=nR;have fv:=qid (show(X.take i++(q0,.slice ua l.length uc,l)::X.drop i1:List Tv).length=i+1+(s.length-i1) by have:=fh.out;have:=dM.out;have:=HD.out;simp;omega)
      have gp:=qid (show tcs (X.take i++(q0,.slice ua l.length uc,l)::X.drop i1)=tcs (X.take i)++([.string q0,.slice ua l.length uc]++tcs (X.drop i1)) by rw[ip];rfl)
      have kR:=qid (show∀W,Below W0.heap.size W0 W→∀t∈(X.take i++(q0,.slice ua l.length uc,l)::X.drop i1:List Tv),RQ W t.2.1 t.2.2 from fun W hW t ht=>by
       rcases List.mem_append.1 ht with h|h
       ·exact(dV.out t (List.mem_of_mem_take h)).bel hW
       ·rcases List.mem_cons.1 h with rfl|h
        ·exact xD.out.bel hW
        ·exact(dV.out t (List.mem_of_mem_drop h)).bel hW)
      have ny:=qid (fun(W:World) (hW:Below W0.heap.size W0 W)=>Lu (w:=W) (X:=X) (b:=b) (off:=off) i1 (fun j t hj=>by
       obtain⟨c0,c1,_⟩:=uS.out j t hj;exact⟨(hW.cell (p:=⟨b,off+j*2,none⟩) (World.block_lt_of_cell? W0 _ c0)).trans c0,(hW.cell (p:=⟨b,off+j*2+1,none⟩) (World.block_lt_of_cell? W0 _ c1)).trans c1⟩))
      have my:=qid (My (X:=X.drop i1) (fun t ht=>(dV.out t (List.mem_of_mem_drop ht)).one))
      go_wp2_with (at_builtin;refine wpList_append_lies _ rfl _ _ 22 rfl W0.heap.size 55 i31 (.agg #[.string ByteArray.empty,.slice none 0 0]) 2 40 ak bW cP cN cR rfl (by decide) _ _ _ rfl mI.out ⟨b,off+i1*2,none⟩ (s.length-i1) (cap-i1) (tcs (X.drop i1)) rfl ?u25 (ny.out _ fy.out) my.out ?u26 ?u27 ?u28 ?u29 _ rfl ?_)
      all_goals first
       |(rw[It,List.length_drop,fh.out];done)
       |(have:=HD.out;have:=dM.out;omega)
       |(have:=HD.out;have:=HL.out;have:=dM.out;unfold maxLen;omega)
       |(have:=HD.out;have:=HL.out;have:=dM.out;omega)
       |exact fy.out.size
       |(have:=fy.out.size;simp;omega)
       |skip
      intro g8 nz w8 ay ef eS o5;have dJ:=fy.out.grown ef (by first|exact fy.out.size|(have:=fy.out.size;simp;omega)) (fun k hk=>(mI.out.lt k hk).1)
      have lr:=qid ay;have lK:Hid (Below W0.heap.size W0 w8):=qid dJ;clear ay ef eS dJ;go_wp2;go_ret;rw[←fu.out];exact⟨_,rfl,SQ.of_own2 lr.out fv.out (by first|exact gp.out|(rw[gp.out];simp)) (kR.out _ lK.out),bG.out.trans (lK.out.mono bG.out.size)⟩
     ·have wg:i1=s.length:=by have:=aQ.out;have:=cj.out;omega
      have Fp:=qid wg;subst wg;clear gy;go_wp2_with fail;refine wp_region_held_drew (S:=(fun w'=>w'.cell? ⟨b,off+i*2,none⟩=some (.string q0)∧w'.cell? ⟨tb,0,none⟩=some (.string q0)∧Below w9.heap.size w9 w')) (by kernel_rfl) ?_ (fun hS=>?_)
      ·exact⟨x0,t0,(Below.refl _ _).drew⟩
      refine tkY 0 ?_ rfl hS ?_ ?_;rotate_left
      ·intro wz hz
       go_simp
       all_goals first|with_reducible rfl|omega
      try simp only[Act.put,pu]
      refine tkY 1 ?_ rfl hS ?_ ?_;rotate_left
      ·intro wz hz
       go_simp
       all_goals first|with_reducible rfl|omega
      try simp only[Act.put,pu]
      refine tkY 2 ?_ rfl hS ?_ ?_;rotate_left
      ·intro wz hz
       go_simp
       all_goals first|with_reducible rfl|omega
      try simp only[Act.put,pu]
      refine tkY 3 ?_ rfl hS ?_ ?_;rotate_left
      ·intro wz hz
       go_simp
       all_goals first|with_reducible rfl|omega
      try simp only[Act.put,pu]
      refine tkY 4 ?_ rfl hS ?_ ?_;rotate_left
      ·intro wz hz
       go_simp
       all_goals first|with_reducible rfl|omega
      try simp only[Act.put,pu]
      refine tkY 5 ?_ rfl hS ?_ ?_;rotate_left
      ·intro wz hz
       go_simp
       all_goals first|with_reducible rfl|omega
      try simp only[Act.put,pu]
      refine tkY 6 ?_ rfl hS ?_ ?_;rotate_left
      ·intro wz hz
       go_simp
       all_goals first|with_reducible rfl|omega
      try simp only[Act.put,pu]
      refine tkY 7 ?_ rfl hS ?_ ?_;rotate_left
      ·intro wz hz
       go_simp
       all_goals first|with_reducible rfl|omega
      try simp only[Act.put,pu]
      refine tkY 8 ?_ rfl hS ?_ ?_;rotate_left
      ·intro wz hz
       go_simp
       all_goals first|with_reducible rfl|omega
      try simp only[Act.put,pu]
      refine tkY 9 ?_ rfl hS ?_ ?_;rotate_left
      ·intro wz hz
       obtain⟨z0,z1,_⟩:=hz;go_simp
       all_goals first|with_reducible rfl|omega
      try simp only[Act.put,pu]
      refine tkY 10 ?_ rfl hS ?_ ?_;rotate_left
      ·intro wz hz
       go_simp
       all_goals first|with_reducible rfl|omega
      try simp only[Act.put,pu]
      refine tkY 11 ?_ rfl hS ?_ ?_;rotate_left
      ·intro wz hz
       obtain⟨z0,z1,_⟩:=hz;go_simp
       all_goals first|with_reducible rfl|omega
      try simp only[Act.put,pu]
      refine tkY 12 ?_ rfl hS ?_ ?_;rotate_left
      ·intro wz hz
       go_simp
       all_goals first|with_reducible rfl|omega
      try simp only[Act.put,pu]
      refine tkY 13 ?_ rfl hS ?_ ?_;rotate_left
      ·intro wz hz
       go_simp
       all_goals first|with_reducible rfl|omega
      try simp only[Act.put,pu]
      have k':=qid hS;refine wpAnyH_done (by kernel_rfl) ?_ _
      clear hS;have fy:=qid (cI.out.trans (k'.out.2.2.mono cI.out.size));have mI:=qid (aS cX.out k'.out.2.2);clear x0 t0;have nw:(s.length:Int)≤(s.length:Int):=by omega
      have xw:(0:Int)≤(s.length:Int):=by omega
      have fu:=qid (Tk (u:=.slice ua l.length uc) (l:=l) HX.out cj.out py.out jq.out yQ.out rfl);rw[aQ.out]at fu;have HD:Hid (i+1=s.length):=aQ;have fv:=qid (show(X.take i++(q0,.slice ua l.length uc,l)::X.drop s.length:List Tv).length=i+1 by have:=fh.out;have:=dM.out;have:=HD.out;simp;omega)
      have gp:=qid (show tcs (X.take i++(q0,.slice ua l.length uc,l)::X.drop s.length)=tcs (X.take i)++([.string q0,.slice ua l.length uc]++tcs (X.drop s.length)) by rw[ip];rfl)
      have kR:=qid (show∀W,Below W0.heap.size W0 W→∀t∈(X.take i++(q0,.slice ua l.length uc,l)::X.drop s.length:List Tv),RQ W t.2.1 t.2.2 from fun W hW t ht=>by
       rcases List.mem_append.1 ht with h|h
       ·exact(dV.out t (List.mem_of_mem_take h)).bel hW
       ·rcases List.mem_cons.1 h with rfl|h
        ·exact xD.out.bel hW
        ·exact(dV.out t (List.mem_of_mem_drop h)).bel hW)
      go_wp2_with (at_builtin;refine i6 rfl _ _ 22 rfl W0.heap.size 55 i31 2 ak bW _ _ _ rfl mI.out _ _ rfl ?_)
      all_goals
       go_wp2;go_ret;rw[←fu.out];exact⟨_,rfl,SQ.of_own2 mI.out fv.out (by rw[gp.out,List.drop_of_length_le (by rw[fh.out];exact Nat.le_refl _)];first|rfl|simp[tcs,fl]) (kR.out _ fy.out),bG.out.trans (fy.out.mono bG.out.size)⟩
    ·have oB:=qid he
     have Fq:(q0.toList==nm.toList)=false:=WX he;clear he;go_wp2_with fail;refine wp_region_held_drew (S:=(fun w'=>w'.cell? ⟨b,off+i*2,none⟩=some (.string q0)∧w'.cell? ⟨tb,0,none⟩=some (.string nm)∧Below w9.heap.size w9 w')) (by kernel_rfl) ?_ (fun hS=>?_)
     ·exact⟨x0,t0,(Below.refl _ _).drew⟩
     refine tkY 0 ?_ rfl hS ?_ ?_;rotate_left
     ·intro wz hz
      go_simp
      all_goals first|with_reducible rfl|omega
     try simp only[Act.put,pu]
     refine tkY 1 ?_ rfl hS ?_ ?_;rotate_left
     ·intro wz hz
      go_simp
      all_goals first|with_reducible rfl|omega
     try simp only[Act.put,pu]
     refine tkY 2 ?_ rfl hS ?_ ?_;rotate_left
     ·intro wz hz
      go_simp
      all_goals first|with_reducible rfl|omega
     try simp only[Act.put,pu]
     refine tkY 3 ?_ rfl hS ?_ ?_;rotate_left
     ·intro wz hz
      go_simp
      all_goals first|with_reducible rfl|omega
     try simp only[Act.put,pu]
     refine tkY 4 ?_ rfl hS ?_ ?_;rotate_left
     ·intro wz hz
      go_simp
      all_goals first|with_reducible rfl|omega
     try simp only[Act.put,pu]
     refine tkY 5 ?_ rfl hS ?_ ?_;rotate_left
     ·intro wz hz
      go_simp
      all_goals first|with_reducible rfl|omega
     try simp only[Act.put,pu]
     refine tkY 6 ?_ rfl hS ?_ ?_;rotate_left
     ·intro wz hz
      go_simp
      all_goals first|with_reducible rfl|omega
     try simp only[Act.put,pu]
     refine tkY 7 ?_ rfl hS ?_ ?_;rotate_left
     ·intro wz hz
      go_simp
      all_goals first|with_reducible rfl|omega
     try simp only[Act.put,pu]
     refine tkY 8 ?_ rfl hS ?_ ?_;rotate_left
     ·intro wz hz
      go_simp
      all_goals first|with_reducible rfl|omega
     try simp only[Act.put,pu]
     refine tkY 9 ?_ rfl hS ?_ ?_;rotate_left
     ·intro wz hz
      obtain⟨z0,z1,_⟩:=hz;go_simp
      all_goals first|with_reducible rfl|omega
     try simp only[Act.put,pu]
     refine tkY 10 ?_ rfl hS ?_ ?_;rotate_left
     ·intro wz hz
      go_simp
      all_goals first|with_reducible rfl|omega
     try simp only[Act.put,pu]
     refine tkY 11 ?_ rfl hS ?_ ?_;rotate_left
     ·intro wz hz
      obtain⟨z0,z1,_⟩:=hz;go_simp
      all_goals first|with_reducible rfl|omega
     try simp only[Act.put,pu]
     refine tkY 12 ?_ rfl hS ?_ ?_;rotate_left
     ·intro wz hz
      go_simp
      all_goals first|with_reducible rfl|omega
     try simp only[Act.put,pu]
     refine tkY 13 ?_ rfl hS ?_ ?_;rotate_left
     ·intro wz hz
      go_simp
      all_goals first|with_reducible rfl|omega
     try simp only[Act.put,pu]
     have k':=qid hS;refine wpAnyH_done (by kernel_rfl) ?_ _
     clear hS;have fy:=qid (cI.out.trans (k'.out.2.2.mono cI.out.size));have mI:=qid (aS cX.out k'.out.2.2);clear x0 t0;have nw:(i:Int)≤(s.length:Int):=by have:=cj.out;omega
     have nJ:¬(cap=i):=by have:=cj.out;have:=dv.out;omega
     have wy:¬(cap-i=0):=by have:=cj.out;have:=dv.out;omega
     have fu:=qid (Tj (u:=.slice ua l.length uc) (l:=l) HX.out (Nat.le_of_lt cj.out) py.out (fun x hx=>by rw[jq.out]at hx;injection hx with hx;subst hx;exact⟨yQ.out,oB.out⟩))
     have HD:Hid (i<s.length):=cj;have fv:=qid (show(X.take i++(nm,.slice ua l.length uc,l)::X.drop i:List Tv).length=i+1+(s.length-i) by have:=fh.out;have:=dM.out;have:=HD.out;simp;omega)
     have gp:=qid (show tcs (X.take i++(nm,.slice ua l.length uc,l)::X.drop i)=tcs (X.take i)++([.string nm,.slice ua l.length uc]++tcs (X.drop i)) by rw[ip];rfl)
     have kR:=qid (show∀W,Below W0.heap.size W0 W→∀t∈(X.take i++(nm,.slice ua l.length uc,l)::X.drop i:List Tv),RQ W t.2.1 t.2.2 from fun W hW t ht=>by
      rcases List.mem_append.1 ht with h|h
      ·exact(dV.out t (List.mem_of_mem_take h)).bel hW
      ·rcases List.mem_cons.1 h with rfl|h
       ·exact xD.out.bel hW
       ·exact(dV.out t (List.mem_of_mem_drop h)).bel hW)
     have ny:=qid (fun(W:World) (hW:Below W0.heap.size W0 W)=>Lu (w:=W) (X:=X) (b:=b) (off:=off) i (fun j t hj=>by
      obtain⟨c0,c1,_⟩:=uS.out j t hj;exact⟨(hW.cell (p:=⟨b,off+j*2,none⟩) (World.block_lt_of_cell? W0 _ c0)).trans c0,(hW.cell (p:=⟨b,off+j*2+1,none⟩) (World.block_lt_of_cell? W0 _ c1)).trans c1⟩))
     have my:=qid (My (X:=X.drop i) (fun t ht=>(dV.out t (List.mem_of_mem_drop ht)).one))
     go_wp2_with (at_builtin;refine wpList_append_lies _ rfl _ _ 22 rfl W0.heap.size 55 i31 (.agg #[.string ByteArray.empty,.slice none 0 0]) 2 40 ak bW cP cN cR rfl (by decide) _ _ _ rfl mI.out ⟨b,off+i*2,none⟩ (s.length-i) (cap-i) (tcs (X.drop i)) rfl ?u35 (ny.out _ fy.out) my.out ?u36 ?u37 ?u38 ?u39 _ rfl ?_)
     all_goals first
      |(rw[It,List.length_drop,fh.out];done)
      |(have:=HD.out;have:=dM.out;omega)
      |(have:=HD.out;have:=HL.out;have:=dM.out;unfold maxLen;omega)
      |(have:=HD.out;have:=HL.out;have:=dM.out;omega)
      |exact fy.out.size
      |(have:=fy.out.size;simp;omega)
      |skip
     intro g8 nz w8 ay ef eS o5;have dJ:=fy.out.grown ef (by first|exact fy.out.size|(have:=fy.out.size;simp;omega)) (fun k hk=>(mI.out.lt k hk).1)
     have lr:=qid ay;have lK:Hid (Below W0.heap.size W0 w8):=qid dJ;clear ay ef eS dJ;go_wp2;go_ret;rw[←fu.out];exact⟨_,rfl,SQ.of_own2 lr.out fv.out (by first|exact gp.out|(rw[gp.out];simp)) (kR.out _ lK.out),bG.out.trans (lK.out.mono bG.out.size)⟩
  ·have uT:i=s.length:=by omega
   subst uT;have l1:¬((s.length:Int)<(s.length:Int)):=by omega
   clear bw hi;go_wp2_with fail;refine wp_region_held_drew (S:=(fun w'=>Below wr.heap.size wr w')) (by kernel_rfl) ?_ (fun hS=>?_)
   ·exact(Below.refl _ _).drew
   refine tkY 0 ?_ rfl hS ?_ ?_;rotate_left
   ·intro wz hz
    go_simp
    all_goals first|with_reducible rfl|omega
   try simp only[Act.put,pu]
   refine tkY 1 ?_ rfl hS ?_ ?_;rotate_left
   ·intro wz hz
    go_simp
    all_goals first|with_reducible rfl|omega
   try simp only[Act.put,pu]
   refine tkY 2 ?_ rfl hS ?_ ?_;rotate_left
   ·intro wz hz
    go_simp
    all_goals first|with_reducible rfl|omega
   try simp only[Act.put,pu]
   refine tkY 3 ?_ rfl hS ?_ ?_;rotate_left
   ·intro wz hz
    go_simp
    all_goals first|with_reducible rfl|omega
   try simp only[Act.put,pu]
   refine tkY 4 ?_ rfl hS ?_ ?_;rotate_left
   ·intro wz hz
    go_simp
    all_goals first|with_reducible rfl|omega
   try simp only[Act.put,pu]
   refine tkN 5 rfl hS ?_
   try simp only[Act.put,pu]
   refine tkN 6 rfl hS ?_
   try simp only[Act.put,pu]
   refine tkN 7 rfl hS ?_
   try simp only[Act.put,pu]
   refine tkN 8 rfl hS ?_
   try simp only[Act.put,pu]
   refine tkN 9 rfl hS ?_
   try simp only[Act.put,pu]
   refine tkN 10 rfl hS ?_
   try simp only[Act.put,pu]
   refine tkN 11 rfl hS ?_
   try simp only[Act.put,pu]
   refine tkN 12 rfl hS ?_
   try simp only[Act.put,pu]
   refine tkY 13 ?_ rfl hS ?_ ?_;rotate_left
   ·intro wz hz
    go_simp
    all_goals first|with_reducible rfl|omega
   try simp only[Act.put,pu]
   have k':=qid hS;refine wpAnyH_done (by kernel_rfl) ?_ _
   clear hS;have dt:=qid (aS HO.out k'.out);have aO:=qid (HB.out.trans (k'.out.mono HB.out.size));obtain⟨w3,iv⟩:∃W,wr.drew=W:=⟨_,rfl⟩
   try rw[iv]at dt aO
   try rw[iv]
   have kr:SL.Bk w3 tb 55 #[.string nm,.slice ua l.length uc]:=f9 gu.out aO.out;have t0:w3.cell? ⟨tb,0,none⟩=some (.string nm):=kr.cell 0;have t1:w3.cell? ⟨tb,1,none⟩=some (.slice ua l.length uc):=kr.cell 1;clear kr iv k';have dM:Hid (s.length≤s.length):=qid (Nat.le_refl _);go_wp2_with (at_builtin;refine wpList_append_lies _ rfl _ _ 22 rfl W0.heap.size 55 i31 (.agg #[.string ByteArray.empty,.slice none 0 0]) 2 40 ak bW cP cN cR rfl (by decide) (.slice gJ s.length gK) s.length (tcs (X.take s.length)) rfl (dt.out.alloc _) ⟨w3.heap.size,0,none⟩ 1 1 [.string nm,.slice ua l.length uc] rfl rfl ?e41 ?e42 (by decide) ?e43 ?e44 ?e45 _ rfl ?_)
   all_goals first
    |exact I1 (heap_alloc_new _ _)
    |exact Jc rfl rfl
    |exact⟨rfl,rfl⟩
    |(have:=dM.out;have:=HL.out;unfold maxLen;omega)
    |(have:=dM.out;have:=HL.out;omega)
    |(have:=aO.out.size;simp;omega)
    |skip
   intro g9 bN w9 aB aM af cE;have aP:=(aO.out.alloc aO.out.size (.cells #[.string nm,.slice ua l.length uc] 55)).grown aM (by have:=aO.out.size;simp;omega) (fun k hk=>(dt.out.lt k hk).1)
   have cX:=qid aB;have cI:Hid (Below W0.heap.size W0 w9):=qid aP;clear aB aM af aP t0 t1;go_wp2_with fail;refine wp_region_held_drew (S:=(fun w'=>Below w9.heap.size w9 w')) (by kernel_rfl) ?_ (fun hS=>?_)
   ·exact(Below.refl _ _).drew
   refine tkY 0 ?_ rfl hS ?_ ?_;rotate_left
   ·intro wz hz
    go_simp
    all_goals first|with_reducible rfl|omega
   try simp only[Act.put,pu]
   refine tkY 1 ?_ rfl hS ?_ ?_;rotate_left
   ·intro wz hz
    go_simp
    all_goals first|with_reducible rfl|omega
   try simp only[Act.put,pu]
   refine tkY 2 ?_ rfl hS ?_ ?_;rotate_left
   ·intro wz hz
    go_simp
    all_goals first|with_reducible rfl|omega
   try simp only[Act.put,pu]
   refine tkY 3 ?_ rfl hS ?_ ?_;rotate_left
   ·intro wz hz
    go_simp
    all_goals first|with_reducible rfl|omega
   try simp only[Act.put,pu]
   refine tkY 4 ?_ rfl hS ?_ ?_;rotate_left
   ·intro wz hz
    go_simp
    all_goals first|with_reducible rfl|omega
   try simp only[Act.put,pu]
   refine tkN 5 rfl hS ?_
   try simp only[Act.put,pu]
   refine tkN 6 rfl hS ?_
   try simp only[Act.put,pu]
   refine tkN 7 rfl hS ?_
   try simp only[Act.put,pu]
   refine tkN 8 rfl hS ?_
   try simp only[Act.put,pu]
   refine tkN 9 rfl hS ?_
   try simp only[Act.put,pu]
   refine tkN 10 rfl hS ?_
   try simp only[Act.put,pu]
   refine tkN 11 rfl hS ?_
   try simp only[Act.put,pu]
   refine tkN 12 rfl hS ?_
   try simp only[Act.put,pu]
   refine tkY 13 ?_ rfl hS ?_ ?_;rotate_left
   ·intro wz hz
    go_simp
    all_goals first|with_reducible rfl|omega
   try simp only[Act.put,pu]
   have k':=qid hS;refine wpAnyH_done (by kernel_rfl) ?_ _
   clear hS;have fy:=qid (cI.out.trans (k'.out.mono cI.out.size));have mI:=qid (aS cX.out k'.out);have nw:(s.length:Int)≤(s.length:Int):=by omega
   have xw:(0:Int)≤(s.length:Int):=by omega
   have fu:=qid (Tj (n:=nm) (u:=.slice ua l.length uc) (l:=l) HX.out (Nat.le_refl _) py.out (fun x hx=>by rw[List.getElem?_eq_none (Nat.le_refl _)]at hx;cases hx))
   have HD:Hid (s.length≤s.length):=dM;have fv:=qid (show(X.take s.length++(nm,.slice ua l.length uc,l)::X.drop s.length:List Tv).length=s.length+1 by have:=fh.out;have:=dM.out;have:=HD.out;simp;omega)
   have gp:=qid (show tcs (X.take s.length++(nm,.slice ua l.length uc,l)::X.drop s.length)=tcs (X.take s.length)++([.string nm,.slice ua l.length uc]++tcs (X.drop s.length)) by rw[ip];rfl)
   have kR:=qid (show∀W,Below W0.heap.size W0 W→∀t∈(X.take s.length++(nm,.slice ua l.length uc,l)::X.drop s.length:List Tv),RQ W t.2.1 t.2.2 from fun W hW t ht=>by
    rcases List.mem_append.1 ht with h|h
    ·exact(dV.out t (List.mem_of_mem_take h)).bel hW
    ·rcases List.mem_cons.1 h with rfl|h
     ·exact xD.out.bel hW
     ·exact(dV.out t (List.mem_of_mem_drop h)).bel hW)
   go_wp2_with (at_builtin;refine i6 rfl _ _ 22 rfl W0.heap.size 55 i31 2 ak bW _ _ _ rfl mI.out _ _ rfl ?_)
   all_goals
    go_wp2;go_ret;rw[←fu.out];exact⟨_,rfl,SQ.of_own2 mI.out fv.out (by rw[gp.out,List.drop_of_length_le (by rw[fh.out];exact Nat.le_refl _)];first|rfl|simp[tcs,fl]) (kR.out _ fy.out),bG.out.trans (fy.out.mono bG.out.size)⟩
theorem In.put{w w':World}{b n:Nat}{T:List Tb}{U:ByteArray→Option (Value×List Rw)}{nm:ByteArray}{u:Value}{l:List Rw}(hT:upW T)(hk:Kt w w')(hu:RQ w' u l)(hr:∀x p,U x=some p→RQ w p.1 p.2)(hU:∀x,(U x).map (·.2)=lkT T x)(hm:MV.MapV Tryz.prog 9 w' b n (MV.fS fun x=>if x=nm then some (tbV nm u)else(U x).map fun p=>tbV x p.1)):In w' b n (AC T (nm,l)):=by
 refine⟨fun x=>if x=nm then some (u,l)else U x,hm.congr fun kl=>?_,fun x p hp=>?_,fun x=>?_⟩
 ·congr 1
  funext x
  show _=Option.map (fun p=>tbV x p.1) (if x=nm then some (u,l)else U x)
  by_cases e:x=nm
  ·subst e;rw[if_pos rfl,if_pos rfl];rfl
  ·rw[if_neg e,if_neg e]
 ·simp only at hp
  split at hp
  ·injection hp with hp;subst hp;exact hu
  ·exact(hr x p hp).kt hk
 ·rw[RB hT]
  show Option.map (·.2) (if x=nm then some (u,l)else U x)=if nm=x then some l else lkT T x
  by_cases e:x=nm
  ·subst e;rw[if_pos rfl,if_pos rfl];rfl
  ·rw[if_neg e,if_neg (fun e2=>e e2.symm)];exact hU x
theorem UX(B:Nat)(w:World)(g n:Nat)(C:Cdb)(D:Dbp)(h:CD B w g n C D)(hn:n≤100000)(hB:B≤w.heap.size)(id:Int)(hi:I9 id)(nm:ByteArray)(u:Value)(l:List Rw)(hq:RQ w u l)(aZ:nm.size≤281474976710656)(hS:upW D.1)(hT:upW (JW (D.2 id)))(hl:D.1.length≤1000000):
  Calls Tryz.prog 54 #[SL.ptr g,.int .i64 id,tbV nm u] w fun e w'=>e=.returned (.tuple #[])∧StD B g (n+1) C (Gs D id (nm,l)) w w':=by
 obtain⟨ua,uc,rfl⟩:=hq.form;obtain⟨W0,aH⟩:∃W,w.alloc (.cells #[.string nm,.slice ua l.length uc] 55)=W:=⟨_,rfl⟩;obtain⟨tb,iX⟩:∃b,w.heap.size=b:=⟨_,rfl⟩;have b0:Below w.heap.size w W0:=by rw[←aH];exact(Below.refl _ _).alloc (Nat.le_refl _) _
 have k0:SL.Bk W0 tb 55 #[.string nm,.slice ua l.length uc]:=by rw[←aH,←iX];exact SL.Bk.new _ _ _
 have h0:=h.below b0;have jH:=hq.bel b0;have hgt:g<tb:=by have:=h.bk.lt;omega
 obtain⟨c0,c1,c2⟩:=h0.cells;have nN:=Kh h0 id hi;have t0:W0.cell? ⟨tb,0,none⟩=some (.string nm):=k0.cell 0;have t1:W0.cell? ⟨tb,1,none⟩=some (.slice ua l.length uc):=k0.cell 1;obtain⟨H,HQ,bG⟩:=hZ3 h0 jH b0;have kv:Hid (B≤W0.heap.size):=qid (Nat.le_trans hB b0.size);rcases h0.at_ id with⟨hg,hd⟩|⟨⟨tr,ob⟩,q,hg,hd,hk,p7⟩
 ·rw[hg]at nN
  have e:Gs D id (nm,l)=(AC D.1 (nm,l),D.2):=by unfold Gs;rw[hd]
  rw[e];obtain⟨av,cv,hv⟩:∃a c,C.vs=.slice a D.1.length c:=h0.sq.form;rw[hv]at c1;have bU:=h0.sq;rw[hv]at bU;obtain⟨eH,HS,HL⟩:=hZ3 bU hS hl;have j8:Hid (g<tb∧tb<W0.heap.size):=qid ⟨hgt,k0.lt⟩;have Av:∀w3,Below W0.heap.size W0 w3→w3.cell? ⟨g,1,none⟩=some (.slice av D.1.length cv)∧w3.frozen? ⟨g,1,none⟩=false:=fun w3 hb=>by
   have hk:=f9 h0.bk hb;exact⟨by rw[←hv];exact hk.cell 1,hk.frozen 1⟩
  have eI:=qid Av;clear h h0 hq jH hB hd hg b0 k0 hS hT hl hi bU hv hn hgt e c0 Av;simp only[Option.map_none,Option.getD_none,Option.isSome_none]at nN;go_enter Tryz.func54,Tryz.ntmps54;go_wp2_with fail
  try rw[aH]
  try rw[iX]
  go_wp2_with fail;refine wp_region_held_drew (S:=(fun w'=>w'.cell? ⟨tb,0,none⟩=some (.string nm)∧w'.cell? ⟨tb,1,none⟩=some (.slice ua l.length uc))) (by kernel_rfl) ?_ (fun hS=>?_)
  ·exact⟨t0,t1⟩
  refine tkY 0 ?_ rfl hS ?_ ?_;rotate_left
  ·intro wz hz
   go_simp
   all_goals first|with_reducible rfl|omega
  try simp only[Act.put,pu]
  refine tkY 1 ?_ rfl hS ?_ ?_;rotate_left
  ·intro wz hz
   go_simp
   all_goals first|with_reducible rfl|omega
  try simp only[Act.put,pu]
  refine tkY 2 ?_ rfl hS ?_ ?_;rotate_left
  ·intro wz hz
   go_simp
   all_goals first|with_reducible rfl|omega
  try simp only[Act.put,pu]
  refine tkY 3 ?_ rfl hS ?_ ?_;rotate_left
  ·intro wz hz
   go_simp
   all_goals first|with_reducible rfl|omega
  try simp only[Act.put,pu]
  refine tkY 5 ?_ rfl hS ?_ ?_;rotate_left
  ·intro wz hz
   obtain⟨z0,z1⟩:=hz;go_simp
   all_goals first|with_reducible rfl|omega
  try simp only[Act.put,pu]
  have d1:W0.drew.cell? ⟨g,1,none⟩=some (.slice av D.1.length cv):=c1;refine wpAnyH_ready (rs:=[4]) (by kernel_rfl) (by simp) (AllReadyH.cons rfl (fun K' ae=>?_) AllReadyH.nil)
  go_simp
  refine ae.out _ _ ?_ (fun aF=>?_)
  ·exact hS
  clear ae K' hS;have hS:=aF;clear aF
  try simp only[Act.put,pu]
  clear d1;refine wpAnyH_ready (rs:=[6]) (by kernel_rfl) (by simp) (AllReadyH.cons rfl (fun K' ae=>?_) AllReadyH.nil)
  go_simp;have iH:Below W0.heap.size W0 W0.drew:=(Below.refl _ _).drew;refine(PR _ D.1 nm _ l W0.drew (eH.out.bel iH) HS.out HL.out (HQ.out.bel iH)).mono ?_;rintro e w3 ⟨v3,rfl,mF,aG⟩;have ai:Below W0.heap.size W0 w3:=iH.trans (aG.mono iH.size);obtain⟨oA,cH⟩:=hZ2 mF ai;have y0:w3.cell? ⟨tb,0,none⟩=some (.string nm):=(ai.cell (p:=⟨tb,0,none⟩) j8.out.2).trans t0;have y1:w3.cell? ⟨tb,1,none⟩=some (.slice ua l.length uc):=(ai.cell (p:=⟨tb,1,none⟩) j8.out.2).trans t1;clear mF aG iH ai;refine ae.out _ _ ?_ (fun aF=>?_)
  ·exact⟨y0,y1⟩
  clear ae K' hS;have hS:=aF;clear aF
  try simp only[Act.put,pu]
  refine tkY 7 ?_ rfl hS ?_ ?_;rotate_left
  ·intro wz hz
   go_simp
   all_goals first|with_reducible rfl|omega
  try simp only[Act.put,pu]
  refine tkY 8 ?_ rfl hS ?_ ?_;rotate_left
  ·intro wz hz
   go_simp
   all_goals first|with_reducible rfl|omega
  try simp only[Act.put,pu]
  obtain⟨a3,c3,rfl⟩:=oA.out.form;obtain⟨x1,x2⟩:=eI.out w3 cH.out;refine wpAnyH_ready (rs:=[9]) (by kernel_rfl) (by simp) (AllReadyH.cons rfl (fun K' ae=>?_) AllReadyH.nil)
  go_simp
  refine ae.out _ _ ?_ (fun aF=>?_)
  ·exact⟨(World.cell?_setCell_far _ _ _ _ (by show g≠tb;have:=j8.out.1;omega)).trans y0,(World.cell?_setCell_far _ _ _ _ (by show g≠tb;have:=j8.out.1;omega)).trans y1⟩
  clear ae K' hS;have hS:=aF;clear aF
  try simp only[Act.put,pu]
  refine wpAnyH_done (by kernel_rfl) ?_ _
  clear hS
  first|go_end0|(refine bodyPost_ret (v:=.tuple #[]) (by simp[results,Tryz.results54,go_sem]) rfl ?_)
  have ah:StD B g n C (AC D.1 (nm,l),D.2) W0 (w3.setCell ⟨g,1,none⟩ (.slice a3 (AC D.1 (nm,l)).length c3)):=.pre cH.out ((H.out.below cH.out).com _ _ oA.out (Nat.le_trans kv.out cH.out.size));exact⟨rfl,(StD.pre bG.out ah).mono (Nat.le_succ _)⟩
 ·rw[hg]at nN
  have e:Gs D id (nm,l)=(D.1,pi D.2 id (some (q.1,AC q.2 (nm,l)))):=by unfold Gs;rw[hd]
  rw[e];have ho:JW (D.2 id)=q.2:=by rw[hd];rfl
  rw[ho]at hT;have x1:W0.cell? ⟨tr,1,none⟩=some (.map (some ob)):=hk.cell 1;obtain⟨U,hm,pA,hU⟩:=p7;have Aw:MV.MapV Tryz.prog 9 W0.drew ob n (MV.fS fun x=>(U x).map fun p=>tbV x p.1):=hm.keep rfl
  obtain⟨w3,dK,qG,lg⟩:=Aw.put TM Tryz.underlying66 (by unfold maxLen;omega) (qcC nm aZ) (tbV nm (.slice ua l.length uc))
  have ez:=lg.grown;have b7:tr≠ob:=us hk hm.obj;have aE:C.own g ob:=.inr (.inr ⟨id,(tr,ob),hg,.inr rfl⟩);have hc:SL.Chg (C.own g) W0 w3:=((SL.Chg.refl _ _).drew).grown ez fun k hk _=>by injection hk with hk;subst hk;exact aE
  have ox:=(h0.kc hc fun _ e=>e).kt
  have aG:∀b,b<W0.heap.size→b≠ob→w3.heap[b]? =W0.heap[b]? :=fun b hb b7=>ez.block b hb (fun e=>b7 (by injection e))
  have ah:StD B g (n+1) C (D.1,pi D.2 id (some (q.1,AC q.2 (nm,l)))) W0 w3:=by
   refine h0.alt (Nat.le_succ n) (Nat.le_trans hB b0.size) hc id (some (tr,ob)) _ (aG g h0.bk.lt (us h0.bk hm.obj)) ?_ (fun i r hi hr=>?_) (fun r hr=>?_) (fun e=>by cases e)
   ·rw[←hg,NT]
    exact(h0.mp.keep (aG C.mb h0.mp.lt (fun e=>h0.mo id (tr,ob) hg e.symm))).mono (Nat.le_succ _)
   ·obtain⟨x,_,h2,h3⟩:=h0.tr i r hr
    exact⟨aG r.1 h2.lt (us h2 hm.obj),aG r.2 h3.lt (h0.ap i id r (tr,ob) hr hg hi).2⟩
   ·injection hr with hr
    subst hr;refine⟨(q.1,AC q.2 (nm,l)),rfl,hk.heap (aG tr hk.lt b7),In.put hT ox (jH.kt ox) pA hU (qG.congr fun kl=>?_),h0.mo id (tr,ob) hg,fun i r hi hr=>?_,.inl ⟨.inr (.inr ⟨id,(tr,ob),hg,.inl rfl⟩),aE⟩⟩
    ·rw[←MV.fS_put]
    ·have:=h0.ap i id r (tr,ob) hr hg hi
     exact⟨this.1.symm,this.2.symm⟩
  have aY:=qid ah;clear h h0 hq jH hB hd hg b0 k0 hS hT hl hi hn hgt e c0 c1 hm Aw qG lg ez hc ox aG ah hk aE b7 ho pA hU;simp only[Option.map_some,Option.getD_some,Option.isSome_some]at nN;go_enter Tryz.func54,Tryz.ntmps54;go_wp2_with fail
  try rw[aH]
  try rw[iX]
  go_wp2_with fail
  go_region
  go_wp2
  first|go_end0|(refine bodyPost_ret (v:=.tuple #[]) (by simp[results,Tryz.results54,go_sem]) rfl ?_)
  exact⟨rfl,StD.pre bG.out aY.out⟩
end Go.Proofs.YtpgddamhdfmdjaaGreatDoor
