/- Taq Tcf Tcg Tar -/
import Derived.Test.YtpgddamhdfmdjaaGreatDoorG18
import Derived.Test.YtpgddamhdfmdjaaGreatDoorG19
import Derived.Test.YtpgddamhdfmdjaaGreatDoorG20
import Derived.Test.YtpgddamhdfmdjaaGreatDoorG1
set_option linter.unusedSimpArgs false
set_option linter.unusedVariables false
set_option maxRecDepth 100000
set_option maxHeartbeats 16000000
namespace Go.Proofs.YtpgddamhdfmdjaaGreatDoor
open Go.ChangeShapes Go.WideShapes Go.ChangeAt Go.RowKit Go.ChangeMaps
theorem TD(T:Tx)(h:T≠[]):(bb T).toList.isEmpty=false:=by
 cases hT:(bb T).toList.isEmpty with
 |false=>rfl
 |true=>
  rw[List.isEmpty_iff,Lib.toList_data]at hT;exact absurd (by simpa using hT) h
theorem iS.ok{s:List Tb}(h:iS s)(hl:s.length≤1000000):MC s:=
 ⟨⟨hl,fun t ht=>⟨by have:=(h.each t ht).2.1;omega,by have:=(h.each t ht).2.2.len;omega⟩⟩,Iv.2 h.up,fun t ht=>⟨(h.each t ht).2.2.up,fun r hr=>((h.each t ht).2.2.ins r hr).2⟩⟩
def txB(kd:Int)(n:ByteArray)(K V:Int)(kb:Bool):Bool:= !(Ho (kd,n,K,V,kb)).isEmpty
theorem N3{kd:Int}{n:ByteArray}{K V:Int}{kb:Bool}(h:txB kd n K V kb=true):(0<n.size∧n.size≤30)∧inI K∧inI V:=by
 have:=N2 (kd:=kd) (n:=n) (K:=K) (V:=V) (kb:=kb) (fun e=>by unfold txB at h;rw[e]at h;simp at h)
 exact⟨this.2.1,this.2.2.1,this.2.2.2.1⟩
theorem XB(kd:Int)(n:ByteArray)(K V:Int)(kb:Bool)(T:ByteArray)(hT:bb (Ho (kd,n,K,V,kb))=T)(m:Int)(w:World)(hm:Wq m w)(hn:n.size≤1000)(hK:f7 K)(hV:f7 V):
  Calls Tryz.prog 52 #[.agg #[.int .i64 kd,.string n,.int .i64 K,.int .i64 V,.bool kb]] w fun e w'=>e=.returned (.string T)∧Below w.heap.size w w':=by
 subst hT;exact Xa (kd,n,K,V,kb) m w hm hn hK hV
def DoW(s:List Tb)(R:List Tb×List Rw×Int)(w:World)(e:Ending)(w':World):Prop:=∃vs x vr,e=.returned (.tuple #[vs,vr,.int .i64 R.2.2])∧FS w.heap.size w' vs x∧tbs x=R.1∧OR w.heap.size w' vr R.2.1∧Below w.heap.size w w'
theorem doW(R:List Tb×List Rw×Int)(v:Value)(s:List Tb)(kd:Int)(n:ByteArray)(K V:Int)(kb:Bool)(hR:doS s kd n K V kb=R)(hd:MC s)(hk:1≤kd∧kd≤5)(hn:n.size≤1000000)(w:World)(h:SR w v s):
  Calls Tryz.prog 53 #[v,.agg #[.int .i64 kd,.string n,.int .i64 K,.int .i64 V,.bool kb]] w (DoW s R w):=by
 subst hR;refine(Xc v s kd n K V kb w h hd hk hn).mono ?_;rintro e w' ⟨vs,x,vr,k,rfl,h1,h2,h3,h4,rfl⟩;exact⟨vs,x,vr,rfl,h1,h4,h2,h3⟩
theorem FS.srE{B:Nat}{w:World}{v:Value}{x:List Tv}{s:List Tb}(h:FS B w v x)(e:tbs x=s):SR w v s:=by rw[←e];exact h.sr
theorem qcz(v:Value)(s:List Tb)(n:ByteArray)(F:Int)(hF:bv s n 0=F)(hs:s.length≤1000000)(w:World)(h:SR w v s):
  Calls Tryz.prog 55 #[v,.string n] w fun e w'=>e=.returned (.int .i64 F)∧Below w.heap.size w w':=by
 subst hF;exact Ij v s n w h hs
def JZ(B g n:Nat)(C:Cdb)(R:Dbp×List Rw×Int)(w:World)(e:Ending)(w':World):Prop:=∃rv,e=.returned (.tuple #[rv,.int .i64 R.2.2])∧RQ w' rv R.2.1∧StD B g n C R.1 w w'
theorem RI(B:Nat)(w:World)(g n:Nat)(C:Cdb)(D:Dbp)(h:CD B w g n C D)(hn:n≤10000)(hB:B≤w.heap.size)(id:Int)(hi:I9 id)(kd:Int)(nm:ByteArray)(K V:Int)(kb:Bool)(m:Int)(hw:Wq m w)(aZ:nm.size≤1000)(hK:f7 K)(hV:f7 V)(k:Nat)(hI:ce D k)(hk:k≤10000)(ht:txB kd nm K V kb=false):
  Calls Tryz.prog 35 #[SL.ptr g,.int .i64 id,.agg #[.int .i64 kd,.string nm,.int .i64 K,.int .i64 V,.bool kb]] w (JZ B g n C (D,[],1) w):=by
 have hT:Ho (kd,nm,K,V,kb)=[]:=by
  unfold txB at ht
  simpa using ht
 obtain⟨W0,aH⟩:∃W,w.alloc (.cells #[.int .i64 kd,.string nm,.int .i64 K,.int .i64 V,.bool kb] 34)=W:=⟨_,rfl⟩;obtain⟨cb,an⟩:∃b,w.heap.size=b:=⟨_,rfl⟩;have b0:Below w.heap.size w W0:=by rw[←aH];exact(Below.refl _ _).alloc (Nat.le_refl _) _
 have k0:SL.Bk W0 cb 34 #[.int .i64 kd,.string nm,.int .i64 K,.int .i64 V,.bool kb]:=by rw[←aH,←an];exact SL.Bk.new _ _ _
 have y0:=k0.cell 0;have y1:=k0.cell 1;have y2:=k0.cell 2;have y3:=k0.cell 3;have y4:=k0.cell 4;have y0:W0.cell? ⟨cb,0,none⟩=some (.int .i64 kd):=y0;have y1:W0.cell? ⟨cb,1,none⟩=some (.string nm):=y1;have y2:W0.cell? ⟨cb,2,none⟩=some (.int .i64 K):=y2;have y3:W0.cell? ⟨cb,3,none⟩=some (.int .i64 V):=y3;have y4:W0.cell? ⟨cb,4,none⟩=some (.bool kb):=y4;have K0:=qid k0;have H:=qid (h.below b0);have B0:=qid b0;have HX:=qid (XB kd nm K V kb ⟨#[]⟩ (by rw[hT]) m W0 (hw.below b0) aZ hK hV)
 clear h hw hI b0 k0 ht hT hK hV;go_enter Tryz.func35,Tryz.ntmps35;go_wp2_with fail
 try rw[aH]
 try rw[an]
 go_wp2_with fail;refine HX.out.mono ?_;rintro e w1 ⟨rfl,aU⟩;have B1:=qid (B0.out.trans (aU.mono B0.out.size));have H1:=qid (H.out.below aU);clear aU y0 y1 y2 y3 y4;go_wp2
 go_ret2
 exact⟨_,rfl,RQ.nil _,StD.pre B1.out (.refl H1.out (Below.refl _ _))⟩
end Go.Proofs.YtpgddamhdfmdjaaGreatDoor
namespace Go.Proofs.YtpgddamhdfmdjaaGreatDoor
open Go.ChangeShapes Go.WideShapes Go.ChangeAt Go.RowKit
theorem RJ{s l:List Tb}{j:Nat}{t:Tb}(h:l[j]? =some t):nE s (l.take (j+1))=AC (nE s (l.take j)) t:=by
 unfold nE;rw[List.take_add_one,h];show List.foldl AC s (l.take j++[t])=_;rw[List.foldl_append]
 rfl
theorem MT(v v2:Value)(s l:List Tb)(w:World)(h:SQ w v s)(h2:SQ w v2 l)(hs:iS s)(hl:∀t∈l,0<t.1.size∧t.1.size≤30∧Ii t.2)(hn:s.length+l.length≤100000)(oy:IK l):
  Calls Tryz.prog 46 #[v,v2] w (PV (nE s l) w):=by
 obtain⟨HH,ek,HS,HL,HN⟩:=hZ5 h h2 hs hl hn;have HF:=qid ((hs.ok (by omega)).few)
 have fv:=qid oy;obtain⟨a,c,rfl⟩:=h.form;obtain⟨a2,c2,rfl⟩:=h2.form;clear h h2 hs hl hn oy;go_enter Tryz.func46,Tryz.ntmps46;go_wp2_with fail;refine(Gp _ s w HH.out.sr HF.out).mono ?_;rintro e w1 ⟨v1,x1,rfl,cJ,ht,hb⟩;have fB:=qid (cJ.sqE ht);have aX:=qid hb;obtain⟨d1,k1,rfl⟩:=fB.out.form;clear cJ ht hb;go_wp2_with fail;refine(Gp _ l w1 (ek.out.bel aX.out).sr fv.out).mono ?_;rintro e w2 ⟨v2,x2,rfl,cJ,ht,hb⟩;have mM:=qid (cJ.sqE ht);have fB:=qid (fB.out.bel hb);have aL:=qid (aX.out.trans (hb.mono aX.out.size));obtain⟨d2,k2,rfl⟩:=mM.out.form;clear cJ ht hb;go_wp2
 go_loopg [5,7] l.length (fun gk u5 u7 wr=>∃j:Nat,u7=.int .i64 (j:Int)∧j+gk=l.length∧Hid (SQ wr u5 (nE s (l.take j)))∧Hid (SQ wr (.slice d2 l.length k2) l)∧Hid (Below w.heap.size w wr))
 case atStart=>exact⟨0,rfl,by omega,fB,mM,aL⟩
 case round=>
  obtain⟨j,rfl,hj,hq,gG,hb⟩:=hrel;clear fB mM aL;obtain⟨e1,e2,rfl⟩:=hq.out.form
  by_cases dk:j<l.length
  ·have l1:(j:Int)<(l.length:Int):=by omega
   have l0:(0:Int)≤(j:Int):=by omega
   obtain⟨j1,gW⟩:∃j1,j+1=j1:=⟨_,rfl⟩;have wk:IntKind.i64.wrap ((j:Int)+1)=(j1:Int):=by rw[show(j:Int)+1=(j1:Int) by omega];exact IntWalk.i64_in _ (by have:=HN.out;omega)
   have eD:Hid (j1+(gk-1)=l.length∧gk-1<gk):=qid (by omega)
   have ik:=qid gW;obtain⟨g,off,cap,he,cL,X,hX,hx⟩:=gG.out.tv (by omega)
   injection he with ea _ ec;subst ea ec;obtain⟨t,ht⟩:∃t,l[j]? =some t:=⟨l[j],List.getElem?_eq_getElem dk⟩;obtain⟨u,hu⟩:=IX X j t (by rw[hX];exact ht)
   obtain⟨x0,x1,jc⟩:=hx j _ hu;obtain⟨HT,pI⟩:=hZ2 ht jc;have mK:=qid (HL.out t (List.mem_of_getElem? ht));obtain⟨nm,rs⟩:=t;have x0:wr.cell? ⟨g,off+j*2,none⟩=some (.string nm):=x0;have x1:wr.cell? ⟨g,off+j*2+1,none⟩=some u:=x1;have pI:Hid (RQ wr u rs):=pI;have mK:Hid (0<nm.size∧nm.size≤30∧Ii rs):=mK;have Dc:=qid (show IK (nE s (l.take j))from((Kj HS.out (fun t ht=>HL.out t (List.mem_of_mem_take ht))).ok (by
    have h1:=ML (l:=l.take j) HS.out.up;rw[List.length_take]at h1;have:=HN.out;omega)).few)
   clear hx hu ht jc dk hj gW hX;go_wp2_with fail;refine(Ly _ _ nm _ rs wr hq.out Dc.out (by have:=mK.out.2.1;omega) pI.out).mono ?_
   rintro e w5 ⟨v5,rfl,BG,bh⟩;have pJ:Hid (SQ w5 v5 (nE s (l.take j1))):=qid (by rw[←ik.out,RJ HT.out];exact BG)
   have xG:=qid (gG.out.bel bh);have cZ:=qid (hb.out.trans (bh.mono hb.out.size));clear BG bh x0 x1 hq gG hb;go_wp2;go_roundg (gk-1)
   case measure=>exact eD.out.2
   case rel=>exact⟨j1,rfl,eD.out.1,pJ,xG,cZ⟩
  ·have l1:¬((j:Int)<(l.length:Int)):=by omega
   have HJ:Hid (l.take j=l):=qid (List.take_of_length_le (by omega))
   rw[HJ.out]at hq⊢;clear dk hj;go_wp2;go_ret;exact⟨_,rfl,hq.out,hb.out⟩
theorem RK{S:List Tb}{ss:List Sn}{id:Int}{i:Nat}{b:Bool}{T:List Tb}{k:Nat}(hI:ce (dbS S ss) k)(h:AtS ss id i)(hx:ss[i]? =some (id,b,T)):iS T∧T.length≤k:=hI.own id (b,T) (I7 h hx)
theorem JF(B:Nat)(w:World)(g:Nat)(S:List Tb)(x:List Sv)(h:RD B w g S x)(hx:x.length≤100000)(id:Int)(k:Nat)(hI:ce (dbS S (sns x)) k)(bA:k≤90000)(R:List Tb)(hR:d6 (dbS S (sns x)) id=R):
  Calls Tryz.prog 22 #[SL.ptr g,.int .i64 id] w (PV R w):=by
 obtain⟨cv,sv,hk,bU,ho⟩:=h.at_;obtain⟨ca,cc,rfl⟩:=bU.form;obtain⟨sa,sc,rfl⟩:=jp ho;have y0:w.cell? ⟨g,0,none⟩=some (.slice ca S.length cc):=hk.cell 0;have y1:w.cell? ⟨g,1,none⟩=some (.slice sa x.length sc):=hk.cell 1;have HF:=qid (m7 B w g S x h hx id);obtain⟨HO,HH,eH⟩:=hZ3 ho h bU;have HI:Hid (ce (dbS S (sns x)) k):=qid hI;have fO:=qid bA;have jM:Hid (S.length≤16):=qid hI.st.len;have aY:Hid (iS S):=qid hI.st.tabs;clear h ho hk bU hI bA;go_enter Tryz.func22,Tryz.ntmps22;go_wp2_with fail;refine HF.out.mono ?_;rintro e w' ⟨⟨r,rfl,hr⟩,rfl⟩;rcases hr with⟨i,al,rfl⟩|⟨hn,rfl⟩
 ·have dS:=al
  obtain⟨⟨s,az,bC⟩,_⟩:=dS;obtain⟨v,hv⟩:=JG az;have bw:i<x.length:=(List.getElem?_eq_some_iff.1 hv).1;obtain⟨sg,cap,he,cL,_,dE⟩:=Hv HO.out (by omega)
  injection he with ea _ ec;subst ea ec;obtain⟨_,_,z2⟩:=dE i _ hv;have eU:=qid (HH.out.rows _ (List.mem_of_getElem? hv));obtain⟨s0,s1,T⟩:=s;have bC:s0=id:=bC;subst bC;have jY:=qid (RK HI.out al az);have eU:Hid (SQ w v T):=eU;obtain⟨ta,tc,rfl⟩:=eU.out.form;have z2:w.cell? ⟨sg,i*3+2,none⟩=some (.slice ta T.length tc):=z2;have hR:nE S T=R:=by
   rw[←hR];unfold d6 dbS;rw[show(S,dO (sns x)).2 s0=some (s1,T)from I7 al az]
   rfl
  subst hR;have l3:(i:Int)<(x.length:Int):=by omega
  have l4:(0:Int)≤(i:Int):=by omega
  have l5:¬((i:Int)<0):=by omega
  clear dE hv az al bw;go_wp2_with fail;refine wp_region_held_drew (S:=(fun w'=>w'.cell? ⟨g,0,none⟩=some (.slice ca S.length cc)∧w'.cell? ⟨g,1,none⟩=some (.slice (some ⟨sg,0,none⟩) x.length sc)∧w'.cell? ⟨sg,i*3+2,none⟩=some (.slice ta T.length tc)∧Below w.heap.size w w')) (by kernel_rfl) ?_ (fun hS=>?_)
  ·exact⟨y0,y1,z2,(Below.refl _ _).drew⟩
  refine tkY 0 ?_ rfl hS ?_ ?_;rotate_left
  ·intro wz hz
   go_simp
   all_goals first|with_reducible rfl|omega
  try simp only[Act.put,pu]
  refine tkY 1 ?_ rfl hS ?_ ?_;rotate_left
  ·intro wz hz
   go_simp
   all_goals first|with_reducible rfl|omega
  try simp only[Act.put,pu]
  refine tkY 2 ?_ rfl hS ?_ ?_;rotate_left
  ·intro wz hz
   go_simp
   all_goals first|with_reducible rfl|omega
  try simp only[Act.put,pu]
  refine tkY 3 ?_ rfl hS ?_ ?_;rotate_left
  ·intro wz hz
   obtain⟨z0,z1,z2,_⟩:=hz;go_simp
   all_goals first|with_reducible rfl|omega
  try simp only[Act.put,pu]
  refine tkY 4 ?_ rfl hS ?_ ?_;rotate_left
  ·intro wz hz
   go_simp
   all_goals first|with_reducible rfl|omega
  try simp only[Act.put,pu]
  refine tkY 5 ?_ rfl hS ?_ ?_;rotate_left
  ·intro wz hz
   go_simp
   all_goals first|with_reducible rfl|omega
  try simp only[Act.put,pu]
  refine tkY 6 ?_ rfl hS ?_ ?_;rotate_left
  ·intro wz hz
   go_simp
   all_goals first|with_reducible rfl|omega
  try simp only[Act.put,pu]
  refine tkY 7 ?_ rfl hS ?_ ?_;rotate_left
  ·intro wz hz
   obtain⟨z0,z1,z2,_⟩:=hz;go_simp
   all_goals first|with_reducible rfl|omega
  try simp only[Act.put,pu]
  refine tkY 8 ?_ rfl hS ?_ ?_;rotate_left
  ·intro wz hz
   go_simp
   all_goals first|with_reducible rfl|omega
  try simp only[Act.put,pu]
  refine tkY 9 ?_ rfl hS ?_ ?_;rotate_left
  ·intro wz hz
   go_simp
   all_goals first|with_reducible rfl|omega
  try simp only[Act.put,pu]
  refine tkY 10 ?_ rfl hS ?_ ?_;rotate_left
  ·intro wz hz
   go_simp
   all_goals first|with_reducible rfl|omega
  try simp only[Act.put,pu]
  refine tkY 11 ?_ rfl hS ?_ ?_;rotate_left
  ·intro wz hz
   obtain⟨z0,z1,z2,_⟩:=hz;go_simp
   all_goals first|with_reducible rfl|omega
  try simp only[Act.put,pu]
  refine wpAnyH_ready (rs:=[12]) (by kernel_rfl) (by simp) (AllReadyH.cons rfl (fun K' ae=>?_) AllReadyH.nil)
  go_simp;have hB:=hS.2.2.2;obtain⟨wd,fP⟩:∃W,w.drew=W:=⟨_,rfl⟩
  try rw[fP]
  try rw[fP]at hB
  refine(MT _ _ S T wd (eH.out.bel hB) (eU.out.bel hB) aY.out jY.out.1.each (by have:=jM.out;have:=jY.out.2;have:=fO.out;omega) (jY.out.1.ok (by have:=jY.out.2;have:=fO.out;omega)).few).mono ?_
  rintro e w3 ⟨v3,rfl,js,aG⟩;have cq:Below w.heap.size w w3:=hB.trans (aG.mono hB.size);obtain⟨aO,kW⟩:=hZ2 cq js;have d0:=(cq.cell (p:=⟨g,0,none⟩) (World.block_lt_of_cell? w _ y0)).trans y0;have d1:=(cq.cell (p:=⟨g,1,none⟩) (World.block_lt_of_cell? w _ y1)).trans y1;have d2:=(cq.cell (p:=⟨sg,i*3+2,none⟩) (World.block_lt_of_cell? w _ z2)).trans z2;clear aG cq hB js fP;refine ae.out _ _ ?_ (fun aF=>?_)
  ·exact⟨d0,d1,d2,aO.out⟩
  clear ae K' hS;have hS:=aF;clear aF
  try simp only[Act.put,pu]
  obtain⟨uu,uv,rfl⟩:=kW.out.form;refine tkY 13 ?_ rfl hS ?_ ?_;rotate_left
  ·intro wz hz
   go_simp
   all_goals first|with_reducible rfl|omega
  try simp only[Act.put,pu]
  refine wpAnyH_done (by kernel_rfl) ?_ _
  clear hS;go_wp2;go_ret;exact⟨_,rfl,kW.out,aO.out⟩
 ·have hR:S=R:=by
   rw[←hR];unfold d6 dbS;rw[show(S,dO (sns x)).2 id=none from hn]
   rfl
  subst hR;have kX:=qid (aY.out.ok (by have:=jM.out;omega)).few
  clear hn;go_wp2_with fail;refine(Gp _ S w eH.out.sr kX.out).mono ?_;rintro e w1 ⟨v1,x1,rfl,cJ,ht,hb⟩;have fB:=qid (cJ.sqE ht);have aX:=qid hb;obtain⟨d1,k1,rfl⟩:=fB.out.form;clear cJ ht hb;go_wp2;go_ret;exact⟨_,rfl,fB.out,aX.out⟩
theorem O3(B:Nat)(w:World)(g n:Nat)(C:Cdb)(D:Dbp)(h:CD B w g n C D)(hn:n≤10000)(hB:B≤w.heap.size)(id:Int)(hi:I9 id)(kd:Int)(nm:ByteArray)(K V:Int)(kb:Bool)(m:Int)(hw:Wq m w)(aZ:nm.size≤1000)(hK:f7 K)(hV:f7 V)(k:Nat)(hI:ce D k)(hk:k≤10000)(ht:txB kd nm K V kb=true):
  Calls Tryz.prog 35 #[SL.ptr g,.int .i64 id,.agg #[.int .i64 kd,.string nm,.int .i64 K,.int .i64 V,.bool kb]] w (JZ B g (n+1) C (doP D id kd nm K V kb) w):=by
 have hT:Ho (kd,nm,K,V,kb)≠[]:=fun e=>by unfold txB at ht;rw[e]at ht;simp at ht
 obtain⟨uw,ux,pK,BH,_,_⟩:=N2 hT;obtain⟨T,nM⟩:∃T,bb (Ho (kd,nm,K,V,kb))=T:=⟨_,rfl⟩;have b7:T.toList.isEmpty=false:=by rw[←nM];exact TD _ hT
 have eR:=hI.seen id;have aE:=hI.ownT id;have qU:MC (d6 D id):=eR.1.ok (by omega)
 have hlen:=hI.st.len;have yc:=hI.st.tabs.up;obtain⟨W0,aH⟩:∃W,w.alloc (.cells #[.int .i64 kd,.string nm,.int .i64 K,.int .i64 V,.bool kb] 34)=W:=⟨_,rfl⟩;obtain⟨cb,an⟩:∃b,w.heap.size=b:=⟨_,rfl⟩;have b0:Below w.heap.size w W0:=by rw[←aH];exact(Below.refl _ _).alloc (Nat.le_refl _) _
 have k0:SL.Bk W0 cb 34 #[.int .i64 kd,.string nm,.int .i64 K,.int .i64 V,.bool kb]:=by rw[←aH,←an];exact SL.Bk.new _ _ _
 have y0:=k0.cell 0;have y1:=k0.cell 1;have y2:=k0.cell 2;have y3:=k0.cell 3;have y4:=k0.cell 4;have y0:W0.cell? ⟨cb,0,none⟩=some (.int .i64 kd):=y0;have y1:W0.cell? ⟨cb,1,none⟩=some (.string nm):=y1;have y2:W0.cell? ⟨cb,2,none⟩=some (.int .i64 K):=y2;have y3:W0.cell? ⟨cb,3,none⟩=some (.int .i64 V):=y3;have y4:W0.cell? ⟨cb,4,none⟩=some (.bool kb):=y4;have K0:=qid k0;have H:=qid (h.below b0);have B0:=qid b0;have HX:=qid (XB kd nm K V kb T nM m W0 (hw.below b0) aZ hK hV);obtain⟨R,hR⟩:∃R,doS (d6 D id) kd nm K V kb=R:=⟨_,rfl⟩;have nK:Hid (∀w1,Below W0.heap.size W0 w1→Calls Tryz.prog 21 #[SL.ptr g,.int .i64 id] w1 (UV (d6 D id) w1)):=qid fun w1 hb=>MB B w1 g n C D ((h.below b0).below hb) (by omega) id hi yc aE.1.up (by omega) qU.few _ rfl
 have uy:Hid (∀(w1:World) (v:Value),SR w1 v (d6 D id)→Calls Tryz.prog 53 #[v,.agg #[.int .i64 kd,.string nm,.int .i64 K,.int .i64 V,.bool kb]] w1 (DoW (d6 D id) R w1)):=qid fun w1 v hs=>doW R v _ kd nm K V kb hR qU uw (by omega) w1 hs
 have Dd:Hid (∀w1,Below W0.heap.size W0 w1→Calls Tryz.prog 36 #[SL.ptr g,.int .i64 id] w1 fun e w'=>e=.returned (.tuple #[])∧StD B g n C (Hg D id) w1 w'):=qid fun w1 hb=>PS B w1 g n C D ((h.below b0).below hb) (Nat.le_trans (Nat.le_trans hB b0.size) hb.size) id hi
 have lh:Hid (∀(w1:World) (u:Value) (l:List Rw),Below W0.heap.size W0 w1→RQ w1 u l→Calls Tryz.prog 54 #[SL.ptr g,.int .i64 id,tbV nm u] w1 fun e w'=>e=.returned (.tuple #[])∧StD B g (n+1) C (Gs D id (nm,l)) w1 w'):=qid fun w1 u l hb hq=>UX B w1 g n C D ((h.below b0).below hb) (by omega) (Nat.le_trans (Nat.le_trans hB b0.size) hb.size) id hi nm u l hq (by omega) yc aE.1.up (by omega)
 have sY:Hid (R.2.2=0→∃(i:Nat) (l:List Rw),bv R.1 nm 0=(i:Int)∧R.1[i]? =some (nm,l)∧(lkT R.1 nm).getD []=l):=qid fun he=>by
  have pL:=OW (s:=d6 D id) (kd:=kd) (K:=K) (V:=V) (n:=nm) (kb:=kb) eR.1 ux pK BH;have fK:=MM (s:=d6 D id) (kd:=kd) (K:=K) (V:=V) (n:=nm) (kb:=kb) eR.1 (by rw[hR];exact he)
  rw[hR]at pL fK;obtain⟨l,hl⟩:=Option.isSome_iff_exists.1 fK;obtain⟨i,h1,h2⟩:=ZE pL.up hl;exact⟨i,l,h1,h2,by rw[hl];rfl⟩
 have De:Hid (R.1.length≤1000000):=qid (by
  have hc:=IH (d6 D id) kd nm K V kb;rw[hR]at hc;have bC:=eR.2;rcases hc with⟨_,⟨_,e⟩|⟨_,_,e⟩|⟨_,_,e⟩⟩|⟨_,_,e⟩|⟨_,i,t,_,_,e⟩<;>rw[e]
  ·show(d6 D id).length≤_;omega
  ·show(d6 D id).length≤_;omega
  ·show(H9 (d6 D id) nm).length≤_
   unfold H9;have:=IF (ltN nm) (d6 D id);rw[List.length_append,List.length_cons,List.length_take,List.length_drop];omega
  ·show(d6 D id).length≤_;omega
  ·split
   ·show(d6 D id).length≤_;omega
   ·show(List.set _ _ _).length≤_
    rw[List.length_set];omega)
 have uz:Hid (kd≠1→R.2.1=[]):=qid fun bq=>by rw[←hR];exact ZG bq
 have BI:doP D id kd nm K V kb=if R.2.2=0 then(if kd=1 then(D,R.2.1,0)else(Gs D id (nm,(lkT R.1 nm).getD []),[],0))else(Hg D id,[],R.2.2):=by
  unfold doP;rw[hR]
 rw[BI];obtain⟨Df,qV⟩:∃A,(if R.2.2=0 then(if kd=1 then(D,R.2.1,(0:Int))else(Gs D id (nm,(lkT R.1 nm).getD []),[],0))else(Hg D id,[],R.2.2))=A:=⟨_,rfl⟩
 rw[qV];have vA:=qid qV;obtain⟨Z,hZ⟩:∃Z,d6 D id=Z:=⟨_,rfl⟩;rw[hZ]at nK uy;clear h hw hI b0 k0 ht hT hK hV uw ux pK BH nM eR aE qU hlen yc hR BI hZ hi hB hn hk qV;obtain⟨R1,R2,R3⟩:=R;go_enter Tryz.func35,Tryz.ntmps35;go_wp2_with fail
 try rw[aH]
 try rw[an]
 go_wp2_with fail;refine HX.out.mono ?_;rintro e w1 ⟨rfl,aU⟩;have B1:=qid aU;have bq:=f9 K0.out aU;have K1:=qid bq;clear aU y0 y1 y2 y3 y4;have y0:w1.cell? ⟨cb,0,none⟩=some (.int .i64 kd):=bq.cell 0;have y1:w1.cell? ⟨cb,1,none⟩=some (.string nm):=bq.cell 1;have y2:w1.cell? ⟨cb,2,none⟩=some (.int .i64 K):=bq.cell 2;have y3:w1.cell? ⟨cb,3,none⟩=some (.int .i64 V):=bq.cell 3;have y4:w1.cell? ⟨cb,4,none⟩=some (.bool kb):=bq.cell 4;clear bq;go_wp2_with fail;refine wp_region_held_drew (S:=(fun w'=>w'.cell? ⟨cb,0,none⟩=some (.int .i64 kd)∧w'.cell? ⟨cb,1,none⟩=some (.string nm)∧w'.cell? ⟨cb,2,none⟩=some (.int .i64 K)∧w'.cell? ⟨cb,3,none⟩=some (.int .i64 V)∧w'.cell? ⟨cb,4,none⟩=some (.bool kb))) (by kernel_rfl) ?_ (fun hS=>?_)
 ·exact⟨y0,y1,y2,y3,y4⟩
 refine tkY 0 ?_ rfl hS ?_ ?_;rotate_left
 ·intro wz hz
  go_simp
  all_goals first|with_reducible rfl|omega
 try simp only[Act.put,pu]
 refine tkY 1 ?_ rfl hS ?_ ?_;rotate_left
 ·intro wz hz
  go_simp
  all_goals first|with_reducible rfl|omega
 try simp only[Act.put,pu]
 refine tkY 3 ?_ rfl hS ?_ ?_;rotate_left
 ·intro wz hz
  obtain⟨z0,z1,z2,z3,z4⟩:=hz;go_simp
  all_goals first|with_reducible rfl|omega
 try simp only[Act.put,pu]
 refine wpAnyH_ready (rs:=[2]) (by kernel_rfl) (by simp) (AllReadyH.cons rfl (fun K' ae=>?_) AllReadyH.nil)
 go_simp;have iH:Below w1.heap.size w1 w1.drew:=(Below.refl _ _).drew;refine(nK.out w1.drew (B1.out.trans (iH.mono B1.out.size))).mono ?_;rintro e w2 ⟨v2,x2,rfl,dX,bC,aA⟩;have B2:=qid (B1.out.trans ((iH.trans (aA.mono iH.size)).mono B1.out.size));have bK:=f9 K1.out (iH.trans (aA.mono iH.size));have K2:=qid bK;have Dg:=qid (dX.sqE bC).sr;have qW:∃a c,v2=.slice a x2.length c:=Ac dX.own;clear dX bC aA iH y0 y1 y2 y3 y4;have y0:w2.cell? ⟨cb,0,none⟩=some (.int .i64 kd):=bK.cell 0;have y1:w2.cell? ⟨cb,1,none⟩=some (.string nm):=bK.cell 1;have y2:w2.cell? ⟨cb,2,none⟩=some (.int .i64 K):=bK.cell 2;have y3:w2.cell? ⟨cb,3,none⟩=some (.int .i64 V):=bK.cell 3;have y4:w2.cell? ⟨cb,4,none⟩=some (.bool kb):=bK.cell 4;clear bK;obtain⟨a2,c2,rfl⟩:=qW;refine ae.out _ _ ?_ (fun aF=>?_)
 ·exact⟨y0,y1,y2,y3,y4⟩
 clear ae K' hS;have hS:=aF;clear aF
 try simp only[Act.put,pu]
 refine wpAnyH_ready (rs:=[4]) (by kernel_rfl) (by simp) (AllReadyH.cons rfl (fun K' ae=>?_) AllReadyH.nil)
 go_simp;refine(uy.out w2 _ Dg.out).mono ?_;rintro e w3 ⟨v3,x3,vr,rfl,yd,ki,lN,aG⟩;have B3:=qid (B2.out.trans (aG.mono B2.out.size));have eV:=f9 K2.out aG;obtain⟨K3,xH,vB,Dh⟩:=hZ4 eV yd ki lN.rq;have qX:∃a c,v3=.slice a x3.length c:=Ac yd.own;have qY:∃a c,vr=.slice a R2.length c:=lN.rq.form;clear yd ki aG lN y0 y1 y2 y3 y4;have y0:w3.cell? ⟨cb,0,none⟩=some (.int .i64 kd):=eV.cell 0;have y1:w3.cell? ⟨cb,1,none⟩=some (.string nm):=eV.cell 1;have y2:w3.cell? ⟨cb,2,none⟩=some (.int .i64 K):=eV.cell 2;have y3:w3.cell? ⟨cb,3,none⟩=some (.int .i64 V):=eV.cell 3;have y4:w3.cell? ⟨cb,4,none⟩=some (.bool kb):=eV.cell 4;clear eV;obtain⟨a3,c3,rfl⟩:=qX;obtain⟨a4,c4,rfl⟩:=qY;refine ae.out _ _ ?_ (fun aF=>?_)
 ·exact⟨y0,y1,y2,y3,y4⟩
 clear ae K' hS;have hS:=aF;clear aF
 try simp only[Act.put,pu]
 refine tkY 5 ?_ rfl hS ?_ ?_;rotate_left
 ·intro wz hz
  go_simp
  all_goals first|with_reducible rfl|omega
 try simp only[Act.put,pu]
 refine tkY 6 ?_ rfl hS ?_ ?_;rotate_left
 ·intro wz hz
  go_simp
  all_goals first|with_reducible rfl|omega
 try simp only[Act.put,pu]
 refine tkY 7 ?_ rfl hS ?_ ?_;rotate_left
 ·intro wz hz
  go_simp
  all_goals first|with_reducible rfl|omega
 try simp only[Act.put,pu]
 refine tkY 8 ?_ rfl hS ?_ ?_;rotate_left
 ·intro wz hz
  go_simp
  all_goals first|with_reducible rfl|omega
 try simp only[Act.put,pu]
 refine tkY 9 ?_ rfl hS ?_ ?_;rotate_left
 ·intro wz hz
  go_simp
  all_goals first|with_reducible rfl|omega
 try simp only[Act.put,pu]
 refine tkY 10 ?_ rfl hS ?_ ?_;rotate_left
 ·intro wz hz
  go_simp
  all_goals first|with_reducible rfl|omega
 try simp only[Act.put,pu]
 refine tkY 11 ?_ rfl hS ?_ ?_;rotate_left
 ·intro wz hz
  go_simp
  all_goals first|with_reducible rfl|omega
 try simp only[Act.put,pu]
 refine wpAnyH_done (by kernel_rfl) ?_ _
 clear hS;have kC:Hid ((if R3=0 then(if kd=1 then(D,R2,(0:Int))else(Gs D id (nm,(lkT R1 nm).getD []),[],0))else(Hg D id,[],R3))=Df):=vA
 clear vA
 by_cases he:R3=0
 ·subst he
  rw[if_pos rfl]at kC
  by_cases bq:kd=1
  ·subst bq
   rw[if_pos rfl]at kC;go_wp2
   go_ret2
   rw[←kC.out];exact⟨_,rfl,Dh.out,StD.pre B0.out (StD.pre B3.out ((StD.refl (H.out.below B3.out) (Below.refl _ _)).mono (Nat.le_succ _)))⟩
  ·rw[if_neg bq]at kC
   have ch:R2=[]:=uz.out bq;subst ch;obtain⟨i,l,qZ,du,cx⟩:=sY.out rfl;have vB:Hid (tbs x3=R1):=vB;have vC:=xH.out.srE vB.out;have du:R1[i]? =some (nm,l):=du;have qZ:bv R1 nm 0=(i:Int):=qZ;have cx:(lkT R1 nm).getD []=l:=cx;have eE:x3.length=R1.length:=by rw[←vB.out,mt]
   have bw:=(List.getElem?_eq_some_iff.1 du).1;obtain⟨u,ye⟩:=IX x3 i (nm,l) (by rw[vB.out];exact du)
   obtain⟨gs,cp,hv,_,ot⟩:=xH.out.form (by omega)
   have kN:=qid ot;injection hv with ea _ ec;subst ea ec;obtain⟨z0,z1⟩:=xH.out.at_ i _ ye;have jc:RQ w3 u l:=(xH.out.rows _ (List.mem_of_getElem? ye)).rq;obtain⟨ua,uc,rfl⟩:=jc.form;have z0:w3.cell? ⟨gs,i*2,none⟩=some (.string nm):=z0;have z1:w3.cell? ⟨gs,i*2+1,none⟩=some (.slice ua l.length uc):=z1;have qM:=qid (qcz _ R1 nm (i:Int) qZ De.out w3 vC);obtain⟨pI,ks,fh⟩:=hZ3 jc cx eE;have l0:(0:Int)≤(i:Int):=by omega
   have l1:(i:Int)<(x3.length:Int):=by omega
   clear vC du qZ cx eE bw ye jc ot;go_wp2_with fail;refine qM.out.mono ?_;rintro e w4 ⟨rfl,ai⟩;have z0:w4.cell? ⟨gs,i*2,none⟩=some (.string nm):=(ai.cell (p:=⟨gs,i*2,none⟩) kN.out).trans z0;have z1:w4.cell? ⟨gs,i*2+1,none⟩=some (.slice ua l.length uc):=(ai.cell (p:=⟨gs,i*2+1,none⟩) kN.out).trans z1;have cH:=qid ai;have yf:=qid (pI.out.bel ai);have B4:=qid (B3.out.trans (ai.mono B3.out.size));clear ai y0 y1 y2 y3 y4;go_wp2_with fail;refine(lh.out w4 _ l B4.out yf.out).mono ?_;rintro e w5 ⟨rfl,vD⟩;have yg:=qid vD;clear vD;go_wp2
   go_ret2
   rw[←kC.out,ks.out];exact⟨_,rfl,(.inl ⟨_,_,rfl,rfl⟩),StD.pre B0.out (StD.pre B4.out yg.out)⟩
 ·rw[if_neg he]at kC
  go_wp2_with fail;refine(Dd.out w3 B3.out).mono ?_;rintro e w4 ⟨rfl,s8⟩;have vF:=qid s8;clear s8 y0 y1 y2 y3 y4;go_wp2
  go_ret2
  rw[←kC.out];exact⟨_,rfl,RQ.nil _,StD.pre B0.out (StD.pre B3.out (vF.out.mono (Nat.le_succ _)))⟩
end Go.Proofs.YtpgddamhdfmdjaaGreatDoor
