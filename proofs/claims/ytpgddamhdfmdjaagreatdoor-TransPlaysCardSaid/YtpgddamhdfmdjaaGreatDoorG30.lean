/- Tcq Tcr Taw Tba Tcz Tcs Tct -/
import Derived.Test.YtpgddamhdfmdjaaGreatDoorG28
import Derived.Test.YtpgddamhdfmdjaaGreatDoorG29
import Derived.Deep.CutBlock
import Derived.Test.YtpgddamhdfmdjaaGreatDoorG1
set_option linter.unusedSimpArgs false
set_option linter.unusedVariables false
set_option maxRecDepth 100000
set_option maxHeartbeats 16000000
namespace Go.Proofs.YtpgddamhdfmdjaaGreatDoor
open Go.ChangeShapes Go.WideShapes Go.ChangeAt Go.RowKit Go.ChangeMaps
theorem CpI.iter{B r:Nat}{w w':World}{g2 n k:Nat}{D:Dbp}{left:Lit→Bool}{Cc:Cdb}{E:Int→Ses}(h:CpI B w g2 n k D left Cc E)(hr:∃m s se c,w.heap[r]? =some (.mapIter m s se c))(hg:w.grownBy w' (some r)):CpI B w' g2 n k D left Cc E:=by
 have key:∀b,Cc.own g2 b→w'.heap[b]? =w.heap[b]? :=fun b hb=>hg.block b (h.1.lt hb) (fun e=>by
  injection e with e;subst e;obtain⟨m,s,se,c,hr⟩:=hr;rcases h.1.kind hb with⟨cs,t,fr,_,e⟩|⟨es,ck,e⟩<;>(rw[hr]at e;cases e))
 exact⟨h.1.keep (Ti hr hg) key,h.2.1.keep (key _ (.inr (.inl rfl))),h.2.2⟩
def qdk(n:Nat)(D:Dbp)(w:World)(e:Ending)(w':World):Prop:=∃g2 C2,e=.returned (SL.ptr g2)∧CD w.heap.size w' g2 n C2 D∧Below w.heap.size w w'
theorem VG(B:Nat)(w:World)(g n:Nat)(C:Cdb)(D:Dbp)(h:CD B w g n C D)(hn:n≤9000):
  Calls Tryz.prog 10 #[SL.ptr g] w (qdk n D w):=by
 obtain⟨c0,c1,c2⟩:=h.cells;obtain⟨av,cv,hv⟩:∃a c,C.vs=.slice a D.1.length c:=h.sq.form;have bU:=h.sq;rw[hv]at c1 bU;obtain⟨H,HN⟩:=hZ2 h hn;have HG:=qid (d9 w g c0);have eH:=qid bU;clear h hn bU hv;go_enter Tryz.func10,Tryz.ntmps10;go_wp2_with fail;refine HG.out.mono ?_;rintro e w' ⟨rfl,rfl⟩;go_wp2_with fail;refine(NS w.heap.size _ D.1 w eH.out (Nat.le_refl _)).mono ?_;rintro e w1 ⟨g2,C2,rfl,gb,aE,Ef,hG,hb⟩;obtain⟨yh,Eg,aX⟩:=hZ3 gb hG hb;have H1:=qid (H.out.below hb);have c2:w1.cell? ⟨g,2,none⟩=some (.map (some C.mb)):=H1.out.cells.2.2;clear gb aE Ef hG hb c0 c1;go_wp2_with (at_range;refine MV.wpList_range rfl _ 60 rfl 65 M4 Tryz.underlying60 rfl H1.out.mp ?_;intro w0 qH m' mA gP jF gh oZ);have bD:Below w1.heap.size w1 w0:=⟨gh.os,gh.tape,gh.output,gh.size,fun k hk=>gh.block k hk (by simp)⟩
 obtain⟨mB,mC,mD⟩:=hZ3 mA gP jF;have bG:=qid (aX.out.trans (bD.mono aX.out.size));have rP:=qid (yh.out.below bD);clear mA gP jF gh oZ bD c2
 go_frame
 go_loopw [4] (fun u4 wr=>∃(left:Lit→Bool) (eG k:Nat) (Cc:Cdb) (E:Int→Ses),Hid (MV.RangeV Tryz.prog 3 wr C.mb w1.heap.size n (gF C) left eG)∧Hid (CpI w.heap.size wr g2 n k D left Cc E)∧Hid (k+eG≤n)∧Hid (Below w.heap.size w wr)) (fun _ wr=>wr.rangeLeft C.mb w1.heap.size)
 case atStart=>
  refine⟨m',qH,0,C2,fun _=>none,mB,qid ⟨rP.out.mono (Nat.zero_le _),rP.out.mp,fun i=>?_⟩,qid (by have:=mD.out;omega),bG⟩
  split
  ·exact Eg.out i
  ·rename_i fN
   rw[mC.out _ (show WideAt.IsKeyLit (Lit.int _ _)from trivial)]at fN;have fN:¬((C.G i).map fun p=>SL.ptr p.1).isSome=true:=fN
   cases hu:C.G i with
   |none=>exact(H.out.no i hu).symm
   |some p=>rw[hu]at fN;simp at fN
 case round=>
  obtain⟨left,eG,k,Cc,E,kQ,cL,sO,fc⟩:=hrel;clear mB mC mD bG rP;go_wp2_with (at_next;refine MV.wpList_step (fun x:Int=>Value.int .i64 x) (fun key kl hk=>by obtain⟨x,rfl,_⟩:=Maps.keyOf_int_inv Tryz.underlying3 hk;exact⟨x,rfl⟩) rfl _ rfl M4 w1.heap.size left eG rfl kQ.out ?_ ?_)
  ·intro nN
   have he:E=D.2:=funext fun i=>by
    have:=cL.out.2.2 i;rw[if_neg (by rw[nN];simp)]at this
    exact this
   have HF:Hid (CD w.heap.size wr g2 n Cc D):=qid (by have:=cL.out.1;rw[he]at this;exact this)
   clear nN he;go_wp2;go_ret;exact⟨g2,Cc,rfl,HF.out,fc.out⟩
  ·intro x c kl w2 k7 cQ qJ uN ku aD iE az tH
   obtain⟨x2,e1,rfl,ie⟩:=Maps.keyOf_int_inv Tryz.underlying3 cQ;injection e1 with _ e1;subst e1;have sX:I9 x:=LG _ ie;have fE:((C.G x).map fun p=>SL.ptr p.1)=some c:=uN
   cases hu:C.G x with
   |none=>rw[hu]at fE;cases fE
   |some p=>
    rw[hu]at fE;obtain⟨p1,p2⟩:=p;injection fE with fE;subst fE;have jG:Below w.heap.size w w2:=fc.out.grown iE fc.out.size fun j hj=>by injection hj with hj;have:=aX.out.size;omega
    have h2:=H.out.below jG;obtain⟨q,hq,mx,p7⟩:=h2.tr x _ hu;have dv:=qid (cL.out.iter kQ.out.iter iE);obtain⟨HQ,Eh,sY⟩:=hZ3 hq sX qJ;have Bx:Hid (In w2 p2 n q.2):=qid p7;have rQ:=qid jG;have Ei:Hid (w.heap.size≤w2.heap.size):=qid jG.size;have rR:=qid ku;have nO:Hid (k+1+k7≤n):=qid (by have:=sO.out;omega)
    have yM:Hid (k7<wr.rangeLeft C.mb w1.heap.size):=qid (by rw[kQ.out.left_eq];exact aD)
    obtain⟨st,ah⟩:∃st,(if q.1=true then(69:Int)else 84)=st:=⟨_,rfl⟩
    have Ej:=qid ah;have t0:w2.cell? ⟨p1,0,none⟩=some (.int .u8 st):=by rw[←ah];exact mx.cell 0
    have t1:w2.cell? ⟨p1,1,none⟩=some (.map (some p2)):=mx.cell 1;have d2:w2.cell? ⟨g2,2,none⟩=some (.map (some Cc.mb)):=dv.out.1.cells.2.2;have lu:p1≠Cc.mb:=us mx dv.out.1.mp.obj;have oB:Hid (g2≠Cc.mb∧p1≠Cc.mb):=qid ⟨us dv.out.1.bk dv.out.1.mp.obj,lu⟩;have gO:Hid (C.mb≠Cc.mb∧w1.heap.size≠Cc.mb):=qid ⟨fun e=>by
     have h1:=H.out.mp.lt;have h2:=dv.out.1.bs _ (.inr (.inl rfl));omega,fun e=>by
     obtain⟨m,s,se,c,hr⟩:=ku.iter;obtain⟨es,ck,hx⟩:=dv.out.1.mp.obj;rw[←e,hr]at hx
     cases hx⟩
    clear cQ qJ uN ku aD az hu jG h2 hq mx p7 cL kQ sO fc sX ie ah lu iE;go_wp2_with fail;refine wp_region_held_drew (S:=(fun w'=>w'.cell? ⟨g2,2,none⟩=some (.map (some Cc.mb))∧w'.cell? ⟨p1,0,none⟩=some (.int .u8 st)∧w'.cell? ⟨p1,1,none⟩=some (.map (some p2)))) (by kernel_rfl) ?_ (fun hS=>?_)
    ·exact⟨d2,t0,t1⟩
    refine tkY 0 ?_ rfl hS ?_ ?_;rotate_left
    ·intro wz hz
     go_simp
     all_goals first|with_reducible rfl|omega
    try simp only[Act.put,pu]
    refine tkY 1 ?_ rfl hS ?_ ?_;rotate_left
    ·intro wz hz
     go_simp
     all_goals first|with_reducible rfl|omega
    try simp only[Act.put,pu]
    refine tkY 2 ?_ rfl hS ?_ ?_;rotate_left
    ·intro wz hz
     go_simp
     all_goals first|with_reducible rfl|omega
    try simp only[Act.put,pu]
    refine tkY 3 ?_ rfl hS ?_ ?_;rotate_left
    ·intro wz hz
     obtain⟨z0,z1,z2⟩:=hz;go_simp
     all_goals first|with_reducible rfl|omega
    try simp only[Act.put,pu]
    refine tkY 4 ?_ rfl hS ?_ ?_;rotate_left
    ·intro wz hz
     go_simp
     all_goals first|with_reducible rfl|omega
    try simp only[Act.put,pu]
    refine tkY 5 ?_ rfl hS ?_ ?_;rotate_left
    ·intro wz hz
     go_simp
     all_goals first|with_reducible rfl|omega
    try simp only[Act.put,pu]
    refine tkY 6 ?_ rfl hS ?_ ?_;rotate_left
    ·intro wz hz
     go_simp
     all_goals first|with_reducible rfl|omega
    try simp only[Act.put,pu]
    refine tkY 7 ?_ rfl hS ?_ ?_;rotate_left
    ·intro wz hz
     go_simp
     all_goals first|with_reducible rfl|omega
    try simp only[Act.put,pu]
    refine tkY 8 ?_ rfl hS ?_ ?_;rotate_left
    ·intro wz hz
     obtain⟨z0,z1,z2⟩:=hz;go_simp
     all_goals first|with_reducible rfl|omega
    try simp only[Act.put,pu]
    refine tkY 9 ?_ rfl hS ?_ ?_;rotate_left
    ·intro wz hz
     go_simp
     all_goals first|with_reducible rfl|omega
    try simp only[Act.put,pu]
    refine tkY 10 ?_ rfl hS ?_ ?_;rotate_left
    ·intro wz hz
     go_simp
     all_goals first|with_reducible rfl|omega
    try simp only[Act.put,pu]
    refine tkY 11 ?_ rfl hS ?_ ?_;rotate_left
    ·intro wz hz
     go_simp
     all_goals first|with_reducible rfl|omega
    try simp only[Act.put,pu]
    refine tkY 12 ?_ rfl hS ?_ ?_;rotate_left
    ·intro wz hz
     obtain⟨z0,z1,z2⟩:=hz;go_simp
     all_goals first|with_reducible rfl|omega
    try simp only[Act.put,pu]
    refine wpAnyH_ready (rs:=[13]) (by kernel_rfl) (by simp) (AllReadyH.cons rfl (fun K' ae=>?_) AllReadyH.nil)
    go_simp;have hB:Below w2.heap.size w2 w2.drew:=(Below.refl _ _).drew;refine(Qs w2.drew p2 n q.2 (Bx.out.keep (.bel hB) (hB.block p2 Bx.out.lt))).mono ?_;rintro e w3 ⟨rfl,wA,aG⟩;have cq:Below w2.heap.size w2 w3:=hB.trans (aG.mono hB.size);obtain⟨aO,rS⟩:=hZ2 cq wA;have wB:Hid (w2.heap.size≤w2.drew.heap.size∧w2.drew.heap.size≤w3.heap.size):=qid ⟨hB.size,aG.size⟩;have a2:w3.cell? ⟨g2,2,none⟩=some (.map (some Cc.mb)):=(cq.cell (p:=⟨g2,2,none⟩) (World.block_lt_of_cell? w2 _ d2)).trans d2;have a0:w3.cell? ⟨p1,0,none⟩=some (.int .u8 st):=(cq.cell (p:=⟨p1,0,none⟩) (World.block_lt_of_cell? w2 _ t0)).trans t0;have a1:w3.cell? ⟨p1,1,none⟩=some (.map (some p2)):=(cq.cell (p:=⟨p1,1,none⟩) (World.block_lt_of_cell? w2 _ t1)).trans t1;clear aG cq hB wA;refine ae.out _ _ ?_ (fun aF=>?_)
    ·exact⟨a2,a0,a1⟩
    clear ae K' hS;have hS:=aF;clear aF
    try simp only[Act.put,pu]
    obtain⟨ob,vi⟩:∃b,w2.drew.heap.size=b:=⟨_,rfl⟩
    try rw[vi]at rS wB
    try rw[vi]
    refine tkY 14 ?_ rfl hS ?_ ?_;rotate_left
    ·intro wz hz
     go_simp
     all_goals first|with_reducible rfl|omega
    try simp only[Act.put,pu]
    obtain⟨W5,ir⟩:∃W,w3.alloc (.cells #[.int .u8 st,.map (some ob)] 68)=W:=⟨_,rfl⟩;obtain⟨tr,oO⟩:∃b,w3.heap.size=b:=⟨_,rfl⟩;have b5:Below w3.heap.size w3 W5:=by rw[←ir];exact(Below.refl _ _).alloc (Nat.le_refl _) _
    have uw:SL.Bk W5 tr 68 #[.int .u8 st,.map (some ob)]:=by rw[←ir,←oO];exact SL.Bk.new _ _ _
    have k5:SL.Bk W5 tr 68 (trC q.1 ob):=by
     show SL.Bk W5 tr _ #[.int .u8 (if q.1=true then 69 else 84),.map (some ob)]
     rw[Ej.out];exact uw
    have oN:Below w2.heap.size w2 W5:=aO.out.trans (b5.mono aO.out.size);obtain⟨w4,dK,wC,wD⟩:=dv.out.step (by have:=nO.out;omega) (by have:=HN.out;omega) Ei.out Eh.out sY.out HQ.out oN (rS.out.keep (.bel b5) (b5.block ob rS.out.lt)) k5 wB.out.1 (by have:=aO.out.size;omega)
    obtain⟨zR,oT,kv,G6⟩:=hZ4 wC wD oN oO;have f2:W5.cell? ⟨g2,2,none⟩=some (.map (some Cc.mb)):=(b5.cell (p:=⟨g2,2,none⟩) (World.block_lt_of_cell? w3 _ a2)).trans a2;have f0:W5.cell? ⟨p1,0,none⟩=some (.int .u8 st):=(b5.cell (p:=⟨p1,0,none⟩) (World.block_lt_of_cell? w3 _ a0)).trans a0;have f1:W5.cell? ⟨p1,1,none⟩=some (.map (some p2)):=(b5.cell (p:=⟨p1,1,none⟩) (World.block_lt_of_cell? w3 _ a1)).trans a1;clear b5 k5 uw oN wC wD;refine wpAnyH_ready (rs:=[15]) (by kernel_rfl) (by simp) (AllReadyH.cons rfl (fun K' ae=>?_) AllReadyH.nil)
    go_simp
    try rw[ir]
    try rw[oO]
    refine ae.out _ _ ?_ (fun aF=>?_)
    ·exact⟨f2,f0,f1⟩
    clear ae K' hS;have hS:=aF;clear aF
    try simp only[Act.put,pu]
    refine wpAnyH_ready (rs:=[16]) (by kernel_rfl) (by simp) (AllReadyH.cons rfl (fun K' ae=>?_) AllReadyH.nil)
    go_simp
    refine ae.out _ _ ?_ (fun aF=>?_)
    ·exact⟨(oT.out.grown.cell (a:=⟨g2,2,none⟩) f2 (fun e=>oB.out.1 (by injection e))),(oT.out.grown.cell (a:=⟨p1,0,none⟩) f0 (fun e=>oB.out.2 (by injection e))),(oT.out.grown.cell (a:=⟨p1,1,none⟩) f1 (fun e=>oB.out.2 (by injection e)))⟩
    clear ae K' hS;have hS:=aF;clear aF
    try simp only[Act.put,pu]
    refine wpAnyH_done (by kernel_rfl) ?_ _
    clear hS;have eW:=oT.out.grown;have wE:=qid (rR.out.below kv.out |>.kept (eW.block C.mb (Nat.lt_of_lt_of_le rR.out.map.lt kv.out.size) (fun e=>gO.out.1 (by injection e))) (eW.block w1.heap.size (Nat.lt_of_lt_of_le rR.out.lt kv.out.size) (fun e=>gO.out.2 (by injection e))))
    have cH:Hid (Below w.heap.size w w4):=qid ((rQ.out.trans (kv.out.mono rQ.out.size)).grown eW (Nat.le_trans rQ.out.size kv.out.size) (fun j hj=>by injection hj with hj;subst hj;exact dv.out.1.bs _ (.inr (.inl rfl))))
    clear eW dK;go_wp2
    go_roundw
    case rel=>exact⟨_,k7,k+1,_,_,wE,zR,qid (by have:=nO.out;omega),cH⟩
    case measure=>rw[wE.out.left_eq];exact yM.out
def LB2(w0 w:World)(g n:Nat)(D:Dbp)(g2 n2:Nat)(D2:Dbp)(gr m:Nat)(E:Dbp):Prop:=∃C C2 x,CD w0.heap.size w g n C D∧CD w0.heap.size w g2 n2 C2 D2∧(∀b,C.own g b→¬C2.own g2 b)∧RD w0.heap.size w gr E.1 x∧dO (sns x)=E.2∧x.length≤m∧Below w0.heap.size w0 w
section
variable {w0 w w':World} {g n g2 n2 m gr:Nat} {D D2 E:Dbp}
theorem LB2.bel(h:LB2 w0 w g n D g2 n2 D2 gr m E):Below w0.heap.size w0 w:=by obtain⟨_,_,_,_,_,_,_,_,_,h⟩:=h;exact h
theorem LB2.drop(h:LB2 w0 w g n D g2 n2 D2 gr m E):LB w0 w g2 n2 D2 gr m E:=by
 obtain⟨C,C2,x,h1,h2,h3,h4,h5,h6,h7⟩:=h;exact⟨C2,x,h2,h4,h5,h6,h7⟩
theorem Yb{C C2:Cdb}{x:List Sv}{D':Dbp}{n':Nat}(h:CD w0.heap.size w g n C D)(k:CD w0.heap.size w g2 n2 C2 D2)(oP:∀b,C.own g b→¬C2.own g2 b)(hr:RD w0.heap.size w gr E.1 x)(hx:dO (sns x)=E.2)(hm:x.length≤m)(hb:Below w0.heap.size w0 w)(hs:StD w0.heap.size g n' C D' w w'):LB2 w0 w' g n' D' g2 n2 D2 gr m E∧Kc w w':=by
 have h2:=O5 h hb.size hs;have h3:=RM h hs;obtain⟨C',h1,hc,ho⟩:=hs;refine⟨⟨C',C2,x,h1,k.keep h3.kt fun b aA=>hc.block b (k.lt aA) (fun e=>oP b e aA),fun b aA ey=>?_,hr.kc h3,hx,hm,hb.trans h2⟩,h3⟩
 rcases ho b aA with e|e
 ·exact oP b e ey
 ·have:=k.lt ey;omega
theorem qal(h:LB w0 w g n D gr m E)(hn:n≤9000):
  Calls Tryz.prog 10 #[SL.ptr g] w fun e w'=>∃g2,e=.returned (SL.ptr g2)∧LB2 w0 w' g n D g2 n D gr m E∧Below w.heap.size w w':=by
 obtain⟨C,x,h1,k1,k2,k3,h2⟩:=h;refine(VG _ w g n C D h1 hn).mono ?_;rintro e w' ⟨g2,C2,he,hc,hb⟩;refine⟨g2,he,⟨C,C2,x,h1.below hb,⟨hc.bk,hc.sq,hc.mp,hc.tr,hc.no,hc.ap,hc.mo,fun b aA=>Nat.le_trans h2.size (hc.bs b aA)⟩,fun b aU aA=>?_,k1.below hb,k2,k3,h2.trans (hb.mono h2.size)⟩,hb⟩
 have:=h1.lt aU;have:=hc.bs b aA;omega
theorem qam(h:LB2 w0 w g n D g2 n2 D2 gr m E)(hn:n≤9000)(id:Int)(hi:I9 id)(cl kd:Int)(nm:ByteArray)(K V:Int)(kb:Bool)(mm:Int)(hw:Wq mm w)(aZ:nm.size≤1000)(hK:f7 K)(hV:f7 V)(k:Nat)(hI:ce D k)(hk:k≤9000)(R:Dbp×List Rw×Int)(hR:Ic D id cl kd nm K V kb (txB kd nm K V kb)=R):
  Calls Tryz.prog 11 #[SL.ptr g,.int .i64 id,.int .i64 cl,.agg #[.int .i64 kd,.string nm,.int .i64 K,.int .i64 V,.bool kb]] w fun e w'=>∃rv,e=.returned (.tuple #[rv,.int .i64 R.2.2])∧RQ w' rv R.2.1∧LB2 w0 w' g (n+1) R.1 g2 n2 D2 gr m E∧Kc w w':=by
 subst hR;obtain⟨C,C2,x,h1,h2,h3,h4,h5,h6,h7⟩:=h;refine(O4 _ w g n C D h1 hn h7.size id hi cl kd nm K V kb mm hw aZ hK hV k hI hk).mono ?_;rintro e w' ⟨rv,he,hq,hs⟩;obtain⟨a,b⟩:=Yb h1 h2 h3 h4 h5 h6 h7 hs;exact⟨rv,he,hq,a,b⟩
theorem qan(h:LB2 w0 w g n D g2 n2 D2 gr m E)(id:Int)(hi:I9 id):
  Calls Tryz.prog 8 #[SL.ptr g,.int .i64 id] w fun e w'=>e=.returned (.tuple #[])∧LB2 w0 w' g n (IS D id) g2 n2 D2 gr m E∧Kc w w':=by
 obtain⟨C,C2,x,h1,h2,h3,h4,h5,h6,h7⟩:=h;refine(Th _ w g n C D h1 h7.size id hi).mono ?_;rintro e w' ⟨he,hs⟩;exact⟨he,Yb h1 h2 h3 h4 h5 h6 h7 hs⟩
end
abbrev k9t:ByteArray:=⟨#[116]⟩
abbrev k9u:ByteArray:=⟨#[117]⟩
abbrev k9e:ByteArray:=⟨#[]⟩
def k9s:List Tb:=[(k9t,[])]
def k9r:List Tb:=[(k9t,[(1,2)])]
def qbZ:Dbp:=(k9s,fun _=>none)
def qao:Dbp:=(k9s,pi qbZ.2 1 (some (false,[])))
def Qz:Dbp:=(k9s,pi qao.2 1 (some (false,k9r)))
def QA:Dbp:=(k9r,pi Qz.2 1 none)
def qap:Dbp:=(k9r,pi QA.2 3 (some (false,[])))
def qaq:Dbp:=(k9r,pi qap.2 3 (some (true,[])))
theorem qcD:Ic qbZ 1 3 0 k9e 0 0 false (txB 0 k9e 0 0 false)=(qao,[],0):=by kernel_rfl
theorem qcE:Ic qao 1 2 2 k9t 1 2 true (txB 2 k9t 1 2 true)=(Qz,[],0):=by kernel_rfl
theorem qdl:Ic Qz 1 1 1 k9t 0 0 false (txB 1 k9t 0 0 false)=(Qz,[(1,2)],0):=by kernel_rfl
theorem qdm:Ic Qz 2 1 1 k9t 0 0 false (txB 1 k9t 0 0 false)=(Qz,[],0):=by kernel_rfl
theorem qcF:Ic Qz 1 4 0 k9e 0 0 false (txB 0 k9e 0 0 false)=(QA,[],0):=by kernel_rfl
theorem qdn:Ic QA 2 1 1 k9t 0 0 false (txB 1 k9t 0 0 false)=(QA,[(1,2)],0):=by kernel_rfl
theorem qdo:Ic QA 2 4 0 k9e 0 0 false (txB 0 k9e 0 0 false)=(QA,[],10):=by kernel_rfl
theorem qcG:Ic QA 3 3 0 k9e 0 0 false (txB 0 k9e 0 0 false)=(qap,[],0):=by kernel_rfl
theorem qcH:Ic qap 3 1 1 k9u 0 0 false (txB 1 k9u 0 0 false)=(qaq,[],8):=by kernel_rfl
theorem qcI:Ic qaq 3 1 1 k9t 0 0 false (txB 1 k9t 0 0 false)=(qaq,[],13):=by kernel_rfl
theorem qcJ:ce qbZ 0:=TG (s:=k9s) (by kernel_rfl)
theorem qcK:ce qao 1:=by
 have:=qcJ.runT 1 3 0 k9e 0 0 false;rw[qcD]at this;exact this
theorem Yc:ce Qz 2:=by
 have:=qcK.runT 1 2 2 k9t 1 2 true;rw[qcE]at this;exact this
theorem qar:ce QA 3:=by
 have:=Yc.runT 1 4 0 k9e 0 0 false;rw[qcF]at this;exact this
theorem qcL:ce qap 4:=by
 have:=qar.runT 3 3 0 k9e 0 0 false;rw[qcG]at this;exact this
theorem qdp:ce qaq 5:=by
 have:=qcL.runT 3 1 1 k9u 0 0 false;rw[qcH]at this;exact this
theorem IM(m:Int)(w:World)(hm:Wq m w):
  Calls Tryz.prog 5 #[] w fun e w'=>e=.returned (.bool true)∧Below w.heap.size w w':=by
 have HM:=qid hm;clear hm;go_enter Tryz.func5,Tryz.ntmps5;go_wp2_with fail;refine(Vp w).mono ?_;rintro e w1 ⟨v1,rfl,az,aU⟩;have B1:=qid aU;have HN:=qid (XH (w0:=w) v1 k9s az (by kernel_rfl) aU)
 obtain⟨a1,c1,rfl⟩:=az.form;clear az aU;go_wp2_with fail;refine HN.out.mono ?_;rintro e w2 ⟨g,rfl,gy,aA⟩;have HL:=qid gy;clear gy aA HN;go_wp2_with fail;obtain⟨W3,fL⟩:∃W,w2.alloc (.cells #[.string ⟨#[]⟩,.slice none 0 0] 55)=W:=⟨_,rfl⟩;have b3:Below w2.heap.size w2 W3:=by rw[←fL];exact(Below.refl _ _).alloc (Nat.le_refl _) _
 have k3:SL.Bk W3 w2.heap.size 55 #[.string ⟨#[]⟩,.slice none 0 0]:=by rw[←fL];exact SL.Bk.new _ _ _
 have ki:SR W3 (.slice (some ⟨w2.heap.size,0,none⟩) 1 1) [(k9e,[])]:=.inr ⟨w2.heap.size,0,1,rfl,by simp,fun i t hi=>by
  cases i with
  |zero=>
   simp at hi;subst hi;exact⟨k3.cell 0,.slice none 0 0,k3.cell 1,.inl ⟨_,_,rfl,rfl⟩⟩
  |succ i=>simp at hi⟩
 have HN:=qid (XG _ _ W3 ki (by kernel_rfl))
 have HL:=qid (HL.out.below b3);clear b3 k3 ki;rw[fL];refine HN.out.mono ?_;rintro e w4 ⟨rfl,ai⟩;have HL:=qid (HL.out.below ai);clear ai HN fL;go_wp2_with fail;obtain⟨W5,ir⟩:∃W,w4.alloc (.cells #[.int .i64 1,.string ⟨#[116]⟩,.int .i64 0,.int .i64 0,.bool false] 34)=W:=⟨_,rfl⟩;obtain⟨cb,an⟩:∃b,w4.heap.size=b:=⟨_,rfl⟩;have b5:Below w4.heap.size w4 W5:=by rw[←ir];exact(Below.refl _ _).alloc (Nat.le_refl _) _
 have k5:SL.Bk W5 cb 34 #[.int .i64 1,.string ⟨#[116]⟩,.int .i64 0,.int .i64 0,.bool false]:=by rw[←ir,←an];exact SL.Bk.new _ _ _
 have HL:=qid (HL.out.below b5);have KB:=qid k5;clear b5 k5
 try rw[ir]
 try rw[an]
 clear ir an;have y0:W5.cell? ⟨cb,0,none⟩=some (.int .i64 1):=KB.out.cell 0;have y1:W5.cell? ⟨cb,1,none⟩=some (.string ⟨#[116]⟩):=KB.out.cell 1;have y2:W5.cell? ⟨cb,2,none⟩=some (.int .i64 0):=KB.out.cell 2;have y3:W5.cell? ⟨cb,3,none⟩=some (.int .i64 0):=KB.out.cell 3;have y4:W5.cell? ⟨cb,4,none⟩=some (.bool false):=KB.out.cell 4;refine(Ja HL.out (by decide) 1 (by decide) 3 0 k9e 0 0 false m (Gz HM.out HL.out.bel) (by decide) (by unfold f7;decide) (by unfold f7;decide) _ qcJ (by decide) _ qcD).mono ?_
 rintro e w6 ⟨r1,rfl,hq,hl,hk⟩;have HL:=qid hl;have KB:=qid (I0 KB.out hk (by decide) (by decide))
 have R1:Hid (RQ w6 r1 []):=qid hq;clear hq hl hk y0 y1 y2 y3 y4;obtain⟨G7,G8,rfl⟩:=R1.out.form;have y0:w6.cell? ⟨cb,0,none⟩=some (.int .i64 1):=KB.out.cell 0;have y1:w6.cell? ⟨cb,1,none⟩=some (.string ⟨#[116]⟩):=KB.out.cell 1;have y2:w6.cell? ⟨cb,2,none⟩=some (.int .i64 0):=KB.out.cell 2;have y3:w6.cell? ⟨cb,3,none⟩=some (.int .i64 0):=KB.out.cell 3;have y4:w6.cell? ⟨cb,4,none⟩=some (.bool false):=KB.out.cell 4;go_wp2_with fail;refine(Ja HL.out (by decide) 1 (by decide) 2 2 k9t 1 2 true m (Gz HM.out HL.out.bel) (by decide) (by unfold f7;decide) (by unfold f7;decide) _ qcK (by decide) _ qcE).mono ?_
 rintro e w7 ⟨r2,rfl,hq,hl,hk⟩;have HL:=qid hl;have KB:=qid (I0 KB.out hk (by decide) (by decide))
 have R1:=qid (R1.out.kt hk.kt);have R2:Hid (RQ w7 r2 []):=qid hq;clear hq hl hk y0 y1 y2 y3 y4;obtain⟨G9,G',rfl⟩:=R2.out.form;have y0:w7.cell? ⟨cb,0,none⟩=some (.int .i64 1):=KB.out.cell 0;have y1:w7.cell? ⟨cb,1,none⟩=some (.string ⟨#[116]⟩):=KB.out.cell 1;have y2:w7.cell? ⟨cb,2,none⟩=some (.int .i64 0):=KB.out.cell 2;have y3:w7.cell? ⟨cb,3,none⟩=some (.int .i64 0):=KB.out.cell 3;have y4:w7.cell? ⟨cb,4,none⟩=some (.bool false):=KB.out.cell 4;go_wp2_with fail;refine(Ja HL.out (by decide) 1 (by decide) 1 1 k9t 0 0 false m (Gz HM.out HL.out.bel) (by decide) (by unfold f7;decide) (by unfold f7;decide) _ Yc (by decide) _ qdl).mono ?_
 rintro e w8 ⟨r3,rfl,hq,hl,hk⟩;have HL:=qid hl;have KB:=qid (I0 KB.out hk (by decide) (by decide))
 have R1:=qid (R1.out.kt hk.kt);have R2:=qid (R2.out.kt hk.kt);have R3:Hid (RQ w8 r3 [(1,2)]):=qid hq;clear hq hl hk y0 y1 y2 y3 y4;obtain⟨GA,GB,rfl⟩:=R3.out.form;have y0:w8.cell? ⟨cb,0,none⟩=some (.int .i64 1):=KB.out.cell 0;have y1:w8.cell? ⟨cb,1,none⟩=some (.string ⟨#[116]⟩):=KB.out.cell 1;have y2:w8.cell? ⟨cb,2,none⟩=some (.int .i64 0):=KB.out.cell 2;have y3:w8.cell? ⟨cb,3,none⟩=some (.int .i64 0):=KB.out.cell 3;have y4:w8.cell? ⟨cb,4,none⟩=some (.bool false):=KB.out.cell 4;go_wp2_with fail;refine(Ja HL.out (by decide) 2 (by decide) 1 1 k9t 0 0 false m (Gz HM.out HL.out.bel) (by decide) (by unfold f7;decide) (by unfold f7;decide) _ Yc (by decide) _ qdm).mono ?_
 rintro e w9 ⟨r4,rfl,hq,hl,hk⟩;have HL:=qid hl;have KB:=qid (I0 KB.out hk (by decide) (by decide))
 have R1:=qid (R1.out.kt hk.kt);have R2:=qid (R2.out.kt hk.kt);have R3:=qid (R3.out.kt hk.kt);have R4:Hid (RQ w9 r4 []):=qid hq;clear hq hl hk y0 y1 y2 y3 y4;obtain⟨GC,GD,rfl⟩:=R4.out.form;have y0:w9.cell? ⟨cb,0,none⟩=some (.int .i64 1):=KB.out.cell 0;have y1:w9.cell? ⟨cb,1,none⟩=some (.string ⟨#[116]⟩):=KB.out.cell 1;have y2:w9.cell? ⟨cb,2,none⟩=some (.int .i64 0):=KB.out.cell 2;have y3:w9.cell? ⟨cb,3,none⟩=some (.int .i64 0):=KB.out.cell 3;have y4:w9.cell? ⟨cb,4,none⟩=some (.bool false):=KB.out.cell 4;go_wp2_with fail;refine(TF HL.out (by decide) Yc 1 (by decide) [k9t] rfl).mono ?_
 rintro e sl ⟨vw,rfl,ho,hb⟩;have HL:=qid (HL.out.below hb);have KB:=qid (f9 KB.out hb);have R1:=qid (R1.out.bel hb);have R2:=qid (R2.out.bel hb);have R3:=qid (R3.out.bel hb);have R4:=qid (R4.out.bel hb);have HW:Hid (SL.OT w9.heap.size sl vw [k9t]):=qid ho;clear ho hb y0 y1 y2 y3 y4;obtain⟨wa,wc,rfl⟩:=OT.ln HW.out;have y0:sl.cell? ⟨cb,0,none⟩=some (.int .i64 1):=KB.out.cell 0;have y1:sl.cell? ⟨cb,1,none⟩=some (.string ⟨#[116]⟩):=KB.out.cell 1;have y2:sl.cell? ⟨cb,2,none⟩=some (.int .i64 0):=KB.out.cell 2;have y3:sl.cell? ⟨cb,3,none⟩=some (.int .i64 0):=KB.out.cell 3;have y4:sl.cell? ⟨cb,4,none⟩=some (.bool false):=KB.out.cell 4;go_wp2_with fail;refine(Mc HL.out 1 (by decide) 84 (by kernel_rfl)).mono ?_
 rintro e w' ⟨rfl,rfl⟩;go_wp2_with fail;refine(Ja HL.out (by decide) 1 (by decide) 4 0 k9e 0 0 false m (Gz HM.out HL.out.bel) (by decide) (by unfold f7;decide) (by unfold f7;decide) _ Yc (by decide) _ qcF).mono ?_
 rintro e sn ⟨r5,rfl,hq,hl,hk⟩;have HL:=qid hl;have KB:=qid (I0 KB.out hk (by decide) (by decide))
 have R1:=qid (R1.out.kt hk.kt);have R2:=qid (R2.out.kt hk.kt);have R3:=qid (R3.out.kt hk.kt);have R4:=qid (R4.out.kt hk.kt);have HW:=qid (OT.kc HW.out hk);have R5:Hid (RQ sn r5 []):=qid hq;clear hq hl hk y0 y1 y2 y3 y4;obtain⟨GF,GG,rfl⟩:=R5.out.form;have y0:sn.cell? ⟨cb,0,none⟩=some (.int .i64 1):=KB.out.cell 0;have y1:sn.cell? ⟨cb,1,none⟩=some (.string ⟨#[116]⟩):=KB.out.cell 1;have y2:sn.cell? ⟨cb,2,none⟩=some (.int .i64 0):=KB.out.cell 2;have y3:sn.cell? ⟨cb,3,none⟩=some (.int .i64 0):=KB.out.cell 3;have y4:sn.cell? ⟨cb,4,none⟩=some (.bool false):=KB.out.cell 4;go_wp2_with fail;refine(Ja HL.out (by decide) 2 (by decide) 1 1 k9t 0 0 false m (Gz HM.out HL.out.bel) (by decide) (by unfold f7;decide) (by unfold f7;decide) _ qar (by decide) _ qdn).mono ?_
 rintro e so ⟨r6,rfl,hq,hl,hk⟩;have HL:=qid hl;have KB:=qid (I0 KB.out hk (by decide) (by decide))
 have R1:=qid (R1.out.kt hk.kt);have R2:=qid (R2.out.kt hk.kt);have R3:=qid (R3.out.kt hk.kt);have R4:=qid (R4.out.kt hk.kt);have R5:=qid (R5.out.kt hk.kt);have HW:=qid (OT.kc HW.out hk);have R6:Hid (RQ so r6 [(1,2)]):=qid hq;clear hq hl hk y0 y1 y2 y3 y4;obtain⟨GH,GI,rfl⟩:=R6.out.form;have y0:so.cell? ⟨cb,0,none⟩=some (.int .i64 1):=KB.out.cell 0;have y1:so.cell? ⟨cb,1,none⟩=some (.string ⟨#[116]⟩):=KB.out.cell 1;have y2:so.cell? ⟨cb,2,none⟩=some (.int .i64 0):=KB.out.cell 2;have y3:so.cell? ⟨cb,3,none⟩=some (.int .i64 0):=KB.out.cell 3;have y4:so.cell? ⟨cb,4,none⟩=some (.bool false):=KB.out.cell 4;go_wp2_with fail;refine(Ja HL.out (by decide) 2 (by decide) 4 0 k9e 0 0 false m (Gz HM.out HL.out.bel) (by decide) (by unfold f7;decide) (by unfold f7;decide) _ qar (by decide) _ qdo).mono ?_
 rintro e su ⟨r7,rfl,hq,hl,hk⟩;have HL:=qid hl;have KB:=qid (I0 KB.out hk (by decide) (by decide))
 have R1:=qid (R1.out.kt hk.kt);have R2:=qid (R2.out.kt hk.kt);have R3:=qid (R3.out.kt hk.kt);have R4:=qid (R4.out.kt hk.kt);have R5:=qid (R5.out.kt hk.kt);have R6:=qid (R6.out.kt hk.kt);have HW:=qid (OT.kc HW.out hk);have R7:Hid (RQ su r7 []):=qid hq;clear hq hl hk y0 y1 y2 y3 y4;obtain⟨GJ,GK,rfl⟩:=R7.out.form;have y0:su.cell? ⟨cb,0,none⟩=some (.int .i64 1):=KB.out.cell 0;have y1:su.cell? ⟨cb,1,none⟩=some (.string ⟨#[116]⟩):=KB.out.cell 1;have y2:su.cell? ⟨cb,2,none⟩=some (.int .i64 0):=KB.out.cell 2;have y3:su.cell? ⟨cb,3,none⟩=some (.int .i64 0):=KB.out.cell 3;have y4:su.cell? ⟨cb,4,none⟩=some (.bool false):=KB.out.cell 4;go_wp2_with fail;refine(Ja HL.out (by decide) 3 (by decide) 3 0 k9e 0 0 false m (Gz HM.out HL.out.bel) (by decide) (by unfold f7;decide) (by unfold f7;decide) _ qar (by decide) _ qcG).mono ?_
 rintro e sw ⟨r8,rfl,hq,hl,hk⟩;have HL:=qid hl;have KB:=qid (I0 KB.out hk (by decide) (by decide))
 have R1:=qid (R1.out.kt hk.kt);have R2:=qid (R2.out.kt hk.kt);have R3:=qid (R3.out.kt hk.kt);have R4:=qid (R4.out.kt hk.kt);have R5:=qid (R5.out.kt hk.kt);have R6:=qid (R6.out.kt hk.kt);have R7:=qid (R7.out.kt hk.kt);have HW:=qid (OT.kc HW.out hk);have R8:Hid (RQ sw r8 []):=qid hq;clear hq hl hk y0 y1 y2 y3 y4;obtain⟨GL,GM,rfl⟩:=R8.out.form;have y0:sw.cell? ⟨cb,0,none⟩=some (.int .i64 1):=KB.out.cell 0;have y1:sw.cell? ⟨cb,1,none⟩=some (.string ⟨#[116]⟩):=KB.out.cell 1;have y2:sw.cell? ⟨cb,2,none⟩=some (.int .i64 0):=KB.out.cell 2;have y3:sw.cell? ⟨cb,3,none⟩=some (.int .i64 0):=KB.out.cell 3;have y4:sw.cell? ⟨cb,4,none⟩=some (.bool false):=KB.out.cell 4;go_wp2_with fail;refine(Ja HL.out (by decide) 3 (by decide) 1 1 k9u 0 0 false m (Gz HM.out HL.out.bel) (by decide) (by unfold f7;decide) (by unfold f7;decide) _ qcL (by decide) _ qcH).mono ?_
 rintro e sx ⟨r9,rfl,hq,hl,hk⟩;have HL:=qid hl;have KB:=qid (I0 KB.out hk (by decide) (by decide))
 have R1:=qid (R1.out.kt hk.kt);have R2:=qid (R2.out.kt hk.kt);have R3:=qid (R3.out.kt hk.kt);have R4:=qid (R4.out.kt hk.kt);have R5:=qid (R5.out.kt hk.kt);have R6:=qid (R6.out.kt hk.kt);have R7:=qid (R7.out.kt hk.kt);have R8:=qid (R8.out.kt hk.kt);have HW:=qid (OT.kc HW.out hk);have R9:Hid (RQ sx r9 []):=qid hq;clear hq hl hk y0 y1 y2 y3 y4;obtain⟨GN,GO,rfl⟩:=R9.out.form;have y0:sx.cell? ⟨cb,0,none⟩=some (.int .i64 1):=KB.out.cell 0;have y1:sx.cell? ⟨cb,1,none⟩=some (.string ⟨#[116]⟩):=KB.out.cell 1;have y2:sx.cell? ⟨cb,2,none⟩=some (.int .i64 0):=KB.out.cell 2;have y3:sx.cell? ⟨cb,3,none⟩=some (.int .i64 0):=KB.out.cell 3;have y4:sx.cell? ⟨cb,4,none⟩=some (.bool false):=KB.out.cell 4;go_wp2_with fail;refine(Ja HL.out (by decide) 3 (by decide) 1 1 k9t 0 0 false m (Gz HM.out HL.out.bel) (by decide) (by unfold f7;decide) (by unfold f7;decide) _ qdp (by decide) _ qcI).mono ?_
 rintro e mZ ⟨Ek,rfl,hq,hl,hk⟩;have HL:=qid hl;have KB:=qid (I0 KB.out hk (by decide) (by decide))
 have R1:=qid (R1.out.kt hk.kt);have R2:=qid (R2.out.kt hk.kt);have R3:=qid (R3.out.kt hk.kt);have R4:=qid (R4.out.kt hk.kt);have R5:=qid (R5.out.kt hk.kt);have R6:=qid (R6.out.kt hk.kt);have R7:=qid (R7.out.kt hk.kt);have R8:=qid (R8.out.kt hk.kt);have R9:=qid (R9.out.kt hk.kt);have HW:=qid (OT.kc HW.out hk);have El:Hid (RQ mZ Ek []):=qid hq;clear hq hl hk y0 y1 y2 y3 y4;obtain⟨Em,En,rfl⟩:=El.out.form;have y0:mZ.cell? ⟨cb,0,none⟩=some (.int .i64 1):=KB.out.cell 0;have y1:mZ.cell? ⟨cb,1,none⟩=some (.string ⟨#[116]⟩):=KB.out.cell 1;have y2:mZ.cell? ⟨cb,2,none⟩=some (.int .i64 0):=KB.out.cell 2;have y3:mZ.cell? ⟨cb,3,none⟩=some (.int .i64 0):=KB.out.cell 3;have y4:mZ.cell? ⟨cb,4,none⟩=some (.bool false):=KB.out.cell 4;have z1:(k9t:ByteArray).toList=[116]:=by rw[Lib.toList_data]
 clear y0 y1 y2 y3 y4;go_wp2_with fail;obtain⟨W8,xR⟩:∃W,mZ.alloc (.cells #[.int .i64 1,.int .i64 2] 57)=W:=⟨_,rfl⟩;have b8:Below mZ.heap.size mZ W8:=by rw[←xR];exact(Below.refl _ _).alloc (Nat.le_refl _) _
 have k8:SL.Bk W8 mZ.heap.size 57 #[.int .i64 1,.int .i64 2]:=by rw[←xR];exact SL.Bk.new _ _ _
 have Bz:RR W8 (.slice (some ⟨mZ.heap.size,0,none⟩) 1 1) [(1,2)]:=.inr ⟨_,0,1,rfl,by simp,fun i r hi=>by
  cases i with
  |zero=>simp at hi;subst hi;exact⟨k8.cell 0,k8.cell 1⟩
  |succ i=>simp at hi⟩
 have HX:=qid (XN _ _ _ _ true (by decide) W8 (R3.out.bel b8).rr Bz (by decide))
 have HL:=qid (HL.out.below b8);have HW:=qid (HW.out.keep fun g hg=>b8.block g (World.ownsRow.lt HW.out g hg).2)
 have R3:=qid (R3.out.bel b8);have R6:=qid (R6.out.bel b8);clear b8 k8 Bz;rw[xR];refine HX.out.mono ?_;rintro e wF ⟨rfl,hb⟩;have HL:=qid (HL.out.below hb);have HW:=qid (HW.out.keep fun g hg=>hb.block g (World.ownsRow.lt HW.out g hg).2)
 have R3:=qid (R3.out.bel hb);have R6:=qid (R6.out.bel hb);clear hb xR HX;go_wp2_with fail;obtain⟨W9,nf⟩:∃W,wF.alloc (.cells #[.string ⟨#[116]⟩] 9)=W:=⟨_,rfl⟩;have b9:Below wF.heap.size wF W9:=by rw[←nf];exact(Below.refl _ _).alloc (Nat.le_refl _) _
 have k9:SL.Bk W9 wF.heap.size 9 #[.string ⟨#[116]⟩]:=by rw[←nf];exact SL.Bk.new _ _ _
 have C0:SL.TS W9 (.slice (some ⟨wF.heap.size,0,none⟩) 1 1) [k9t]:=.inr ⟨_,0,1,rfl,by simp,fun i r hi=>by
  cases i with
  |zero=>simp at hi;subst hi;exact k9.cell 0
  |succ i=>simp at hi⟩
 have HW:=qid (HW.out.keep fun g hg=>b9.block g (World.ownsRow.lt HW.out g hg).2)
 have HX:=qid (XM _ _ [k9t] [k9t] true (by decide) W9 HW.out.ts C0 (by decide) (by decide))
 have HL:=qid (HL.out.below b9);have R3:=qid (R3.out.bel b9);have R6:=qid (R6.out.bel b9);clear b9 k9 C0;rw[nf];refine HX.out.mono ?_;rintro e Eo ⟨rfl,hb⟩;have HL:=qid (HL.out.below hb);have R3:=qid (R3.out.bel hb);have R6:=qid (R6.out.bel hb);clear hb nf HX;go_wp2_with fail;have HX:=qid (XN _ _ _ _ true (by decide) Eo R6.out.rr R3.out.rr (by decide))
 refine HX.out.mono ?_;rintro e GQ ⟨rfl,hb⟩;have HL:=qid (HL.out.below hb);clear hb HX;go_wp2_with fail;refine(Mc HL.out 3 (by decide) 69 (by kernel_rfl)).mono ?_
 rintro e w' ⟨rfl,rfl⟩;go_wp2_with fail;refine(Mc HL.out (-1) (by decide) 0 (by kernel_rfl)).mono ?_
 rintro e w' ⟨rfl,rfl⟩;go_wp2;go_ret;exact⟨rfl,HL.out.bel⟩
end Go.Proofs.YtpgddamhdfmdjaaGreatDoor
namespace Go.Proofs.YtpgddamhdfmdjaaGreatDoor
open Go.Deep Go.Maps
open Go.ChangeShapes Go.WideShapes Go.ChangeAt Go.RowKit Go.ChangeMaps
section
variable {H:Type} {enc:TypeId×Value→H} {W:World}
theorem Sj{α:Type}{ts te:TypeId}{m:Nat}{Q:α→List Value→Prop}(hu:Tryz.prog.underlying ts=some (.slice te))(hC:Tryz.prog.cellsOf te=m)(one:∀ {n:Nat} {cs:List Value} {x:DataW H×List MemPlace},DataW.trod enc Tryz.prog W 0 (fun _=>true) true n te cs=some x→∃a:α,Q a cs){fuel:Nat}{c:Value}{x:DataW H×List MemPlace}(h:DataW.trod enc Tryz.prog W 0 (fun _=>true) true fuel ts [c]=some x):
  c=.slice none 0 0∨∃(l:List α) (ad:Addr) (cap:Nat),c=.slice (some ad) l.length cap∧l.length≤cap∧∀(i:Nat) (a:α),l[i]? =some a→∃cs,Q a cs∧cs.length=m∧∀j,j<m→W.cell? ((ad.add (i*m)).add j)=cs[j]? :=by
 rcases open_slice hu h with⟨e,_⟩|⟨ad,len,cap,k,n,D,Pl,gC,hb,hl,hm,pc,hx,hi⟩
 ·injection e with e _
  exact .inl e
 ·injection gC with gC _
  subst gC;rw[hC]at hi;have ET:len≤k:=by rw[pc];simp;exact hl
  have key:∀j,j≤len→∃l:List α,l.length=j∧∀(i:Nat) (a:α),l[i]? =some a→∃cs,Q a cs∧cs.length=m∧∀j,j<m→W.cell? ((ad.add (i*m)).add j)=cs[j]? :=by
   intro j
   induction j with
   |zero=>intro _;exact⟨[],rfl,fun i x hi=>by simp at hi⟩
   |succ j ih=>
    intro hj;obtain⟨l,h1,h2⟩:=ih (by omega)
    obtain⟨mv,hc,ht⟩:=hi j (by omega)
    obtain⟨_,kP,al⟩:=World.cells?_some hc;obtain⟨a,hq⟩:=one ht;refine⟨l++[a],by simp[h1],fun i x gw=>?_⟩
    by_cases eT:i<l.length
    ·rw[List.getElem?_append_left eT]at gw
     exact h2 i x gw
    ·have aD:=(List.getElem?_eq_some_iff.1 gw).1
     have uT:i=j:=by simp at aD;omega
     subst uT;rw[List.getElem?_append_right (by omega),h1,Nat.sub_self]at gw
     simp at gw;subst gw;exact⟨mv,hq,kP,fun q gG=>al q gG⟩
  obtain⟨l,h1,h2⟩:=key len (Nat.le_refl _);exact .inr ⟨l,ad,cap,by rw[h1],by omega,h2⟩
theorem Od:Tryz.prog.cellsOf 34=5:=by kernel_rfl
def cmB(c:Cm):Prop:=f7 c.1∧f7 c.2.2.1∧f7 c.2.2.2.1
theorem Yd{n:Nat}{cs:List Value}{x:DataW H×List MemPlace}(ht:DataW.trod enc Tryz.prog W 0 (fun _=>true) true n 34 cs=some x):
  ∃c:Cm,cs=[.int .i64 c.1,.string c.2.1,.int .i64 c.2.2.1,.int .i64 c.2.2.2.1,.bool c.2.2.2.2]∧cmB c:=by
 obtain⟨xs,m,_,hx,hl,eE,hf⟩:=DataW.trod_struct Tryz.underlying34 ht;rw[Od]at hl
 match cs,hl with
 | [c0,c1,c2,c3,c4],_=>
 match xs,eE with
 | [y0,y1,y2,y3,y4],_=>
   have h0:DataW.trod enc Tryz.prog W 0 (fun _=>true) true m 3 (List.take (Tryz.prog.cellsOf 3) (List.drop 0 [c0,c1,c2,c3,c4]))=some y0:=hf 0 _ rfl
   have h1:DataW.trod enc Tryz.prog W 0 (fun _=>true) true m 9 (List.take (Tryz.prog.cellsOf 9) (List.drop 1 [c0,c1,c2,c3,c4]))=some y1:=hf 1 _ rfl
   have h2:DataW.trod enc Tryz.prog W 0 (fun _=>true) true m 3 (List.take (Tryz.prog.cellsOf 3) (List.drop 2 [c0,c1,c2,c3,c4]))=some y2:=hf 2 _ rfl
   have h3:DataW.trod enc Tryz.prog W 0 (fun _=>true) true m 3 (List.take (Tryz.prog.cellsOf 3) (List.drop 3 [c0,c1,c2,c3,c4]))=some y3:=hf 3 _ rfl
   have h4:DataW.trod enc Tryz.prog W 0 (fun _=>true) true m 4 (List.take (Tryz.prog.cellsOf 4) (List.drop 4 [c0,c1,c2,c3,c4]))=some y4:=hf 4 _ rfl
   rw[O7]at h0 h2 h3;rw[TL]at h1;rw[X6]at h4;obtain⟨x0,e0,_,w0⟩:=DataW.trod_int Tryz.underlying3 h0;obtain⟨x1,e1,_,_⟩:=DataW.trod_string Tryz.underlying9 h1;obtain⟨x2,e2,_,w2⟩:=DataW.trod_int Tryz.underlying3 h2;obtain⟨x3,e3,_,w3⟩:=DataW.trod_int Tryz.underlying3 h3;obtain⟨x4,e4,_⟩:=DataW.trod_bool Tryz.underlying4 h4;injection e0 with e0 _;injection e1 with e1 _;injection e2 with e2 _;injection e3 with e3 _;injection e4 with e4 _;subst e0 e1 e2 e3 e4;exact⟨(x0,x1,x2,x3,x4),rfl,LG _ w0,LG _ w2,LG _ w3⟩
abbrev Op9:Type:=Int×Int×Cm
def qas(o:Op9):Prop:=f7 o.1∧f7 o.2.1∧cmB o.2.2
theorem qat{n:Nat}{cs:List Value}{x:DataW H×List MemPlace}(ht:DataW.trod enc Tryz.prog W 0 (fun _=>true) true n 36 cs=some x):
  ∃o:Op9,cs=[.int .i64 o.1,.int .i64 o.2.1,.int .i64 o.2.2.1,.string o.2.2.2.1,.int .i64 o.2.2.2.2.1,.int .i64 o.2.2.2.2.2.1,.bool o.2.2.2.2.2.2]∧qas o:=by
 obtain⟨xs,m,_,hx,hl,eE,hf⟩:=DataW.trod_struct Tryz.underlying36 ht;rw[show Tryz.prog.cellsOf 36=7 by kernel_rfl]at hl
 match cs,hl with
 | [c0,c1,c2,c3,c4,c5,c6],_=>
 match xs,eE with
 | [y0,y1,y2],_=>
   have h0:DataW.trod enc Tryz.prog W 0 (fun _=>true) true m 3 (List.take (Tryz.prog.cellsOf 3) (List.drop 0 [c0,c1,c2,c3,c4,c5,c6]))=some y0:=hf 0 _ rfl
   have h1:DataW.trod enc Tryz.prog W 0 (fun _=>true) true m 3 (List.take (Tryz.prog.cellsOf 3) (List.drop 1 [c0,c1,c2,c3,c4,c5,c6]))=some y1:=hf 1 _ rfl
   have h2:DataW.trod enc Tryz.prog W 0 (fun _=>true) true m 34 (List.take (Tryz.prog.cellsOf 34) (List.drop 2 [c0,c1,c2,c3,c4,c5,c6]))=some y2:=hf 2 _ rfl
   rw[O7]at h0 h1;rw[Od]at h2;obtain⟨x0,e0,_,w0⟩:=DataW.trod_int Tryz.underlying3 h0;obtain⟨x1,e1,_,w1⟩:=DataW.trod_int Tryz.underlying3 h1;obtain⟨c,e2,hb⟩:=Yd h2;injection e0 with e0 _;injection e1 with e1 _;injection e2 with f0 e2;injection e2 with f1 e2;injection e2 with f2 e2;injection e2 with f3 e2;injection e2 with f4 _;subst e0 e1 f0 f1 f2 f3 f4;exact⟨(x0,x1,c),rfl,LG _ w0,LG _ w1,hb⟩
def OsR(w:World)(v:Value)(l:List Op9):Prop:=
 (∃a cap,l=[]∧v=.slice a 0 cap)∨∃g off cap,v=.slice (some ⟨g,off,none⟩) l.length cap∧l.length≤cap∧∀(i:Nat) (o:Op9),l[i]? =some o→qas o∧w.cell? ⟨g,off+i*7,none⟩=some (.int .i64 o.1)∧w.cell? ⟨g,off+i*7+1,none⟩=some (.int .i64 o.2.1)∧w.cell? ⟨g,off+i*7+2,none⟩=some (.int .i64 o.2.2.1)∧w.cell? ⟨g,off+i*7+3,none⟩=some (.string o.2.2.2.1)∧w.cell? ⟨g,off+i*7+4,none⟩=some (.int .i64 o.2.2.2.2.1)∧w.cell? ⟨g,off+i*7+5,none⟩=some (.int .i64 o.2.2.2.2.2.1)∧w.cell? ⟨g,off+i*7+6,none⟩=some (.bool o.2.2.2.2.2.2)
def Sk(W:World)(v:Value):Prop:=∃l,OsR W v l
theorem Ye{base:Nat}{v:Value}{d:DataW H}{p:List MemPlace}(hv:Value.okWide Tryz.prog W .any base 23 v)(h:DataW.Trod enc Tryz.prog W 0 (fun _=>true) true 23 v d p)(hz:(DataW.weights Tryz.prog 23 d).all (· ≤reachBytes)=true):Sk W v:=by
 obtain⟨a,ln,cp,rfl⟩:=okWide_slice Tryz.underlying23 hv;obtain⟨fuel,hf⟩:=h;rcases Sj (α:=Op9) (m:=7) (Q:=fun o cs=>cs=[.int .i64 o.1,.int .i64 o.2.1,.int .i64 o.2.2.1,.string o.2.2.2.1,.int .i64 o.2.2.2.2.1,.int .i64 o.2.2.2.2.2.1,.bool o.2.2.2.2.2.2]∧qas o) Tryz.underlying23 (by kernel_rfl) (fun ht=>qat ht) hf with e|⟨l,ad,cap,e,hc,h2⟩
 ·rw[e];exact⟨[],.inl ⟨_,_,rfl,rfl⟩⟩
 ·rw[e]
  refine⟨l,?_⟩
  by_cases h0:l=[]
  ·subst h0;exact .inl ⟨_,_,rfl,rfl⟩
  ·obtain⟨x,j5⟩:∃x,l[0]? =some x:=⟨l[0]'(by cases l;exact absurd rfl h0;simp),List.getElem?_eq_getElem _⟩
   obtain⟨cs,⟨rfl,_⟩,_,al⟩:=h2 0 x j5;have c0:=al 0 (by omega)
   have e0:(ad.add (0*7)).add 0=ad:=by simp[Addr.add]
   rw[e0]at c0;have vq:=N7 c0;obtain⟨bl,of,sp⟩:=ad;simp only at vq;subst vq;refine .inr ⟨bl,of,cap,rfl,hc,fun i o hy=>?_⟩
   obtain⟨cs,⟨rfl,hb⟩,_,al⟩:=h2 i o hy;have a0:=al 0 (by omega)
   have a1:=al 1 (by omega)
   have a2:=al 2 (by omega)
   have a3:=al 3 (by omega)
   have a4:=al 4 (by omega)
   have a5:=al 5 (by omega)
   have a6:=al 6 (by omega)
   simp only[Addr.add_lit,Nat.add_zero]at a0 a1 a2 a3 a4 a5 a6;exact⟨hb,a0,a1,a2,a3,a4,a5,a6⟩
theorem OsR.below{w w':World}{v:Value}{l:List Op9}(h:OsR w v l)(hb:Below w.heap.size w w'):OsR w' v l:=by
 have hk:∀(p:Addr) (u:Value),w.cell? p=some u→w'.cell? p=some u:=fun p u hp=>(hb.cell (World.block_lt_of_cell? w p hp)).trans hp
 rcases h with h|⟨g,off,cap,e,hc,hx⟩
 ·exact .inl h
 ·exact .inr ⟨g,off,cap,e,hc,fun i o hi=>by
   obtain⟨h0,h1,h2,h3,h4,h5,h6,h7⟩:=hx i o hi;exact⟨h0,hk _ _ h1,hk _ _ h2,hk _ _ h3,hk _ _ h4,hk _ _ h5,hk _ _ h6,hk _ _ h7⟩⟩
theorem OsR.form{w:World}{v:Value}{l:List Op9}(h:OsR w v l):∃a cap,v=.slice a l.length cap:=by
 rcases h with⟨a,cap,rfl,rfl⟩|⟨g,off,cap,rfl,_⟩
 ·exact⟨_,_,rfl⟩
 ·exact⟨_,_,rfl⟩
theorem OsR.inv{w:World}{v:Value}{l:List Op9}(h:OsR w v l)(hp:0<l.length):∃g off cap,v=.slice (some ⟨g,off,none⟩) l.length cap∧l.length≤cap∧∀(i:Nat) (o:Op9),l[i]? =some o→qas o∧w.cell? ⟨g,off+i*7,none⟩=some (.int .i64 o.1)∧w.cell? ⟨g,off+i*7+1,none⟩=some (.int .i64 o.2.1)∧w.cell? ⟨g,off+i*7+2,none⟩=some (.int .i64 o.2.2.1)∧w.cell? ⟨g,off+i*7+3,none⟩=some (.string o.2.2.2.1)∧w.cell? ⟨g,off+i*7+4,none⟩=some (.int .i64 o.2.2.2.2.1)∧w.cell? ⟨g,off+i*7+5,none⟩=some (.int .i64 o.2.2.2.2.2.1)∧w.cell? ⟨g,off+i*7+6,none⟩=some (.bool o.2.2.2.2.2.2):=by
 rcases h with⟨a,cap,rfl,rfl⟩|h
 ·simp at hp
 ·exact h
end
theorem QB(v l:Value)(s:List Tb)(L:List Op9)(m:Int)(w:World)(hm:Wq m w)(hs:SR w v s)(hL:OsR w l L)(hl:IL s=false):
  Calls Tryz.prog 3 #[v,l] w fun e w'=>e=.returned (.bool true)∧Below w.heap.size w w':=by
 obtain⟨HM,HS,iB⟩:=hZ3 hm hs hL;obtain⟨va,vc,rfl⟩:=hs.form;obtain⟨la,lc,rfl⟩:=hL.form;clear hm hs hL;go_enter Tryz.func3,Tryz.ntmps3;go_wp2_with fail;refine(RT _ s false hl w HS.out).mono ?_;rintro e w1 ⟨rfl,hb⟩;have HB:=qid hb;clear hb;go_wp2_with fail;refine(IM m _ (Gz HM.out HB.out)).mono ?_;rintro e w9 ⟨rfl,hb⟩;have HB:=qid ((HB.out).trans (hb.mono (HB.out).size));clear hb;go_wp2;go_ret;exact⟨rfl,HB.out⟩
theorem QC(v l:Value)(s:List Tb)(L:List Op9)(m:Int)(w:World)(hm:Wq m w)(hs:SR w v s)(hL:OsR w l L)(hl:IL s=true)(hr:wt s=false):
  Calls Tryz.prog 3 #[v,l] w fun e w'=>e=.returned (.bool true)∧Below w.heap.size w w':=by
 obtain⟨HM,HS,iB⟩:=hZ3 hm hs hL;obtain⟨va,vc,rfl⟩:=hs.form;obtain⟨la,lc,rfl⟩:=hL.form;have cy:=qid hr;have sj:=qid (MX hl);clear hm hs hL hr;go_enter Tryz.func3,Tryz.ntmps3;go_wp2_with fail;refine(RT _ s true hl w HS.out).mono ?_;rintro e w1 ⟨rfl,hb⟩;have HB:=qid hb;clear hb;go_wp2_with fail;refine(XG _ s w1 (HS.out.below HB.out) cy.out).mono ?_;rintro e w2 ⟨rfl,hb⟩;have HB:=qid (HB.out.trans (hb.mono HB.out.size));clear hb;go_wp2_with fail;refine(X4 _ s w2 (HS.out.below HB.out) sj.out cy.out).mono ?_;rintro e w3 ⟨gr,rfl,hb⟩;have HB:=qid (HB.out.trans (hb.mono HB.out.size));clear hb hl;go_wp2
 go_loopg [5,9] 0 (fun gk u5 u9 wr=>u9=.int .i64 0∧u5=.pointer none∧Hid (Below w.heap.size w wr))
 case atStart=>exact⟨rfl,rfl,HB⟩
 case round=>
  obtain⟨rfl,rfl,jg⟩:=hrel;clear HB
  by_cases bw:0<L.length
  ·have l2:(0:Int)<(L.length:Int):=by omega
   clear bw;go_wp2_with fail;refine(IM m _ (Gz HM.out jg.out)).mono ?_;rintro e w9 ⟨rfl,hb⟩;have HB:=qid ((jg.out).trans (hb.mono (jg.out).size));clear hb;go_wp2;go_ret;exact⟨rfl,HB.out⟩
  ·have l2:¬((0:Int)<(L.length:Int)):=by omega
   clear bw;go_wp2_with fail;refine(IM m _ (Gz HM.out jg.out)).mono ?_;rintro e w9 ⟨rfl,hb⟩;have HB:=qid ((jg.out).trans (hb.mono (jg.out).size));clear hb;go_wp2;go_ret;exact⟨rfl,HB.out⟩
def Kr9(w w':World):Prop:=∀(b:Nat) (cs:Array Value) (t:TypeId) (fr:Nat×Nat),t≠47→t≠64→w.heap[b]? =some (.cells cs t fr)→w'.heap[b]? =some (.cells cs t fr)
theorem Kr9.kt{w w':World}(h:Kr9 w w'):Kt w w':=fun b cs t fr ht hb=>h b cs t fr (by rcases ht with rfl|rfl<;>decide) (by rcases ht with rfl|rfl<;>decide) hb
theorem qbf{w w':World}{g:Nat}{t:TypeId}{cs:Array Value}(h:SL.Bk w g t cs)(hk:Kr9 w w')(h1:t≠47)(h2:t≠64):SL.Bk w' g t cs:=hk g cs t _ h1 h2 h
theorem lT.kr{B:Nat}{w w':World}(h:SL.Chg (lT B w) w w'):Kr9 w w':=fun b cs t fr h1 h2 hb=>(h.block b (Array.getElem?_eq_some_iff.1 hb).1 (fun ho=>by
 obtain⟨_,mv,t',zO,h3,h4⟩:=ho;rw[hb]at h4;injection h4 with h4;injection h4 with _ e _;subst e;rcases h3 with rfl|rfl
 ·exact h1 rfl
 ·exact h2 rfl)).trans hb
section
variable {w0 w w':World} {g n m gr:Nat} {D E:Dbp}
theorem TP{C:Cdb}{E':Dbp}{m2:Nat}(h:CD w0.heap.size w g n C D)(hb:Below w0.heap.size w0 w)(hs:StR w0.heap.size gr m2 E' w w'):LB w0 w' g n D gr m2 E'∧Kr9 w w':=by
 refine⟨(qbR (x:=[]) h hb hs).1,?_⟩;obtain⟨x',h1,h2,h3,h4⟩:=hs;exact lT.kr h4
theorem Yf(h:LB w0 w g n D gr m E)(hm:m≤9000)(id:Int)(hi:I9 id)(cl kd:Int)(nm:ByteArray)(K V:Int)(kb:Bool)(aZ:nm.size≤1000)(k:Nat)(hI:ce E k)(hk:k≤9000)(R:Dbp×List Rw×Int)(hR:Ic E id cl kd nm K V kb (txB kd nm K V kb)=R):
  Calls Tryz.prog 12 #[SL.ptr gr,.int .i64 id,.int .i64 cl,.agg #[.int .i64 kd,.string nm,.int .i64 K,.int .i64 V,.bool kb]] w fun e w'=>∃rv,e=.returned (.tuple #[rv,.int .i64 R.2.2])∧RQ w' rv R.2.1∧LB w0 w' g n D gr (m+1) R.1∧Kr9 w w':=by
 subst hR;obtain⟨C,x,h1,k1,k2,k3,h2⟩:=h;have e:=M2 k2;have hx:=VD w0.heap.size w gr E.1 x k1 h2.size (by omega) id k (by rw[e];exact hI) (by omega) kd nm K V kb aZ hi cl
 rw[e]at hx;refine hx.mono ?_;rintro e w' ⟨rv,he,hq,hs⟩;obtain⟨a,b⟩:=TP h1 h2 (hs.mono (show x.length+1≤m+1 by omega))
 exact⟨rv,he,hq,a,b⟩
theorem Yg(h:LB w0 w g n D gr m E)(hm:m≤9000)(id:Int):
  Calls Tryz.prog 9 #[SL.ptr gr,.int .i64 id] w fun e w'=>e=.returned (.tuple #[])∧LB w0 w' g n D gr m (IS E id)∧Kr9 w w':=by
 obtain⟨C,x,h1,k1,k2,k3,h2⟩:=h;have hx:=Jj w0.heap.size w gr E.1 x k1 h2.size (by omega) id
 rw[M2 k2]at hx;refine hx.mono ?_;rintro e w' ⟨he,hs⟩;exact⟨he,TP h1 h2 (hs.mono k3)⟩
theorem LB.cell(h:LB w0 w g n D gr m E):∃cv,w.cell? ⟨gr,0,none⟩=some cv∧SQ w cv E.1:=by
 obtain⟨C,x,h1,k1,k2,k3,h2⟩:=h;obtain⟨cv,sv,a,b,_⟩:=k1.at_;exact⟨cv,a.cell 0,b⟩
end
theorem TQ{D:Dbp}{k:Nat}{S:List Tb}(h:ce D k)(hS:D.1=S):IK S:=by
 rw[←hS];exact(h.st.tabs.ok (by have:=h.st.len;omega)).few
theorem VH{D:Dbp}{k:Nat}{id:Int}{S:List Tb}(h:ce D k)(hk:k≤9000)(hS:d6 D id=S):IK S:=by
 rw[←hS];have eR:=h.seen id;exact(eR.1.ok (by omega)).few
theorem Yh{S:List Tb}(hp:iS S)(kd:Int)(n:ByteArray)(K V:Int)(kb:Bool):(doS S kd n K V kb).2.1.length≤1000000:=by
 rcases IH S kd n K V kb with⟨_,⟨_,e⟩|⟨_,_,e⟩|⟨_,_,e⟩⟩|⟨_,_,e⟩|⟨_,i,t,ht,_,e⟩<;>rw[e]
 ·simp
 ·simp
 ·simp
 ·simp
 ·split
  ·have:=(hp.each t (List.mem_of_getElem? ht)).2.2.len
   have h2:=List.length_filter_le (d8 kb K) t.2;show(Hk kb K t.2).length≤_;unfold Hk;omega
  ·simp
theorem Yi{D:Dbp}{k:Nat}{id cl kd:Int}{n:ByteArray}{K V:Int}{kb tx:Bool}{R:Dbp×List Rw×Int}(h:ce D k)(hR:Ic D id cl kd n K V kb tx=R):R.2.1.length≤1000000:=by
 have hd:=Yh (h.seen id).1 kd n K V kb;rw[←hR];unfold Ic
 split
 ·unfold U4
  split
  ·simp
  ·split
   ·simp
   ·split
    ·simp
    ·split
     ·simp
     ·split
      ·simp
      ·split
       ·split
        ·unfold doP
         split
         ·split
          ·exact hd
          ·simp
         ·simp
        ·simp
       ·simp
 ·simp
theorem Yj{D:Dbp}{id cl kd:Int}{n:ByteArray}{K V:Int}{kb tx:Bool}{R:Dbp×List Rw×Int}(h:D.2 2000=none)(hR:Ic D id cl kd n K V kb tx=R):R.1.2 2000=none:=by
 rw[←hR];unfold Ic
 split
 ·rename_i hs
  have b7:(2000:Int)≠id:=by
   intro e;subst e
   revert hs
   decide
  have lA:∀(O:Int→Ses) (v:Ses),O 2000=none→pi O id v 2000=none:=fun O v hO=>(Kk O v b7).trans hO
  unfold U4
  split
  ·unfold rW
   split
   ·exact lA _ _ h
   ·exact h
  ·split
   ·unfold gE
    split
    ·exact h
    ·exact lA _ _ h
    ·split
     ·exact lA _ _ h
     ·exact lA _ _ h
   ·split
    ·unfold Fr
     split
     ·exact h
     ·exact lA _ _ h
    ·split
     ·exact h
     ·split
      ·exact h
      ·split
       ·split
        ·unfold doP
         split
         ·split
          ·exact h
          ·unfold Gs
           split
           ·exact h
           ·exact lA _ _ h
         ·exact lA _ _ h
        ·exact h
       ·exact lA _ _ h
 ·exact h
theorem Yk{D:Dbp}(id:Int)(h:D.2 2000=none):(IS D id).2 2000=none:=by
 show pi D.2 id none 2000=none;unfold pi
 split
 ·rfl
 ·exact h
theorem VI{D:Dbp}{S:List Tb}(h:D.2 2000=none)(hS:D.1=S):d6 D 2000=S:=by
 unfold d6;rw[h,hS]
 rfl
theorem TU{D:Dbp}{k:Nat}{id:Int}{W:List ByteArray}(h:ce D k)(hk:k≤9000)(hW:(JW (D.2 id)).map (·.1)=W):W.length≤1000000:=by
 rw[←hW,List.length_map];have:=(h.ownT id).2;omega
set_option maxHeartbeats 64000000 in
theorem Sl(v l:Value)(s:List Tb)(L:List Op9)(m:Int)(w:World)(hm:Wq m w)(hs:SR w v s)(hL:OsR w l L)(hl:IL s=true)(hr:wt s=true):
  Calls Tryz.prog 3 #[v,l] w fun e w'=>e=.returned (.bool true)∧Below w.heap.size w w':=by
 obtain⟨HM,HS,iB⟩:=hZ3 hm hs hL;obtain⟨va,vc,rfl⟩:=hs.form;obtain⟨la,lc,rfl⟩:=hL.form;have xS:=qid hr;have sj:=qid (MX hl);clear hm hs hL hr;go_enter Tryz.func3,Tryz.ntmps3;go_wp2_with fail;refine(RT _ s true hl w HS.out).mono ?_;rintro e w1 ⟨rfl,hb⟩;have HB:=qid hb;clear hb;go_wp2_with fail;refine(XH (w0:=w) _ s (HS.out.below HB.out) xS.out HB.out).mono ?_;rintro e w3 ⟨a0,rfl,qL,hb⟩;have HB:=qid (HB.out.trans (hb.mono HB.out.size));have C3:=qid qL;clear hb qL;go_wp2_with fail;refine(qbU C3.out _ s (HS.out.below HB.out) sj.out xS.out).mono ?_;rintro e w4 ⟨gr,rfl,qL,hb⟩;have C4:=qid qL;have kZ:Hid (ce (s,fun _=>none) 0):=qid (TG xS.out)
 clear hb qL HB xS sj C3 hl;go_wp2
 go_loopg [5,9] L.length (fun gk u5 u9 wr=>∃(i a:Nat) (D:Dbp),u5=SL.ptr a∧u9=.int .i64 (i:Int)∧i+gk=L.length∧Hid (LB w wr a i D gr i D)∧Hid (ce D i)∧Hid (D.2 2000=none))
 case atStart=>exact⟨0,a0,_,rfl,rfl,by omega,C4,kZ,qid rfl⟩
 case round=>
  obtain⟨i,a,D,rfl,rfl,sy,lS,C5,rO⟩:=hrel;clear C4 kZ
  by_cases bw:i<L.length
  ·have l2:(i:Int)<(L.length:Int):=by omega
   by_cases zS:i<40
   ·have l4:(i:Int)<40:=by omega
    have l3:(0:Int)≤(i:Int):=by omega
    obtain⟨i1,aN⟩:∃i1,i+1=i1:=⟨_,rfl⟩;have wk:IntKind.i64.wrap ((i:Int)+1)=(i1:Int):=by rw[show(i:Int)+1=(i1:Int) by omega];exact IntWalk.i64_in _ (by omega)
    have eD:Hid (i1+(gk-1)=L.length∧gk-1<gk):=qid (by omega)
    have aQ:Hid (i+1=i1∧i≤40):=qid (by omega)
    obtain⟨c,hc⟩:∃c,L[i]? =some c:=⟨L[i],List.getElem?_eq_getElem bw⟩;obtain⟨cg,co,cp,he,cL,hx⟩:=(iB.out.below lS.out.bel).inv (by omega)
    injection he with ea _ ec;subst ea ec;clear zS;have si:=qid hc;clear hc;obtain⟨id,cl,kd,nm,K,V,kb⟩:=c;obtain⟨an,x0,x1,x2,x3,x4,x5,x6⟩:=hx i _ si.out;obtain⟨hid,zT,wG⟩:=an;have oU:Hid (I9 id):=qid hid;have xT:Hid (cmB (kd,nm,K,V,kb)):=qid wG;have hid:f7 id:=hid;clear hx si bw sy aN hid zT wG;obtain⟨W0,aH⟩:∃W,wr.alloc (.cells #[.int .i64 id,.int .i64 cl,.int .i64 kd,.string nm,.int .i64 K,.int .i64 V,.bool kb] 36)=W:=⟨_,rfl⟩;obtain⟨cb,an⟩:∃b,wr.heap.size=b:=⟨_,rfl⟩;have b0:Below wr.heap.size wr W0:=by rw[←aH];exact(Below.refl _ _).alloc (Nat.le_refl _) _
    have k0:SL.Bk W0 cb 36 #[.int .i64 id,.int .i64 cl,.int .i64 kd,.string nm,.int .i64 K,.int .i64 V,.bool kb]:=by rw[←aH,←an];exact SL.Bk.new _ _ _
    have KB:=qid k0;have bz:=qid (lS.out.below b0);obtain⟨kZ,oQ⟩:=hZ2 C5.out rO.out;clear b0 k0 lS C5 rO
    by_cases C6:nm.size≤60
    ·have l5:(nm.size:Int)≤60:=by omega
     have y0:W0.cell? ⟨cb,0,none⟩=some (.int .i64 id):=KB.out.cell 0;have y1:W0.cell? ⟨cb,1,none⟩=some (.int .i64 cl):=KB.out.cell 1;have y2:W0.cell? ⟨cb,2,none⟩=some (.int .i64 kd):=KB.out.cell 2;have y3:W0.cell? ⟨cb,3,none⟩=some (.string nm):=KB.out.cell 3;have y4:W0.cell? ⟨cb,4,none⟩=some (.int .i64 K):=KB.out.cell 4;have y5:W0.cell? ⟨cb,5,none⟩=some (.int .i64 V):=KB.out.cell 5;have y6:W0.cell? ⟨cb,6,none⟩=some (.bool kb):=KB.out.cell 6
     go_upto_block 2 with fail
     try rw[aH]
     try rw[an]
     try clear aH an
     clear y0 y1 y2 y3 y4 y5 y6;clear x0 x1 x2 x3 x4 x5 x6
     go_cut [5,11,12,13,14,15]from 40 to 175 (fun u5 _ _ _ _ _ wx=>∃(A:Nat) (D9:Dbp),u5=SL.ptr A∧Hid (LB w wx A i1 D9 gr i1 D9)∧Hid (ce D9 i1)∧Hid (D9.2 2000=none)∧Hid (SL.Bk wx cb 36 #[.int .i64 id,.int .i64 cl,.int .i64 kd,.string nm,.int .i64 K,.int .i64 V,.bool kb]))
     case first=>
      by_cases c20:cl=20
      ·subst c20
       as_aux_lemma=>
        have y0:W0.cell? ⟨cb,0,none⟩=some (.int .i64 id):=KB.out.cell 0;have y1:W0.cell? ⟨cb,1,none⟩=some (.int .i64 20):=KB.out.cell 1;have y2:W0.cell? ⟨cb,2,none⟩=some (.int .i64 kd):=KB.out.cell 2;have y3:W0.cell? ⟨cb,3,none⟩=some (.string nm):=KB.out.cell 3;have y4:W0.cell? ⟨cb,4,none⟩=some (.int .i64 K):=KB.out.cell 4;have y5:W0.cell? ⟨cb,5,none⟩=some (.int .i64 V):=KB.out.cell 5;have y6:W0.cell? ⟨cb,6,none⟩=some (.bool kb):=KB.out.cell 6;go_wp2_with fail;refine(qbT bz.out id oU.out).mono ?_;rintro e w5 ⟨rfl,h5,hk⟩;have bz:=qid h5;have KB:=qid (I0 KB.out hk (by decide) (by decide))
        clear y0 y1 y2 y3 y4 y5 y6;clear h5 hk;have y0:w5.cell? ⟨cb,0,none⟩=some (.int .i64 id):=KB.out.cell 0;have y1:w5.cell? ⟨cb,1,none⟩=some (.int .i64 20):=KB.out.cell 1;have y2:w5.cell? ⟨cb,2,none⟩=some (.int .i64 kd):=KB.out.cell 2;have y3:w5.cell? ⟨cb,3,none⟩=some (.string nm):=KB.out.cell 3;have y4:w5.cell? ⟨cb,4,none⟩=some (.int .i64 K):=KB.out.cell 4;have y5:w5.cell? ⟨cb,5,none⟩=some (.int .i64 V):=KB.out.cell 5;have y6:w5.cell? ⟨cb,6,none⟩=some (.bool kb):=KB.out.cell 6;go_wp2_with fail;refine(Yg bz.out (by have:=aQ.out;omega) id).mono ?_
        rintro e w6 ⟨rfl,h5,hk⟩;have bz:=qid h5;have KB:=qid (qbf KB.out hk (by decide) (by decide))
        clear y0 y1 y2 y3 y4 y5 y6;clear h5 hk;have dU:=qid ((kZ.out.end_ id).mono (m:=i1) (by have:=aQ.out;omega))
        have nX:=qid (Yk id oQ.out);obtain⟨D9,h9⟩:∃D9,IS D id=D9:=⟨_,rfl⟩;rw[h9]at bz dU nX;clear h9 kZ oQ;have bz:=qid (bz.out.mono (n2:=i1) (m2:=i1) (by have:=aQ.out;omega) (by have:=aQ.out;omega))
        go_wp2;go_meet
        case rel=>exact⟨a,D9,rfl,bz,dU,nX,KB⟩
      ·by_cases c21:cl=21
       ·subst c21
        as_aux_lemma=>
         have y0:W0.cell? ⟨cb,0,none⟩=some (.int .i64 id):=KB.out.cell 0;have y1:W0.cell? ⟨cb,1,none⟩=some (.int .i64 21):=KB.out.cell 1;have y2:W0.cell? ⟨cb,2,none⟩=some (.int .i64 kd):=KB.out.cell 2;have y3:W0.cell? ⟨cb,3,none⟩=some (.string nm):=KB.out.cell 3;have y4:W0.cell? ⟨cb,4,none⟩=some (.int .i64 K):=KB.out.cell 4;have y5:W0.cell? ⟨cb,5,none⟩=some (.int .i64 V):=KB.out.cell 5;have y6:W0.cell? ⟨cb,6,none⟩=some (.bool kb):=KB.out.cell 6;go_wp2_with fail;refine(qal bz.out (by have:=aQ.out;omega)).mono ?_
         rintro e w5 ⟨g2,rfl,h5,hb⟩;have nR:=qid h5;have KB:=qid (f9 KB.out hb);clear y0 y1 y2 y3 y4 y5 y6;clear h5 hb bz;have y0:w5.cell? ⟨cb,0,none⟩=some (.int .i64 id):=KB.out.cell 0;have y1:w5.cell? ⟨cb,1,none⟩=some (.int .i64 21):=KB.out.cell 1;have y2:w5.cell? ⟨cb,2,none⟩=some (.int .i64 kd):=KB.out.cell 2;have y3:w5.cell? ⟨cb,3,none⟩=some (.string nm):=KB.out.cell 3;have y4:w5.cell? ⟨cb,4,none⟩=some (.int .i64 K):=KB.out.cell 4;have y5:w5.cell? ⟨cb,5,none⟩=some (.int .i64 V):=KB.out.cell 5;have y6:w5.cell? ⟨cb,6,none⟩=some (.bool kb):=KB.out.cell 6;obtain⟨R,hR⟩:∃R,Ic D id 2 kd nm K V kb (txB kd nm K V kb)=R:=⟨_,rfl⟩;have HR:=qid hR;clear hR;obtain⟨D2,rl,code⟩:=R;go_wp2_with fail;refine(qam nR.out (by have:=aQ.out;omega) id oU.out 2 kd nm K V kb m (Gz HM.out nR.out.bel) (by omega) xT.out.2.1 xT.out.2.2 i kZ.out (by have:=aQ.out;omega) _ HR.out).mono ?_
         rintro e w6 ⟨r6,rfl,hq,h5,hk⟩;obtain⟨p6,c6,rfl⟩:=hq.form;have nR:=qid h5;have KB:=qid (I0 KB.out hk (by decide) (by decide))
         clear y0 y1 y2 y3 y4 y5 y6;clear h5 hk hq HR;have y0:w6.cell? ⟨cb,0,none⟩=some (.int .i64 id):=KB.out.cell 0;have y1:w6.cell? ⟨cb,1,none⟩=some (.int .i64 21):=KB.out.cell 1;have y2:w6.cell? ⟨cb,2,none⟩=some (.int .i64 kd):=KB.out.cell 2;have y3:w6.cell? ⟨cb,3,none⟩=some (.string nm):=KB.out.cell 3;have y4:w6.cell? ⟨cb,4,none⟩=some (.int .i64 K):=KB.out.cell 4;have y5:w6.cell? ⟨cb,5,none⟩=some (.int .i64 V):=KB.out.cell 5;have y6:w6.cell? ⟨cb,6,none⟩=some (.bool kb):=KB.out.cell 6;go_wp2_with fail;refine(qan nR.out id oU.out).mono ?_;rintro e w7 ⟨rfl,h5,hk⟩;have bz:=qid h5.drop;have KB:=qid (I0 KB.out hk (by decide) (by decide))
         clear y0 y1 y2 y3 y4 y5 y6;clear h5 hk nR;have dU:=qid (kZ.out.mono (m:=i1) (by have:=aQ.out;omega))
         have nX:=qid oQ.out;obtain⟨D9,h9⟩:∃D9,D=D9:=⟨_,rfl⟩;rw[h9]at bz dU nX;clear h9 kZ oQ;have bz:=qid (bz.out.mono (n2:=i1) (m2:=i1) (by have:=aQ.out;omega) (by have:=aQ.out;omega))
         go_wp2;go_meet
         case rel=>exact⟨g2,D9,rfl,bz,dU,nX,KB⟩
       ·as_aux_lemma=>
         obtain⟨R,hR⟩:∃R,Ic D id cl kd nm K V kb (txB kd nm K V kb)=R:=⟨_,rfl⟩;have rT:=kZ.out.runT id cl kd nm K V kb;have C7:=Yj oQ.out hR;have fw:=Yi kZ.out hR;rw[hR]at rT;obtain⟨D9,rl,code⟩:=R;have HR:=qid hR
         have dU:Hid (ce D9 i1):=qid (by have e:i1=i+1:=by have:=aQ.out;omega
                                         rw[e];exact rT)
         have nX:Hid (D9.2 2000=none):=qid C7;have o7:Hid (rl.length≤1000000):=qid fw;clear hR rT C7 fw;have y0:W0.cell? ⟨cb,0,none⟩=some (.int .i64 id):=KB.out.cell 0;have y1:W0.cell? ⟨cb,1,none⟩=some (.int .i64 cl):=KB.out.cell 1;have y2:W0.cell? ⟨cb,2,none⟩=some (.int .i64 kd):=KB.out.cell 2;have y3:W0.cell? ⟨cb,3,none⟩=some (.string nm):=KB.out.cell 3;have y4:W0.cell? ⟨cb,4,none⟩=some (.int .i64 K):=KB.out.cell 4;have y5:W0.cell? ⟨cb,5,none⟩=some (.int .i64 V):=KB.out.cell 5;have y6:W0.cell? ⟨cb,6,none⟩=some (.bool kb):=KB.out.cell 6;go_wp2_with fail;refine(qbS bz.out (by have:=aQ.out;omega) id oU.out cl kd nm K V kb m (Gz HM.out bz.out.bel) (by omega) xT.out.2.1 xT.out.2.2 i kZ.out (by have:=aQ.out;omega) _ HR.out).mono ?_
         rintro e w5 ⟨r5,rfl,hq,h5,hk⟩;obtain⟨p5,c5,rfl⟩:=hq.form;obtain⟨pJ,bz⟩:=hZ2 hq h5;have KB:=qid (I0 KB.out hk (by decide) (by decide))
         clear y0 y1 y2 y3 y4 y5 y6;clear h5 hk hq;have y0:w5.cell? ⟨cb,0,none⟩=some (.int .i64 id):=KB.out.cell 0;have y1:w5.cell? ⟨cb,1,none⟩=some (.int .i64 cl):=KB.out.cell 1;have y2:w5.cell? ⟨cb,2,none⟩=some (.int .i64 kd):=KB.out.cell 2;have y3:w5.cell? ⟨cb,3,none⟩=some (.string nm):=KB.out.cell 3;have y4:w5.cell? ⟨cb,4,none⟩=some (.int .i64 K):=KB.out.cell 4;have y5:w5.cell? ⟨cb,5,none⟩=some (.int .i64 V):=KB.out.cell 5;have y6:w5.cell? ⟨cb,6,none⟩=some (.bool kb):=KB.out.cell 6;go_wp2_with fail;refine(Yf bz.out (by have:=aQ.out;omega) id oU.out cl kd nm K V kb (by omega) i kZ.out (by have:=aQ.out;omega) _ HR.out).mono ?_
         rintro e w6 ⟨r6,rfl,hq,h5,hk⟩;obtain⟨p6,c6,rfl⟩:=hq.form;have xG:=qid hq;have pJ:=qid (pJ.out.kt hk.kt);have bz:=qid h5;have KB:=qid (qbf KB.out hk (by decide) (by decide))
         clear y0 y1 y2 y3 y4 y5 y6;clear h5 hk hq HR kZ oQ;have y0:w6.cell? ⟨cb,0,none⟩=some (.int .i64 id):=KB.out.cell 0;have y1:w6.cell? ⟨cb,1,none⟩=some (.int .i64 cl):=KB.out.cell 1;have y2:w6.cell? ⟨cb,2,none⟩=some (.int .i64 kd):=KB.out.cell 2;have y3:w6.cell? ⟨cb,3,none⟩=some (.string nm):=KB.out.cell 3;have y4:w6.cell? ⟨cb,4,none⟩=some (.int .i64 K):=KB.out.cell 4;have y5:w6.cell? ⟨cb,5,none⟩=some (.int .i64 V):=KB.out.cell 5;have y6:w6.cell? ⟨cb,6,none⟩=some (.bool kb):=KB.out.cell 6;go_wp2_with fail;refine(XN _ _ rl rl true (decide_eq_true rfl) w6 pJ.out.rr xG.out.rr o7.out).mono ?_;rintro e w7 ⟨rfl,hb⟩;have bz:=qid (bz.out.below hb);have KB:=qid (f9 KB.out hb);clear y0 y1 y2 y3 y4 y5 y6;clear hb pJ xG;have bz:=qid (bz.out.mono (n2:=i1) (m2:=i1) (by have:=aQ.out;omega) (by have:=aQ.out;omega))
         go_wp2;go_meet
         case rel=>exact⟨a,D9,rfl,bz,dU,nX,KB⟩
     case rest=>
      obtain⟨A,D9,rfl,bz,dU,nX,KB⟩:=hcut;obtain⟨S,zU⟩:∃S,D9.1=S:=⟨_,rfl⟩;obtain⟨st,wH⟩:∃st,dg D9 id=st:=⟨_,rfl⟩;obtain⟨Wl,wI⟩:∃x,(JW (D9.2 id)).map (·.1)=x:=⟨_,rfl⟩
      obtain⟨se,wJ⟩:∃S,d6 D9 id=S:=⟨_,rfl⟩;obtain⟨s',wK,oV,rU⟩:=hZ4 zU wH wI wJ;obtain⟨cv,rz,xU⟩:=bz.out.cell;rw[zU]at xU;obtain⟨Ep,Er,rfl⟩:=xU.form;obtain⟨fQ,dF⟩:=hZ2 xU rz;clear zU wH wI wJ xU;have y0:wc.cell? ⟨cb,0,none⟩=some (.int .i64 id):=KB.out.cell 0;have y1:wc.cell? ⟨cb,1,none⟩=some (.int .i64 cl):=KB.out.cell 1;have y2:wc.cell? ⟨cb,2,none⟩=some (.int .i64 kd):=KB.out.cell 2;have y3:wc.cell? ⟨cb,3,none⟩=some (.string nm):=KB.out.cell 3;have y4:wc.cell? ⟨cb,4,none⟩=some (.int .i64 K):=KB.out.cell 4;have y5:wc.cell? ⟨cb,5,none⟩=some (.int .i64 V):=KB.out.cell 5;have y6:wc.cell? ⟨cb,6,none⟩=some (.bool kb):=KB.out.cell 6;go_wp2_with fail;refine wp_region_held_drew (S:=(fun w':World=>w'.cell? ⟨cb,0,none⟩=some (.int .i64 id)∧w'.cell? ⟨gr,0,none⟩=some (.slice Ep S.length Er))) (by kernel_rfl) ?_ (fun hS=>?_)
      ·exact⟨y0,rz⟩
      clear y0 y1 y2 y3 y4 y5 y6;clear rz;have hb:Below wc.heap.size wc wc.drew:=(Below.refl _ _).drew;have bz:=qid (bz.out.below hb);have fQ:=qid (fQ.out.bel hb);have dF:=qid ((hb.cell (World.block_lt_of_cell? _ _ dF.out)).trans dF.out);have KB:=qid (f9 KB.out hb);clear hb;refine tkY 0 ?_ rfl hS ?_ ?_;rotate_left
      ·intro wz hz
       go_simp
       all_goals first|with_reducible rfl|omega
      try simp only[Act.put,pu]
      refine tkY 2 ?_ rfl hS ?_ ?_;rotate_left
      ·intro wz hz
       go_simp
       all_goals first|with_reducible rfl|omega
      try simp only[Act.put,pu]
      refine tkY 3 ?_ rfl hS ?_ ?_;rotate_left
      ·intro wz hz
       go_simp
       all_goals first|with_reducible rfl|omega
      try simp only[Act.put,pu]
      refine tkY 4 ?_ rfl hS ?_ ?_;rotate_left
      ·intro wz hz
       go_simp
       all_goals first|with_reducible rfl|omega
      try simp only[Act.put,pu]
      refine tkY 5 ?_ rfl hS ?_ ?_;rotate_left
      ·intro wz hz
       obtain⟨z0,z1⟩:=hz;go_simp
       all_goals first|with_reducible rfl|omega
      try simp only[Act.put,pu]
      refine wpAnyH_ready (rs:=[1]) (by kernel_rfl) (by simp) (AllReadyH.cons rfl (fun K' ae=>?_) AllReadyH.nil)
      go_simp;refine(ZZ bz.out.left dU.out S s'.out).mono ?_;rintro e t1 ⟨v1,rfl,hq,hb⟩;obtain⟨p1,c1,rfl⟩:=hq.form;have HQ:=qid hq;clear hq;have bz:=qid (bz.out.below hb);have fQ:=qid (fQ.out.bel hb);have dF:=qid ((hb.cell (World.block_lt_of_cell? _ _ dF.out)).trans dF.out);have KB:=qid (f9 KB.out hb);clear hb;refine ae.out _ _ ?_ (fun aF=>?_)
      ·exact⟨KB.out.cell 0,dF.out⟩
      clear ae K' hS;have hS:=aF;clear aF
      try simp only[Act.put,pu]
      refine wpAnyH_ready (rs:=[6]) (by kernel_rfl) (by simp) (AllReadyH.cons rfl (fun K' ae=>?_) AllReadyH.nil)
      go_simp;refine(XO _ _ S S true (decide_eq_true rfl) (TQ dU.out s'.out) _ HQ.out.sr fQ.out.sr).mono ?_;rintro e t2 ⟨rfl,hb⟩;clear HQ;have bz:=qid (bz.out.below hb);have fQ:=qid (fQ.out.bel hb);have dF:=qid ((hb.cell (World.block_lt_of_cell? _ _ dF.out)).trans dF.out);have KB:=qid (f9 KB.out hb);clear hb;refine ae.out _ _ ?_ (fun aF=>?_)
      ·exact⟨KB.out.cell 0,dF.out⟩
      clear ae K' hS;have hS:=aF;clear aF
      try simp only[Act.put,pu]
      refine tkY 7 (.bool false) rfl hS ?_ ?_
      ·intro wz hz
       go_simp
       all_goals first|with_reducible rfl|omega
      try simp only[Act.put,pu]
      refine tkY 8 (.bool false) rfl hS ?_ ?_
      ·intro wz hz
       go_simp
       all_goals first|with_reducible rfl|omega
      try simp only[Act.put,pu]
      refine tkY 9 ?_ rfl hS ?_ ?_;rotate_left
      ·intro wz hz
       go_simp
       all_goals first|with_reducible rfl|omega
      try simp only[Act.put,pu]
      refine tkY 10 ?_ rfl hS ?_ ?_;rotate_left
      ·intro wz hz
       go_simp
       all_goals first|with_reducible rfl|omega
      try simp only[Act.put,pu]
      refine tkY 11 ?_ rfl hS ?_ ?_;rotate_left
      ·intro wz hz
       obtain⟨z0,z1⟩:=hz;go_simp
       all_goals first|with_reducible rfl|omega
      try simp only[Act.put,pu]
      refine tkY 13 ?_ rfl hS ?_ ?_;rotate_left
      ·intro wz hz
       go_simp
       all_goals first|with_reducible rfl|omega
      try simp only[Act.put,pu]
      refine tkY 14 ?_ rfl hS ?_ ?_;rotate_left
      ·intro wz hz
       go_simp
       all_goals first|with_reducible rfl|omega
      try simp only[Act.put,pu]
      refine tkY 15 ?_ rfl hS ?_ ?_;rotate_left
      ·intro wz hz
       obtain⟨z0,z1⟩:=hz;go_simp
       all_goals first|with_reducible rfl|omega
      try simp only[Act.put,pu]
      refine wpAnyH_ready (rs:=[12]) (by kernel_rfl) (by simp) (AllReadyH.cons rfl (fun K' ae=>?_) AllReadyH.nil)
      go_simp;refine(Mc bz.out.left id oU.out st wK.out).mono ?_;rintro e t3 ⟨rfl,rfl⟩;refine ae.out _ _ ?_ (fun aF=>?_)
      ·exact⟨KB.out.cell 0,dF.out⟩
      clear ae K' hS;have hS:=aF;clear aF
      try simp only[Act.put,pu]
      refine wpAnyH_ready (rs:=[16]) (by kernel_rfl) (by simp) (AllReadyH.cons rfl (fun K' ae=>?_) AllReadyH.nil)
      go_simp;refine(X1 bz.out (by have:=aQ.out;omega) id oU.out st wK.out).mono ?_
      rintro e t4 ⟨rfl,rfl⟩;refine ae.out _ _ ?_ (fun aF=>?_)
      ·exact⟨KB.out.cell 0,dF.out⟩
      clear ae K' hS;have hS:=aF;clear aF
      try simp only[Act.put,pu]
      refine tkY 17 (.bool false) rfl hS ?_ ?_
      ·intro wz hz
       go_simp
       all_goals first|with_reducible rfl|omega
      try simp only[Act.put,pu]
      refine tkY 18 (.bool false) rfl hS ?_ ?_
      ·intro wz hz
       go_simp
       all_goals first|with_reducible rfl|omega
      try simp only[Act.put,pu]
      refine tkY 19 (.bool false) rfl hS ?_ ?_
      ·intro wz hz
       go_simp
       all_goals first|with_reducible rfl|omega
      try simp only[Act.put,pu]
      refine tkY 20 ?_ rfl hS ?_ ?_;rotate_left
      ·intro wz hz
       go_simp
       all_goals first|with_reducible rfl|omega
      try simp only[Act.put,pu]
      refine tkY 21 ?_ rfl hS ?_ ?_;rotate_left
      ·intro wz hz
       go_simp
       all_goals first|with_reducible rfl|omega
      try simp only[Act.put,pu]
      refine tkY 22 ?_ rfl hS ?_ ?_;rotate_left
      ·intro wz hz
       obtain⟨z0,z1⟩:=hz;go_simp
       all_goals first|with_reducible rfl|omega
      try simp only[Act.put,pu]
      refine tkY 24 ?_ rfl hS ?_ ?_;rotate_left
      ·intro wz hz
       go_simp
       all_goals first|with_reducible rfl|omega
      try simp only[Act.put,pu]
      refine tkY 25 ?_ rfl hS ?_ ?_;rotate_left
      ·intro wz hz
       go_simp
       all_goals first|with_reducible rfl|omega
      try simp only[Act.put,pu]
      refine tkY 26 ?_ rfl hS ?_ ?_;rotate_left
      ·intro wz hz
       obtain⟨z0,z1⟩:=hz;go_simp
       all_goals first|with_reducible rfl|omega
      try simp only[Act.put,pu]
      refine wpAnyH_ready (rs:=[23]) (by kernel_rfl) (by simp) (AllReadyH.cons rfl (fun K' ae=>?_) AllReadyH.nil)
      go_simp;refine(TF bz.out.left (by have:=aQ.out;omega) dU.out id oU.out Wl oV.out).mono ?_
      rintro e t5 ⟨v5,rfl,ho,hb⟩;obtain⟨p5,c5,rfl⟩:=OT.ln ho;have HO:=qid ho.ts;clear ho;have bz:=qid (bz.out.below hb);have fQ:=qid (fQ.out.bel hb);have dF:=qid ((hb.cell (World.block_lt_of_cell? _ _ dF.out)).trans dF.out);have KB:=qid (f9 KB.out hb);clear hb;refine ae.out _ _ ?_ (fun aF=>?_)
      ·exact⟨KB.out.cell 0,dF.out⟩
      clear ae K' hS;have hS:=aF;clear aF
      try simp only[Act.put,pu]
      refine wpAnyH_ready (rs:=[27]) (by kernel_rfl) (by simp) (AllReadyH.cons rfl (fun K' ae=>?_) AllReadyH.nil)
      go_simp;refine(X3 bz.out (by have:=aQ.out;omega) dU.out (by have:=aQ.out;omega) id Wl oV.out).mono ?_
      rintro e t6 ⟨v6,rfl,ho,hb⟩;obtain⟨p6,c6,rfl⟩:=OT.ln ho;have dB:=qid ho.ts;have HO:=qid (HO.out.below hb);clear ho;have bz:=qid (bz.out.below hb);have fQ:=qid (fQ.out.bel hb);have dF:=qid ((hb.cell (World.block_lt_of_cell? _ _ dF.out)).trans dF.out);have KB:=qid (f9 KB.out hb);clear hb;refine ae.out _ _ ?_ (fun aF=>?_)
      ·exact⟨KB.out.cell 0,dF.out⟩
      clear ae K' hS;have hS:=aF;clear aF
      try simp only[Act.put,pu]
      refine wpAnyH_ready (rs:=[28]) (by kernel_rfl) (by simp) (AllReadyH.cons rfl (fun K' ae=>?_) AllReadyH.nil)
      go_simp;refine(XM _ _ Wl Wl true (decide_eq_true rfl) _ HO.out dB.out (TU dU.out (by have:=aQ.out;omega) oV.out) (TU dU.out (by have:=aQ.out;omega) oV.out)).mono ?_
      rintro e t7 ⟨rfl,hb⟩;clear HO dB;have bz:=qid (bz.out.below hb);have fQ:=qid (fQ.out.bel hb);have dF:=qid ((hb.cell (World.block_lt_of_cell? _ _ dF.out)).trans dF.out);have KB:=qid (f9 KB.out hb);clear hb;refine ae.out _ _ ?_ (fun aF=>?_)
      ·exact⟨KB.out.cell 0,dF.out⟩
      clear ae K' hS;have hS:=aF;clear aF
      try simp only[Act.put,pu]
      refine tkY 29 (.bool false) rfl hS ?_ ?_
      ·intro wz hz
       go_simp
       all_goals first|with_reducible rfl|omega
      try simp only[Act.put,pu]
      refine tkY 30 (.bool false) rfl hS ?_ ?_
      ·intro wz hz
       go_simp
       all_goals first|with_reducible rfl|omega
      try simp only[Act.put,pu]
      refine tkY 31 (.bool false) rfl hS ?_ ?_
      ·intro wz hz
       go_simp
       all_goals first|with_reducible rfl|omega
      try simp only[Act.put,pu]
      refine tkY 32 ?_ rfl hS ?_ ?_;rotate_left
      ·intro wz hz
       go_simp
       all_goals first|with_reducible rfl|omega
      try simp only[Act.put,pu]
      refine tkY 33 ?_ rfl hS ?_ ?_;rotate_left
      ·intro wz hz
       go_simp
       all_goals first|with_reducible rfl|omega
      try simp only[Act.put,pu]
      refine tkY 34 ?_ rfl hS ?_ ?_;rotate_left
      ·intro wz hz
       obtain⟨z0,z1⟩:=hz;go_simp
       all_goals first|with_reducible rfl|omega
      try simp only[Act.put,pu]
      refine tkY 36 ?_ rfl hS ?_ ?_;rotate_left
      ·intro wz hz
       go_simp
       all_goals first|with_reducible rfl|omega
      try simp only[Act.put,pu]
      refine tkY 37 ?_ rfl hS ?_ ?_;rotate_left
      ·intro wz hz
       go_simp
       all_goals first|with_reducible rfl|omega
      try simp only[Act.put,pu]
      refine tkY 38 ?_ rfl hS ?_ ?_;rotate_left
      ·intro wz hz
       obtain⟨z0,z1⟩:=hz;go_simp
       all_goals first|with_reducible rfl|omega
      try simp only[Act.put,pu]
      refine wpAnyH_ready (rs:=[35]) (by kernel_rfl) (by simp) (AllReadyH.cons rfl (fun K' ae=>?_) AllReadyH.nil)
      go_simp;refine(TE bz.out.left (by have:=aQ.out;omega) dU.out (by have:=aQ.out;omega) id oU.out se rU.out).mono ?_
      rintro e t8 ⟨v8,rfl,hq,hb⟩;obtain⟨p8,c8,rfl⟩:=hq.form;have HQ:=qid hq;clear hq;have bz:=qid (bz.out.below hb);have fQ:=qid (fQ.out.bel hb);have dF:=qid ((hb.cell (World.block_lt_of_cell? _ _ dF.out)).trans dF.out);have KB:=qid (f9 KB.out hb);clear hb;refine ae.out _ _ ?_ (fun aF=>?_)
      ·exact⟨KB.out.cell 0,dF.out⟩
      clear ae K' hS;have hS:=aF;clear aF
      try simp only[Act.put,pu]
      refine wpAnyH_ready (rs:=[39]) (by kernel_rfl) (by simp) (AllReadyH.cons rfl (fun K' ae=>?_) AllReadyH.nil)
      go_simp;refine(X2 bz.out (by have:=aQ.out;omega) dU.out (by have:=aQ.out;omega) id se rU.out).mono ?_
      rintro e t9 ⟨v9,rfl,hq,hb⟩;obtain⟨p9,c9,rfl⟩:=hq.form;have mM:=qid hq;have HQ:=qid (HQ.out.bel hb);clear hq;have bz:=qid (bz.out.below hb);have fQ:=qid (fQ.out.bel hb);have dF:=qid ((hb.cell (World.block_lt_of_cell? _ _ dF.out)).trans dF.out);have KB:=qid (f9 KB.out hb);clear hb;refine ae.out _ _ ?_ (fun aF=>?_)
      ·exact⟨KB.out.cell 0,dF.out⟩
      clear ae K' hS;have hS:=aF;clear aF
      try simp only[Act.put,pu]
      refine wpAnyH_ready (rs:=[40]) (by kernel_rfl) (by simp) (AllReadyH.cons rfl (fun K' ae=>?_) AllReadyH.nil)
      go_simp;refine(XO _ _ se se true (decide_eq_true rfl) (VH dU.out (by have:=aQ.out;omega) rU.out) _ HQ.out.sr mM.out.sr).mono ?_
      rintro e ta ⟨rfl,hb⟩;clear HQ mM;have bz:=qid (bz.out.below hb);have fQ:=qid (fQ.out.bel hb);have dF:=qid ((hb.cell (World.block_lt_of_cell? _ _ dF.out)).trans dF.out);have KB:=qid (f9 KB.out hb);clear hb;refine ae.out _ _ ?_ (fun aF=>?_)
      ·exact⟨KB.out.cell 0,dF.out⟩
      clear ae K' hS;have hS:=aF;clear aF
      try simp only[Act.put,pu]
      refine tkY 41 (.bool false) rfl hS ?_ ?_
      ·intro wz hz
       go_simp
       all_goals first|with_reducible rfl|omega
      try simp only[Act.put,pu]
      refine tkY 42 (.bool false) rfl hS ?_ ?_
      ·intro wz hz
       go_simp
       all_goals first|with_reducible rfl|omega
      try simp only[Act.put,pu]
      refine tkY 43 (.bool false) rfl hS ?_ ?_
      ·intro wz hz
       go_simp
       all_goals first|with_reducible rfl|omega
      try simp only[Act.put,pu]
      refine tkY 44 ?_ rfl hS ?_ ?_;rotate_left
      ·intro wz hz
       go_simp
       all_goals first|with_reducible rfl|omega
      try simp only[Act.put,pu]
      refine tkY 46 ?_ rfl hS ?_ ?_;rotate_left
      ·intro wz hz
       go_simp
       all_goals first|with_reducible rfl|omega
      try simp only[Act.put,pu]
      refine tkY 47 ?_ rfl hS ?_ ?_;rotate_left
      ·intro wz hz
       go_simp
       all_goals first|with_reducible rfl|omega
      try simp only[Act.put,pu]
      refine tkY 48 ?_ rfl hS ?_ ?_;rotate_left
      ·intro wz hz
       go_simp
       all_goals first|with_reducible rfl|omega
      try simp only[Act.put,pu]
      refine tkY 49 ?_ rfl hS ?_ ?_;rotate_left
      ·intro wz hz
       obtain⟨z0,z1⟩:=hz;go_simp
       all_goals first|with_reducible rfl|omega
      try simp only[Act.put,pu]
      refine wpAnyH_ready (rs:=[45]) (by kernel_rfl) (by simp) (AllReadyH.cons rfl (fun K' ae=>?_) AllReadyH.nil)
      go_simp;refine(TE bz.out.left (by have:=aQ.out;omega) dU.out (by have:=aQ.out;omega) 2000 (by decide) S (VI nX.out s'.out)).mono ?_
      rintro e tb ⟨vb,rfl,hq,hb⟩;obtain⟨pb,GU,rfl⟩:=hq.form;have HQ:=qid hq;clear hq;have bz:=qid (bz.out.below hb);have fQ:=qid (fQ.out.bel hb);have dF:=qid ((hb.cell (World.block_lt_of_cell? _ _ dF.out)).trans dF.out);have KB:=qid (f9 KB.out hb);clear hb;refine ae.out _ _ ?_ (fun aF=>?_)
      ·exact⟨KB.out.cell 0,dF.out⟩
      clear ae K' hS;have hS:=aF;clear aF
      try simp only[Act.put,pu]
      refine wpAnyH_ready (rs:=[50]) (by kernel_rfl) (by simp) (AllReadyH.cons rfl (fun K' ae=>?_) AllReadyH.nil)
      go_simp;refine(XO _ _ S S true (decide_eq_true rfl) (TQ dU.out s'.out) _ HQ.out.sr fQ.out.sr).mono ?_;rintro e tc ⟨rfl,hb⟩;clear HQ;have bz:=qid (bz.out.below hb);have fQ:=qid (fQ.out.bel hb);have dF:=qid ((hb.cell (World.block_lt_of_cell? _ _ dF.out)).trans dF.out);have KB:=qid (f9 KB.out hb);clear hb;refine ae.out _ _ ?_ (fun aF=>?_)
      ·exact⟨KB.out.cell 0,dF.out⟩
      clear ae K' hS;have hS:=aF;clear aF
      try simp only[Act.put,pu]
      refine tkY 51 (.bool false) rfl hS ?_ ?_
      ·intro wz hz
       go_simp
       all_goals first|with_reducible rfl|omega
      try simp only[Act.put,pu]
      refine tkY 52 (.bool false) rfl hS ?_ ?_
      ·intro wz hz
       go_simp
       all_goals first|with_reducible rfl|omega
      try simp only[Act.put,pu]
      refine wpAnyH_done (by kernel_rfl) ?_ _
      clear hS;go_wp2;go_roundg (gk-1)
      case measure=>exact eD.out.2
      case rel=>exact⟨i1,A,D9,rfl,rfl,eD.out.1,bz,dU,nX⟩
    ·have l5:¬((nm.size:Int)≤60):=by omega
     have y0:W0.cell? ⟨cb,0,none⟩=some (.int .i64 id):=KB.out.cell 0;have y1:W0.cell? ⟨cb,1,none⟩=some (.int .i64 cl):=KB.out.cell 1;have y2:W0.cell? ⟨cb,2,none⟩=some (.int .i64 kd):=KB.out.cell 2;have y3:W0.cell? ⟨cb,3,none⟩=some (.string nm):=KB.out.cell 3;have y4:W0.cell? ⟨cb,4,none⟩=some (.int .i64 K):=KB.out.cell 4;have y5:W0.cell? ⟨cb,5,none⟩=some (.int .i64 V):=KB.out.cell 5;have y6:W0.cell? ⟨cb,6,none⟩=some (.bool kb):=KB.out.cell 6;go_wp2_with fail
     try rw[aH]
     try rw[an]
     go_roundg (gk-1)
     case measure=>exact eD.out.2
     case rel=>exact⟨i1,a,D,rfl,rfl,eD.out.1,qid (bz.out.mono (by have:=aQ.out;omega) (by have:=aQ.out;omega)),qid (kZ.out.mono (by have:=aQ.out;omega)),oQ⟩
   ·have l4:¬((i:Int)<40):=by omega
    clear bw sy;go_wp2_with fail;refine(IM m _ (Gz HM.out lS.out.bel)).mono ?_;rintro e w9 ⟨rfl,hb⟩;have HB:=qid ((lS.out.bel).trans (hb.mono (lS.out.bel).size));clear hb;go_wp2;go_ret;exact⟨rfl,HB.out⟩
  ·have l2:¬((i:Int)<(L.length:Int)):=by omega
   clear bw sy;go_wp2_with fail;refine(IM m _ (Gz HM.out lS.out.bel)).mono ?_;rintro e w9 ⟨rfl,hb⟩;have HB:=qid ((lS.out.bel).trans (hb.mono (lS.out.bel).size));clear hb;go_wp2;go_ret;exact⟨rfl,HB.out⟩
theorem Sm(v l:Value)(m:Int)(w:World)(hm:Wq m w)(hs:X9 w v)(hl:Sk w l):
  Calls Tryz.prog 3 #[v,l] w fun e w'=>e=.returned (.bool true)∧Below w.heap.size w w':=by
 obtain⟨s,hs⟩:=hs;obtain⟨L,hL⟩:=hl
 cases h1:IL s with
 |false=>exact QB v l s L m w hm hs hL h1
 |true=>
  cases h2:wt s with
  |false=>exact QC v l s L m w hm hs hL h1 h2
  |true=>exact Sl v l s L m w hm hs hL h1 h2
end Go.Proofs.YtpgddamhdfmdjaaGreatDoor
