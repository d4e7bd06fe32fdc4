/- Seo Sep Seq Ses Dm -/
import Derived.Test.YtpgddamhdfmdjaaGreatDoorG13
import Derived.Deep.RegionWith
import Derived.Deep.RegionHeld3
import Derived.Test.YtpgddamhdfmdjaaGreatDoorG9
import Derived.Test.YtpgddamhdfmdjaaGreatDoorG3
import Derived.Test.YtpgddamhdfmdjaaGreatDoorG1
set_option linter.unusedSimpArgs false
set_option linter.unusedVariables false
set_option maxRecDepth 100000
set_option maxHeartbeats 16000000
namespace Go.Proofs.YtpgddamhdfmdjaaGreatDoor
open Go.ChangeShapes Go.WideShapes Go.ChangeAt Go.RowKit
def SRT(w:World)(v:Value)(d:List Tx):Prop:=
 (∃A cap,v=.slice A 0 cap∧d=[])∨
 ∃h off cap,v=.slice (some ⟨h,off,none⟩) d.length cap∧d.length≤cap∧∀(i:Nat) (x:Tx),d[i]? =some x→w.cell? ⟨h,off+i,none⟩=some (sV x)
theorem SRT.own{w:World}{B:Nat}{v:Value}{d:List Tx}(h:w.ownsRow B 9 1 v d.length (d.map sV)):SRT w v d:=by
 rcases h.2 with⟨rfl,hz⟩|⟨g,cap,cur,rfl,hb,hh,hc,hm,hs,ht⟩
 ·exact .inl ⟨none,0,rfl,List.eq_nil_of_length_eq_zero hz⟩
 ·refine .inr ⟨g,0,cap,rfl,hc,fun i x hi=>?_⟩
  have:=h.cells (g:=g) rfl i (sV x) (by rw[List.getElem?_map,hi];rfl)
  rw[Addr.add_lit,Nat.zero_add]at this;rw[Nat.zero_add];exact this
theorem SRT.at_{w:World}{v:Value}{d:List Tx}(h:SRT w v d):∃a cap,v=.slice a d.length cap∧(d.length=0∨∃g off,a=some ⟨g,off,none⟩∧d.length≤cap∧∀k (hk:k<d.length),w.cell? ⟨g,off+k,none⟩=some (sV d[k])):=by
 rcases h with⟨A,cap,rfl,rfl⟩|⟨g,off,cap,rfl,hc,hx⟩
 ·exact⟨_,_,rfl,.inl rfl⟩
 ·exact⟨_,_,rfl,.inr ⟨g,off,rfl,hc,fun k hk=>hx k d[k] (List.getElem?_eq_getElem hk)⟩⟩
theorem Mw(v:Value)(l:List Tok)(i:Nat)(s:ByteArray)(w:World)(h:TR w v l)(hl:l.length≤1099511627776):
  Calls Tryz.prog 155 #[v,.int .i64 (i:Int),.string s] w fun e w'=>e=.returned (.bool (bi 5 [s.toList] l i))∧w'=w:=by
 obtain⟨a,cap,rfl,hx⟩:=Kw h;clear h
 by_cases hi:i<l.length
 ·rcases hx with h0|⟨g,off,rfl,bn,hx⟩
  ·omega
  ·obtain⟨x1,x2⟩:=hx i hi
   have l0:(0:Int)≤(i:Int):=by omega
   have l1:(i:Int)<(l.length:Int):=by omega
   rw[ID 5 [s.toList] hi,Ml]
   generalize l[i]=t at*
   obtain⟨kd,tx,ta⟩:=t;simp only at x1 x2⊢;clear hx hi
   by_cases hk:kd=5
   ·subst hk
    obtain⟨c,hc⟩:∃c,(tx.toList==s.toList)=c:=⟨_,rfl⟩;rw[hc];go_enter Tryz.func155,Tryz.ntmps155;go_wp2;go_ret;exact⟨rfl,rfl⟩
   ·have bK:(kd==(5:Int))=false:=by rw[beq_eq_false_iff_ne];exact hk
    rw[bK];clear hk;go_enter Tryz.func155,Tryz.ntmps155;go_wp2;go_ret;exact⟨rfl,rfl⟩
 ·have l1:¬((i:Int)<(l.length:Int)):=by omega
  rw[Kd 5 _ hi];clear hx hi;go_enter Tryz.func155,Tryz.ntmps155;go_wp2;go_ret;exact⟨rfl,rfl⟩
theorem Kg(v:Value)(l:List Tok)(i:Nat)(s:ByteArray)(w:World)(h:TR w v l)(hl:l.length≤1099511627776):
  Calls Tryz.prog 104 #[v,.int .i64 (i:Int),.string s] w fun e w'=>e=.returned (.bool (bi 1 [s.toList] l i))∧w'=w:=by
 obtain⟨a,cap,rfl,hx⟩:=Kw h;clear h;have l0:(0:Int)≤(i:Int):=by omega
 by_cases hi:i<l.length
 ·rcases hx with h0|⟨g,off,rfl,bn,hx⟩
  ·omega
  ·obtain⟨x1,x2⟩:=hx i hi
   have l1:(i:Int)<(l.length:Int):=by omega
   rw[ID 1 [s.toList] hi,Ml]
   generalize l[i]=t at*
   obtain⟨kd,tx,ta⟩:=t;simp only at x1 x2⊢;clear hx hi
   by_cases hk:kd=1
   ·subst hk
    obtain⟨c,hc⟩:∃c,(tx.toList==s.toList)=c:=⟨_,rfl⟩;rw[hc];go_enter Tryz.func104,Tryz.ntmps104;go_wp2;go_ret;exact⟨rfl,rfl⟩
   ·have bK:(kd==(1:Int))=false:=by rw[beq_eq_false_iff_ne];exact hk
    rw[bK];clear hk;go_enter Tryz.func104,Tryz.ntmps104;go_wp2;go_ret;exact⟨rfl,rfl⟩
 ·have l1:¬((i:Int)<(l.length:Int)):=by omega
  rw[Kd 1 _ hi];clear hx hi;go_enter Tryz.func104,Tryz.ntmps104;go_wp2;go_ret;exact⟨rfl,rfl⟩
theorem UO(v s:Value)(w:World):
  Calls Tryz.prog 104 #[v,.int .i64 (-1),s] w fun e w'=>e=.returned (.bool false)∧w'=w:=by
 go_enter Tryz.func104,Tryz.ntmps104;go_wp2;go_ret;exact⟨rfl,rfl⟩
theorem Nw{d:List Tx}{k:Nat}(hk:k<d.length)(x:Tx):(d.drop k).contains x=(x==d[k]||(d.drop (k+1)).contains x):=by
 rw[List.drop_eq_getElem_cons hk,List.contains_cons]
theorem Ta(v:Value)(d:List Tx)(s:ByteArray)(w:World)(h:SRT w v d)(hl:d.length≤1000000000000):
  Calls Tryz.prog 152 #[v,.string s] w fun e w'=>e=.returned (.bool (d.contains s.toList))∧w'=w:=by
 obtain⟨a,cap,rfl,hx⟩:=h.at_;obtain⟨R,hR⟩:∃R,d.contains s.toList=R:=⟨_,rfl⟩;rw[hR];obtain⟨HR,HX⟩:=hZ2 hR hx;clear h hR hx;go_enter Tryz.func152,Tryz.ntmps152;go_wp2
 go_loopg [5] d.length (fun g u5 wx=>∃k:Nat,u5=.int .i64 (k:Int)∧k+g=d.length∧R=(d.drop k).contains s.toList∧wx=w)
 case atStart=>exact⟨0,rfl,by omega,by rw[List.drop_zero];exact HR.out.symm,rfl⟩
 case round=>
  obtain⟨k,rfl,hk,hv,rfl⟩:=hrel
  cases gk with
  |zero=>
   have gY:k=d.length:=by omega
   have ax:R=false:=by rw[hv,gY,List.drop_length];rfl
   have l1:¬((k:Int)<(d.length:Int)):=by omega
   clear hv HX HR;subst ax;go_wp2;go_ret;exact⟨rfl,rfl⟩
  |succ g=>
   have aD:k<d.length:=by omega
   rcases HX.out with h0|⟨b,off,rfl,bn,hx⟩
   ·omega
   ·have c1:=hx k aD
    rw[Nw aD]at hv;have l0:(0:Int)≤(k:Int):=by omega
    have l1:(k:Int)<(d.length:Int):=by omega
    obtain⟨t,ht⟩:∃t:ByteArray,(⟨d[k].toArray⟩:ByteArray)=t:=⟨_,rfl⟩;have nZ:t.toList=d[k]:=by rw[←ht,KP]
    rw[←nZ]at hv;unfold sV at c1;rw[ht]at c1;obtain⟨k1,bq⟩:∃k1,k+1=k1:=⟨_,rfl⟩;have wk:IntKind.i64.wrap ((k:Int)+1)=(k1:Int):=by rw[show(k:Int)+1=(k1:Int) by omega];exact d7 (by omega)
    rw[bq]at hv;have kO:(s.toList==t.toList)=(t.toList==s.toList):=by rw[Bool.eq_iff_iff,beq_iff_eq,beq_iff_eq];exact⟨Eq.symm,Eq.symm⟩
    rw[kO]at hv;have cC:=qid bq;clear hx HX ht nZ bq HR kO;obtain⟨c,hc⟩:∃c,(t.toList==s.toList)=c:=⟨_,rfl⟩;rw[hc]at hv
    cases c
    ·have HV:=qid hv
     clear hv;go_wp2;go_roundg g
     case measure=>exact Nat.lt_succ_self _
     case rel=>exact⟨k1,rfl,by have:=cC.out;omega,by rw[HV.out,Bool.false_or],rfl⟩
    ·rw[Bool.true_or]at hv
     subst hv;go_wp2;go_ret;exact⟨rfl,rfl⟩
theorem UP(w:World)(d:List Tx)(e:TypeId):SRT (w.alloc (.cells (d.map sV).toArray e)) (.slice (some ⟨w.heap.size,0,none⟩) d.length d.length) d:=by
 refine .inr ⟨w.heap.size,0,d.length,rfl,Nat.le_refl _,fun i x hi=>?_⟩
 have hb:(w.alloc (.cells (d.map sV).toArray e)).heap[w.heap.size]? =some (.cells (d.map sV).toArray e):=by show(w.heap.push _)[w.heap.size]? =_;simp
 rw[World.cell?,hb];simp[hi]
theorem UQ(w:World):Calls Tryz.prog 187 #[] w fun e w'=>∃v,e=.returned v∧SRT w' v Is∧Below w.heap.size w w':=by
 go_enter Tryz.func187,Tryz.ntmps187;go_wp2;go_ret;exact⟨_,rfl,UP w Is _,gT _ _⟩
theorem Ls(v:Value)(l:List Tok)(i:Nat)(w:World)(h:TR w v l)(hl:l.length≤1000000):
  Calls Tryz.prog 154 #[v,.int .i64 (i:Int)] w fun e w'=>e=.returned (.bool (li l i))∧Below w.heap.size w w':=by
 obtain⟨a,cap,rfl,hx⟩:=Kw h;clear h;have l0:(0:Int)≤(i:Int):=by omega
 by_cases hi:i<l.length
 ·rcases hx with h0|⟨g,off,rfl,bn,hx⟩
  ·omega
  ·obtain⟨x1,x2⟩:=hx i hi
   have l1:(i:Int)<(l.length:Int):=by omega
   rw[Mk hi]
   generalize l[i]=t at*
   obtain⟨kd,tx,ta⟩:=t;simp only at x1 x2⊢;clear hx hi
   by_cases h2:kd=2
   ·subst h2
    go_enter Tryz.func154,Tryz.ntmps154;go_wp2
    go_quiet (fail)
    go_wp2;go_ret;exact⟨rfl,rfl,rfl,rfl,Nat.le_refl _,fun _ _=>rfl⟩
   ·have k2:(kd==(2:Int))=false:=by rw[beq_eq_false_iff_ne];exact h2
    rw[k2]
    by_cases h1:kd=1
    ·subst h1
     clear h2 k2;rw[Bool.false_or,show((1:Int)==1)=true from rfl,Bool.true_and];obtain⟨c,hc⟩:∃c,Is.contains tx.toList=c:=⟨_,rfl⟩;have eO:=fun vk W hk=>Ta vk Is tx W hk (by decide)
     simp only[hc]at eO;rw[hc];clear hc;go_enter Tryz.func154,Tryz.ntmps154;go_wp2;refine wp_region_held_drew (S:=(fun w':World=>w'.cell? ⟨g,off+i*3,none⟩=some (.int .i64 1)∧w'.cell? ⟨g,off+i*3+1,none⟩=some (.string tx)∧Below w.heap.size w w')) (by kernel_rfl) ?_ (fun hS=>?_)
     ·exact⟨x1,x2,⟨rfl,rfl,rfl,Nat.le_refl _,fun _ _=>rfl⟩⟩
     try dsimp only at hS
     refine tkY 0 ?_ rfl hS ?_ ?_;rotate_left
     ·intro wz a8;go_simp;all_goals with_reducible rfl
     iterate 18 ((try simp only[Act.put,pu]);refine tkM ?_ rfl hS ?_ ?_;rotate_left;(·intro wz a8;go_simp;all_goals with_reducible rfl))
     (try simp only[Act.put,pu]);refine tkY 20 ?_ rfl hS ?_ ?_;rotate_left
     ·intro wz a8;go_simp;all_goals with_reducible rfl
     iterate 4 ((try simp only[Act.put,pu]);refine tkM ?_ rfl hS ?_ ?_;rotate_left;(·intro wz a8;go_simp;all_goals with_reducible rfl))
     try simp only[Act.put,pu]
     refine wpAnyH_ready (rs:=[19]) (by kernel_rfl) (by simp) (AllReadyH.cons rfl (fun K hK=>?_) AllReadyH.nil)
     go_simp
     go_at_call 187;refine(UQ _).mono ?_;rintro e w2 ⟨vk,rfl,bK,aA⟩
     refine hK.out _ _ ?_ (fun aF=>?_)
     ·exact⟨(aA.cell (World.block_lt_of_cell? _ _ hS.1)).trans hS.1,(aA.cell (World.block_lt_of_cell? _ _ hS.2.1)).trans hS.2.1,hS.2.2.trans (aA.mono hS.2.2.size)⟩
     clear hK K hS;have hS:=aF;clear aF
     try dsimp only at hS
     try simp only[Act.put,pu]
     refine wpAnyH_ready (rs:=[25]) (by kernel_rfl) (by simp) (AllReadyH.cons rfl (fun K hK=>?_) AllReadyH.nil)
     go_simp
     go_at_call 152;refine(eO vk _ bK).mono ?_;rintro e w3 ⟨rfl,rfl⟩
     refine hK.out _ _ ?_ (fun aF=>?_)
     ·exact hS
     clear hK K hS;have hS:=aF;clear aF
     try dsimp only at hS
     (try simp only[Act.put,pu]);refine tkY 26 ?_ rfl hS ?_ ?_;rotate_left
     ·intro wz a8;go_simp;all_goals with_reducible rfl
     iterate 4 ((try simp only[Act.put,pu]);refine tkM ?_ rfl hS ?_ ?_;rotate_left;(·intro wz a8;go_simp;all_goals with_reducible rfl))
     try simp only[Act.put,pu]
     refine wpAnyH_done (by kernel_rfl) ?_ _
     go_wp2;go_ret;exact⟨rfl,hS.2.2⟩
    ·have k1:(kd==(1:Int))=false:=by rw[beq_eq_false_iff_ne];exact h1
     rw[k1];clear h1 h2;go_enter Tryz.func154,Tryz.ntmps154;go_wp2
     go_quiet (fail)
     go_wp2;go_ret;exact⟨rfl,rfl,rfl,rfl,Nat.le_refl _,fun _ _=>rfl⟩
 ·have l1:¬((i:Int)<(l.length:Int)):=by omega
  have ld:decide (i<l.length)=false:=by rw[decide_eq_false_iff_not];exact hi
  rw[NK hi];clear hx hi;go_enter Tryz.func154,Tryz.ntmps154;go_wp2
  go_quiet (fail)
  go_wp2;go_ret;exact⟨rfl,rfl,rfl,rfl,Nat.le_refl _,fun _ _=>rfl⟩
def NR(l:List Tok)(i:Nat)(w:World)(e:Ending)(w':World):Prop:=
 (∃s:ByteArray,e=.returned (.tuple #[.string s,.int .i64 ((i+bY l i:Nat):Int)])∧(bY l i≠0→s.toList=rt l i))∧Below w.heap.size w w'
theorem UR(v:Value)(l:List Tok)(i:Nat)(w:World)(h:TR w v l)(hl:l.length≤1000000)(hi:i≤1000000)(hz:∀t∈l,t.2.1.size≤1000000000):
  Calls Tryz.prog 153 #[v,.int .i64 (i:Int)] w (NR l i w):=by
 have lu:∀W,Below w.heap.size w W→Calls Tryz.prog 154 #[v,.int .i64 (i:Int)] W fun e w'=>e=.returned (.bool (li l i))∧Below w.heap.size w w':=fun W hW=>
  (Ls v l i W (h.below hW) hl).mono fun e w' h2=>⟨h2.1,hW.trans (h2.2.mono hW.size)⟩
 obtain⟨i1,aN⟩:∃i1,i+1=i1:=⟨_,rfl⟩;obtain⟨i2,gi⟩:∃i2,i+2=i2:=⟨_,rfl⟩;obtain⟨i3,Ad⟩:∃i3,i+3=i3:=⟨_,rfl⟩;have sD:∀W,Below w.heap.size w W→Calls Tryz.prog 154 #[v,.int .i64 (i2:Int)] W fun e w'=>e=.returned (.bool (li l i2))∧Below w.heap.size w w':=fun W hW=>
  (Ls v l i2 W (h.below hW) hl).mono fun e w' h2=>⟨h2.1,hW.trans (h2.2.mono hW.size)⟩
 have az:∀W,Below w.heap.size w W→Calls Tryz.prog 155 #[v,.int .i64 (i1:Int),.string ⟨#[46]⟩] W fun e w'=>e=.returned (.bool (bi 5 [[46]] l i1))∧w'=W:=fun W hW=>by
  have:=Mw v l i1 ⟨#[46]⟩ W (h.below hW) (by omega)
  rwa[show [(⟨#[46]⟩:ByteArray).toList]=[[46]] by rw[Lib.toList_data]]at this
 have w1:IntKind.i64.wrap ((i:Int)+1)=(i1:Int):=by rw[show(i:Int)+1=(i1:Int) by omega];exact d7 (by omega)
 have w2:IntKind.i64.wrap ((i:Int)+2)=(i2:Int):=by rw[show(i:Int)+2=(i2:Int) by omega];exact d7 (by omega)
 have w3:IntKind.i64.wrap ((i:Int)+3)=(i3:Int):=by rw[show(i:Int)+3=(i3:Int) by omega];exact d7 (by omega)
 have hn:bY l i=if li l i=false then 0 else if(bi 5 [[46]] l i1&&li l i2)=true then 3 else 1:=by rw[←aN,←gi];rfl
 have hx:rt l i=if bY l i=3 then Hz l i++[46]++Hz l i2 else Hz l i:=by rw[←gi];rfl
 have Ae:li l i=true→i<l.length:=Ka;have tu:li l i2=true→i2<l.length:=Ka;obtain⟨a,cap,rfl,dE⟩:=Kw h;have sE:∀k (hk:k<l.length),l[k].2.1.toList=Hz l k:=fun k hk=>by unfold Hz;rw[List.getElem?_eq_getElem hk]
 have Af:∀k (hk:k<l.length),l[k].2.1.size≤1000000000:=fun k hk=>hz _ (List.getElem_mem hk)
 have iA:∀k,k<l.length→∃s:ByteArray,s.toList=Hz l k∧s.size≤1000000000∧∃g off,a=some ⟨g,off,none⟩∧l.length≤cap∧∀W,Below w.heap.size w W→W.cell? ⟨g,off+k*3+1,none⟩=some (.string s):=fun k hk=>by
  rcases dE with h0|⟨g,off,e,hc,hx⟩
  ·omega
  ·refine⟨_,sE k hk,Af k hk,g,off,e,hc,fun W hW=>?_⟩
   have:=(hx k hk).2;exact(hW.cell (World.block_lt_of_cell? _ _ this)).trans this
 obtain⟨x8,tw,dL,j9,HX,HN⟩:=hZ6 lu sD az iA hx hn;have H1:=qid (And.intro aN (And.intro gi Ad));obtain⟨xA,lx⟩:=hZ2 Ae tu;clear lu sD az iA hx hn aN gi Ad Ae tu sE Af dE h hz
 generalize li l i=p at*
 generalize bi 5 [[46]] l i1=q at*
 generalize li l i2=r at*
 have l0:(0:Int)≤(i:Int):=by omega
 cases p
 ·have e0:bY l i=0:=by rw[HN.out];rfl
  unfold NR;rw[e0,Nat.add_zero];clear HX HN xA;go_enter Tryz.func153,Tryz.ntmps153;go_wp2_with (go_at_call 154;(with_reducible refine(x8.out _ (Below.refl _ _)).mono ?_);rintro e w4 ⟨rfl,ai⟩)
  go_ret2
  exact⟨⟨_,rfl,fun h=>absurd rfl h⟩,ai⟩
 ·obtain⟨s,hs,bH,g,off,rfl,bn,hc⟩:=j9.out i (xA.out rfl)
  have bw:=xA.out rfl;have l1:(i:Int)<(l.length:Int):=by omega
  obtain⟨HC,pf⟩:=hZ2 hc hs;clear hc hs bw xA
  cases q
  ·have e1:bY l i=1:=by rw[HN.out];rfl
   have ex:rt l i=Hz l i:=by rw[HX.out,e1,if_neg (by decide)]
   unfold NR;rw[e1,ex];have ei:i+1=i1:=H1.out.1;rw[ei];have D8:=qid ei;clear HX HN tw lx j9 ei e1 ex H1;go_enter Tryz.func153,Tryz.ntmps153;go_wp2_with (first
    |(go_at_call 154;(with_reducible refine(x8.out _ (Below.refl _ _)).mono ?_);rintro e w4 ⟨rfl,ai⟩;have cH:=qid ai;have c4:=HC.out _ ai;clear ai)
    |(go_at_call 155;(with_reducible refine(dL.out _ cH.out).mono ?_);rintro e w5 ⟨rfl,rfl⟩))
   go_ret2
   exact⟨⟨_,rfl,fun _=>pf.out⟩,cH.out⟩
  ·cases r
   ·have e1:bY l i=1:=by rw[HN.out];rfl
    have ex:rt l i=Hz l i:=by rw[HX.out,e1,if_neg (by decide)]
    unfold NR;rw[e1,ex];have ei:i+1=i1:=H1.out.1;rw[ei];have D8:=qid ei;clear HX HN lx j9 ei e1 ex H1;go_enter Tryz.func153,Tryz.ntmps153;go_wp2_with (first
     |(go_at_call 154;(with_reducible refine(x8.out _ (Below.refl _ _)).mono ?_);rintro e w4 ⟨rfl,ai⟩;have cH:=qid ai;clear ai)
     |(go_at_call 154;(with_reducible refine(tw.out _ cH.out).mono ?_);rintro e w6 ⟨rfl,ew⟩;have ju:=qid ew;have c6:=HC.out _ ew;clear ew)
     |(go_at_call 155;(with_reducible refine(dL.out _ cH.out).mono ?_);rintro e w5 ⟨rfl,rfl⟩))
    go_ret2
    exact⟨⟨_,rfl,fun _=>pf.out⟩,ju.out⟩
   ·have e1:bY l i=3:=by rw[HN.out];rfl
    have ex:rt l i=Hz l i++[46]++Hz l i2:=by rw[HX.out,e1,if_pos rfl]
    obtain⟨s2,bC,DA,g2,pY,eg,_,ey⟩:=j9.out i2 (lx.out rfl);injection eg with eg;injection eg with DB DC;subst DB DC;have xz:=lx.out rfl;have l2:(i2:Int)<(l.length:Int):=by omega
    have l3:(0:Int)≤(i2:Int):=by omega
    unfold NR;rw[e1,ex];have ei:i+3=i3:=H1.out.2.2;rw[ei];obtain⟨DD,y7⟩:=hZ2 ey bC;clear HX HN lx j9 ei e1 ex H1 ey bC xz;go_enter Tryz.func153,Tryz.ntmps153;go_wp2_with (first
     |(go_at_call 154;(with_reducible refine(x8.out _ (Below.refl _ _)).mono ?_);rintro e w4 ⟨rfl,ai⟩;have cH:=qid ai;clear ai)
     |(go_at_call 154;(with_reducible refine(tw.out _ cH.out).mono ?_);rintro e w6 ⟨rfl,ew⟩;have ju:=qid ew;have c6:=HC.out _ ew;have c7:=DD.out _ ew;clear ew)
     |(go_at_call 155;(with_reducible refine(dL.out _ cH.out).mono ?_);rintro e w5 ⟨rfl,rfl⟩))
    go_quiet (fail)
    go_wp2
    go_ret2
    refine⟨⟨_,rfl,fun _=>?_⟩,ju.out.trans ⟨rfl,rfl,rfl,Nat.le_refl _,fun _ _=>rfl⟩⟩
    simp only[Lib.toList_data,ByteArray.data_append,Array.toList_append]at *;rw[←pf.out,←y7.out]
theorem Zr{x y:UInt8}{r t:Tx}:decide (x::r<y::t)=(if x=y then decide (r<t)else decide (x<y)):=by
 by_cases h:x=y
 ·subst h
  rw[if_pos rfl];rw[Bool.eq_iff_iff,decide_eq_true_eq,decide_eq_true_eq,List.cons_lt_cons_iff];exact⟨fun h=>h.elim (fun h=>absurd h (UInt8.lt_irrefl _)) And.right,fun h=>.inr ⟨rfl,h⟩⟩
 ·rw[if_neg h,Bool.eq_iff_iff,decide_eq_true_eq,decide_eq_true_eq,List.cons_lt_cons_iff]
  exact⟨fun h2=>h2.elim id fun h3=>absurd h3.1 h,.inl⟩
theorem OI(s:ByteArray)(i:Nat)(h:i<s.size):s.toList.drop i=s[i]::s.toList.drop (i+1):=by
 rw[Lib.toList_data];have h2:i<s.data.toList.length:=by simpa using h
 rw[List.drop_eq_getElem_cons h2]
 congr 1
theorem Mx(l:Tx)(k:Nat)(h:l.length≤k):l.drop k=[]:=by simp;omega
theorem WT(s:ByteArray):s.toList.length=s.size:=by rw[Lib.toList_data];rfl
theorem Lt(s t:ByteArray)(w:World)(hs:s.size≤4000000000)(ht:t.size≤4000000000):
  Calls Tryz.prog 49 #[.string s,.string t] w fun e w'=>e=.returned (.bool (decide (s.toList<t.toList)))∧∃n,w'=w.drewN n:=by
 obtain⟨R,hR⟩:∃R,decide (s.toList<t.toList)=R:=⟨_,rfl⟩;rw[hR];have HR:=qid hR;clear hR;go_enter Tryz.func49,Tryz.ntmps49;go_wp2
 go_loopg [5] s.size (fun g u5 wx=>∃k:Nat,u5=.int .i64 (k:Int)∧k+g=s.size∧k≤t.size∧R=decide (s.toList.drop k<t.toList.drop k)∧∃n,wx=w.drewN n)
 case atStart=>exact⟨0,rfl,by omega,Nat.zero_le _,HR.out.symm,0,rfl⟩
 case round=>
  obtain⟨k,rfl,hk,ox,hv,n0,rfl⟩:=hrel;have HV:=qid hv;clear hv HR;have ls:=WT s;have lt:=WT t;obtain⟨j',cj⟩:=hZ2 ls lt;clear ls lt
  by_cases h1:k<s.size
  ·have i1:(k:Int)<(s.size:Int):=by omega
   by_cases h2:k<t.size
   ·have i2:(k:Int)<(t.size:Int):=by omega
    have l0:(0:Int)≤(k:Int):=by omega
    obtain⟨g,rfl⟩:∃g,gk=g+1:=⟨gk-1,by omega⟩
    have ax:=HV.out;rw[OI s k h1,OI t k h2,Zr]at ax;obtain⟨z,hz⟩:∃z:Int,((s[k]'h1).toNat:Int)=z:=⟨_,rfl⟩;obtain⟨y,hy⟩:∃y:Int,((t[k]'h2).toNat:Int)=y:=⟨_,rfl⟩;have heq:s[k]=t[k]↔z=y:=by
     rw[←hz,←hy];exact⟨fun h=>by rw[h],fun h=>UInt8.toNat_inj.1 (by omega)⟩
    have aD:decide (s[k]<t[k])=decide (z<y):=by
     rw[←hz,←hy,Bool.eq_iff_iff,decide_eq_true_eq,decide_eq_true_eq,UInt8.lt_iff_toNat_lt];omega
    obtain⟨k1,bq⟩:∃k1,k+1=k1:=⟨_,rfl⟩;have wk:IntKind.i64.wrap ((k:Int)+1)=(k1:Int):=by rw[show(k:Int)+1=(k1:Int) by omega];exact d7 (by omega)
    rw[bq]at ax
    by_cases sF:z=y
    ·rw[if_pos (heq.2 sF)]at ax
     have ne:(z != y)=false:=by rw[bne_eq_false_iff_eq];exact sF
     obtain⟨cO,cC,HH,ek⟩:=hZ4 ax bq h1 h2;subst sF;clear ax HV heq aD bq;go_wp2
     go_quiet (fail)
     go_wp2;go_roundg g
     case measure=>exact Nat.lt_succ_self _
     case rel=>exact⟨k1,rfl,by have:=cC.out;omega,by have:=cC.out;have:=ek.out;omega,cO.out,_,rfl⟩
    ·rw[if_neg (fun h=>sF (heq.1 h)),aD]at ax
     have ne:(z != y)=true:=by rw[bne_iff_ne];exact sF
     subst ax;clear HV heq aD sF bq;go_wp2
     go_quiet (fail)
     go_wp2
     go_quiet (fail)
     go_wp2;go_ret;refine⟨rfl,?_⟩;rw[World.drewN_drewN,World.drewN_drewN];exact⟨_,rfl⟩
   ·have i2:¬((k:Int)<(t.size:Int)):=by omega
    have ax:R=false:=by
     rw[HV.out,decide_eq_false_iff_not,Mx t.toList k (by rw[cj.out];omega)]
     exact List.not_lt_nil _
    have bH:decide ((s.size:Int)<(t.size:Int))=false:=by rw[decide_eq_false_iff_not];omega
    have y8:decide (s.size<t.size)=false:=by rw[decide_eq_false_iff_not];omega
    subst ax;clear HV;go_wp2;go_ret;exact⟨by simp[y8],_,rfl⟩
  ·have i1:¬((k:Int)<(s.size:Int)):=by omega
   have y9:k=s.size:=by omega
   obtain⟨c,hc⟩:∃c,decide (s.size<t.size)=c:=⟨_,rfl⟩;have ax:R=c:=by
    rw[HV.out,←hc,Mx s.toList k (by rw[j'.out];omega)]
    by_cases h3:s.size<t.size
    ·rw[OI t k (by omega),decide_eq_true h3];simp
    ·rw[Mx t.toList k (by rw[cj.out];omega),decide_eq_false h3];simp
   subst ax;clear HV y9;go_wp2;go_ret;exact⟨by simp[hc],_,rfl⟩
def Ia(x:List Tv)(i:Nat)(n:ByteArray):List Tv:=x.take i++(n,.slice none 0 0,[])::x.drop i
theorem Tc(x:List Tv)(i:Nat)(n:ByteArray):tbs (Ia x i n)=(tbs x).take i++(n,[])::(tbs x).drop i:=by
 unfold tbs Ia;rw[List.map_append,List.map_cons,List.map_take,List.map_drop]
theorem PJ(x:List Tv)(i:Nat)(n:ByteArray)(h:i≤x.length):(Ia x i n).length=x.length+1:=Lw x i _ h
theorem FS.ins{w w1:World}{B g:Nat}{V V':Value}{x:List Tv}(h:FS B w V x)(hV:V.ownBlock=some g)(i:Nat)(hi:i≤x.length)(n:ByteArray)(hg:w.grownBy w1 (some g))(ho:w1.ownsRow B 55 2 V' (Ia x i n).length (tcs (Ia x i n))):FS B w1 V' (Ia x i n):=by
 have old:∀b∈x,OR B w1 b.2.1 b.2.2:=fun b hb=>lE (h.rows b hb) fun k hk=>hg.block k ((h.rows b hb).lt k hk).2 (fun e=>JC h.own (h.rows b hb) hV hk JL (by injection e with e;exact e.symm))
 refine⟨ho,fun b hb=>?_,fun a b p q fa ha hb=>?_⟩
 ·unfold Ia at hb
  rcases List.mem_append.1 hb with hb|hb
  ·exact old b (List.mem_of_mem_take hb)
  ·rcases List.mem_cons.1 hb with rfl|hb
   ·exact World.ownsRow_nil _ _ _ _
   ·exact old b (List.mem_of_mem_drop hb)
 ·unfold Ia at ha hb
  rw[Rz x i _ hi]at ha hb;have hnew:∀p:Tv,UZ p (n,.slice none 0 0,[]):=fun p=>by
   unfold UZ
   cases hp:p.2.1.ownBlock with
   |none=>exact .inl rfl
   |some k=>exact .inr (fun e=>by cases e)
  have tz:∀p:Tv,UZ (n,.slice none 0 0,[]) p:=fun p=>.inl rfl
  split at ha
  ·split at hb
   ·exact h.apart a b p q fa ha hb
   ·split at hb
    ·injection hb with hb;subst hb;exact hnew p
    ·exact h.apart a (b-1) p q (by omega) ha hb
  ·split at ha
   ·injection ha with ha;subst ha;exact tz q
   ·split at hb
    ·exact h.apart (a-1) b p q (by omega) ha hb
    ·split at hb
     ·injection hb with hb;subst hb;exact hnew p
     ·exact h.apart (a-1) (b-1) p q (by omega) ha hb
theorem Zs{B:Nat}{w:World}{V:Value}{x:List Tv}(h:FS B w V x):∀v∈tcs x,v.oneCell'=true:=Lz _ _ fun p hp=>by
 obtain⟨t,ht,rfl⟩:=List.mem_map.1 hp;obtain⟨a,c,e⟩:=Ac (h.rows t ht);exact⟨rfl,by show t.2.1.oneCell'=true;rw[e];rfl⟩
theorem Ro(B g:Nat)(x:List Tv)(i:Nat)(n:ByteArray)(vb:Nat)(w:World)(h:FS B w (.slice (some ⟨g,0,none⟩) x.length x.length) x)(jv:w.cell? ⟨vb,0,none⟩=some (.string n))(gm:w.cell? ⟨vb,1,none⟩=some (.slice none 0 0))(hi:i≤x.length)(hl:x.length≤1000000)(hB:B≤w.heap.size):
  Calls Tryz.prog 68 #[.slice (some ⟨g,0,none⟩) x.length x.length,.int .i64 (i:Int),.slice (some ⟨vb,0,none⟩) 1 1] w fun e w'=>
   ∃h' c,e=.returned (.slice (some ⟨h',0,none⟩) (Ia x i n).length c)∧FS B w' (.slice (some ⟨h',0,none⟩) (Ia x i n).length c) (Ia x i n)∧Below B w w':=by
 obtain⟨tp,uA⟩:∃tp:Tv→Value×Value,tp=fun t=>(.string t.1,t.2.1):=⟨_,rfl⟩
 have e0:tcs x=fl (x.map tp):=by unfold tcs;rw[uA]
 have e1:(x.map tp).length=x.length:=List.length_map ..;have e2:(x.map tp).take i++(.string n,.slice none 0 0)::(x.map tp).drop i=(Ia x i n).map tp:=by
  unfold Ia;rw[List.map_append,List.map_cons,List.map_take,List.map_drop,uA]
 have fU:w.ownsRow B 55 2 (.slice (some ⟨g,0,none⟩) (x.map tp).length (x.map tp).length) (x.map tp).length (fl (x.map tp)):=by rw[e1,←e0];exact h.own
 have:=Qw B g (x.map tp) i (.string n) (.slice none 0 0) vb w fU (by rw[←e0];exact Zs h) rfl rfl jv gm (by rw[e1];exact hi) (by rw[e1];exact hl) hB
 rw[e1,e2]at this;refine this.mono ?_;rintro e w' ⟨h',c,h1,h2,h3,h4⟩;rw[List.length_map]at h1 h2;have e3:fl ((Ia x i n).map tp)=tcs (Ia x i n):=by unfold tcs;rw[uA]
 rw[e3]at h2;exact⟨h',c,h1,FS.ins h rfl i hi n h3 h2,Qx h3 hB (fun k hk=>by injection hk with hk;rw[←hk];exact(h.own.lt g rfl).1)⟩
def Td(B g:Nat)(x:List Tv)(n:ByteArray)(w:World)(e:Ending)(w':World):Prop:=
 ∃V y k,e=.returned (.tuple #[V,.int .i64 k])∧FS B w' V y∧Below B w w'∧(tbs y,k)=(if 16≤x.length then(tbs x,(11:Int))else(H9 (tbs x) n,0))
theorem Rp(B g:Nat)(x:List Tv)(n:ByteArray)(w:World)(h:FS B w (.slice (some ⟨g,0,none⟩) x.length x.length) x)(hu:upN (tbs x))(hl:x.length≤1000000)(hn:n.size≤1000000)(hB:B≤w.heap.size):
  Calls Tryz.prog 74 #[.slice (some ⟨g,0,none⟩) x.length x.length,.string n] w (Td B g x n w):=by
 obtain⟨HF,HB,HL⟩:=hZ3 h hB hl
 by_cases dR:16≤x.length
 ·have pz:(16:Int)≤(x.length:Int):=by omega
  have hP:∀w',w'=w→Td B g x n w (.returned (.tuple #[.slice (some ⟨g,0,none⟩) x.length x.length,.int .i64 11])) w':=by
   rintro w' rfl;exact⟨_,x,11,rfl,h,Below.refl _ _,by rw[if_pos dR]⟩
  have HP:=qid hP;clear h hu hl hn hB dR hP;go_enter Tryz.func74,Tryz.ntmps74;go_wp2
  go_ret2
  exact HP.out _ rfl
 ·have pz:¬((16:Int)≤(x.length:Int)):=by omega
  obtain⟨L,hL⟩:∃L,oR (tbs x) n=L:=⟨_,rfl⟩;have au:L≤x.length:=by rw[←hL,←mt];exact IF (ltN n) _
  have o6:=h.sr;have HS:=P6 _ (tbs x) n w o6 (P0 hu n) (by rw[mt];exact hl)
  rw[hL]at HS;have nK:=qid HS;have iB:=qid (fun W=>Hp n W (Nat.le_trans hn (by decide)))
  have q7:=qid au;have bP:∀V y (w':World),FS B w' V y→y=Ia x L n→Below B w w'→Td B g x n w (.returned (.tuple #[V,.int .i64 0])) w':=by
   rintro V y w' h1 rfl h2;refine⟨V,_,0,rfl,h1,h2,?_⟩;rw[if_neg dR,Tc];unfold H9;rw[hL]
  have gL:=qid bP;clear h hu hl hn hB dR hL au o6 HS bP;go_enter Tryz.func74,Tryz.ntmps74;go_wp2_with (first
   |(go_at_call 65;(refine nK.out.mono ?_);rintro e w2 ⟨rfl,aA⟩;have aL:=qid aA;clear aA)
   |(go_at_call 48;(refine(iB.out _).mono ?_);rintro e w3 ⟨rfl,aG⟩;have ai:=aL.out.trans (aG.mono aL.out.size);have gl:=ai.alloc ai.size (.cells #[.string n,.slice none 0 0] 55);have dh:=qid gl;have q8:=qid (Ro B g x L n w3.heap.size (w3.alloc (.cells #[.string n,.slice none 0 0] 55)) (HF.out.below gl) ((Blk.new w3 _ _).cell 0) ((Blk.new w3 _ _).cell 1) q7.out HL.out (Nat.le_trans HB.out gl.size));clear aG ai gl)
   |(go_at_call 68;(refine q8.out.mono ?_);rintro e w4 ⟨h',c',rfl,eM,ai⟩;obtain⟨iV,cH⟩:=hZ2 eM ai;clear eM ai))
  go_ret2
  exact gL.out _ _ _ iV.out rfl ((dh.out.mono HB.out).trans cH.out)
end Go.Proofs.YtpgddamhdfmdjaaGreatDoor
