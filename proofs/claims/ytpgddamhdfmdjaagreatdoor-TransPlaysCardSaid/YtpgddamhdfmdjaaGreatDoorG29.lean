/- Crd Dq Dr -/
import Derived.Test.YtpgddamhdfmdjaaGreatDoorG8
import Derived.Test.YtpgddamhdfmdjaaGreatDoorTie
import Derived.Test.YtpgddamhdfmdjaaGreatDoorCards
import Derived.HandedShaped
import Derived.Handed
import Derived.Lay
import Derived.LaidMore
import Derived.SevenTiedAt
import Derived.Shelf.Vars
import Derived.SizedLaws
import Derived.ChangeOld
import Derived.Carry
import Derived.Test.YtpgddamhdfmdjaaGreatDoorG14
import Derived.Lib.LaidU8
import Derived.Stop.LaidErr
import Derived.Test.YtpgddamhdfmdjaaGreatDoorG2
import Derived.Deep.Slices
import Derived.Deep.Fields
import Derived.ChangeSame
import Derived.Lib.SmallJoins
import Derived.Test.YtpgddamhdfmdjaaGreatDoorG1
set_option linter.unusedSimpArgs false
set_option linter.unusedVariables false
set_option maxRecDepth 100000
set_option maxHeartbeats 16000000
namespace Go.Proofs.YtpgddamhdfmdjaaGreatDoor
open Go.ChangeShapes Go.WideShapes Go.ChangeAt Go.RowKit
theorem X5{W:World}(h:W.ShapedOpen Tryz.prog):∃m,Wd m W:=
 cell_of_shapedOpen_int (g:=1) (zero:=#[.int .i64 0]) (t:=3) h (of_decide_eq_true (by kernel_rfl)) (by kernel_rfl) rfl (by kernel_rfl) (by kernel_rfl) Tryz.underlying3
theorem O6{H:Type}{enc:TypeId×Value→H}{a:Assume}{C:Checked}{os:Os}{f:FuncId}{fn:Func}{s:ChangeSpec}{conds:List PathCond}{apart fresh handsOn again:Bool}{laid:List (String×DataW Unit)}(nC:(laid.all fun x=>x.2.handleName?.isNone)=true)(own:ownKnob C.prog.godebug=none)(started:os.Started)(rJ:C.prog.inits.idxOf? f=none)(EH:C.prog.funcs[f]? =some fn)(witness:∃(w:World) (tape:Tape) (i:Input),w.os=os∧(w.forCall tape i).Shaped C.prog∧i.vars=[]∧Input.okWide C.prog (w.forCall tape i) .any w.heap.size f i∧
   ((s.pre enc C.prog fn conds apart (w.forCall tape i).memory i.args∧laidMetH C.prog laid (w.forCall tape i).memory)∧sizedMet enc C.prog fn (OpenSpec.ofChange s) apart (w.forCall tape i).memory i.args)∧a.holds C.prog (lone (Frame.enter C.prog f i.args .normal) [] (w.forCall tape i)))(mX:∀(W:World) (base:Nat) (args:Array Value) (ds gs:List (DataW H)) (before:List MemPlace),
   (∀(j:Nat) t v,fn.params[j]? =some t→args[j]? =some v→Value.okWide C.prog W .any base t v)→
   DataW.Whole enc C.prog fn.params.toList s.vars apart W args.toList ds gs before→
   conds.all (PathCond.test C.prog ⟨fn.params.toList,ds,s.plain.varTypes C.prog,gs⟩)=true→
   (DataW.weightsEach C.prog (fn.params.toList++s.plain.varTypes C.prog) (ds++gs)).all (· ≤reachBytes)=true→
   W.ShapedOpen C.prog∧laidMet C.prog laid W→
   a.holds C.prog (lone (Frame.enter C.prog f args .normal) [] W)→
   Calls C.prog f args W fun e W'=>∃v,e=.returned v∧s.post enc C.prog fn apart fresh handsOn again W args v W'):
  ReturnsInHanded a C os f .any (fun w args=>(s.pre enc C.prog fn conds apart w args∧laidMetH C.prog laid w)∧sizedMet enc C.prog fn (OpenSpec.ofChange s) apart w args) (s.post enc C.prog fn apart fresh handsOn again):=by
 refine returnsInHanded_of_calls own started rJ witness ?_;intro w tape i _ l' _ gf oK rK;obtain⟨_,_,_,EI,zL,_,_,_,_,di⟩:=gf;obtain rfl:EI=fn:=Option.some.inj (zL.symm.trans EH);obtain⟨⟨⟨ds,gs,before,hw,hc⟩,hx⟩,hz⟩:=oK;rw[MakeChecks.laidMetH_plain _ _ _ nC]at hx;refine(mX (w.forCall tape i) w.heap.size i.args ds gs before di (DataW.Whole.of_heap (w':=w.forCall tape i) (by rfl) hw) hc (hz.weights hw) ⟨l',laidMet.of_heap (w:=(w.forCall tape i).memory) (w':=w.forCall tape i) rfl hx⟩ rK).mono fun e W' ⟨v,he,hp⟩=>?_
 subst he;exact ChangeSpec.post_blind hp
theorem Sc{W:World}{fuel:Nat}{cs:List Value}{p:List MemPlace}{k:Int}{b:Bool}{s:List UInt8}(h:DataW.trod (fun _=>()) Tryz.prog W 0 (fun _=>true) false fuel 102 cs=some (.agg [.lit (.int .i64 k),.lit (.bool b),.lit (.string s)],p)):
  cs=[.int .i64 k,.bool b,.string ⟨s.toArray⟩]:=by
 have hu:=Tryz.underlying102;have EJ:Tryz.prog.cellsOf 102=3:=by kernel_rfl
 have c3:Tryz.prog.cellsOf 3=1:=by kernel_rfl
 have c4:Tryz.prog.cellsOf 4=1:=by kernel_rfl
 have c9:Tryz.prog.cellsOf 9=1:=by kernel_rfl
 obtain⟨xs,n,rfl,hx,hl,eE,cU⟩:=DataW.trod_struct hu h;rw[EJ]at hl;have vj:xs.map (·.1)=[.lit (.int .i64 k),.lit (.bool b),.lit (.string s)]:=by
  have:=congrArg Prod.fst hx
  simpa using this.symm
 match cs,hl with
 | [a0,a1,a2],_=>
   match xs,eE,vj,cU with
   | [y0,y1,y2],_,vj,cU=>
     have h0:DataW.trod (fun _=>()) Tryz.prog W 0 (fun _=>true) false n 3 ((([a0,a1,a2]:List Value).drop 0).take (Tryz.prog.cellsOf 3))=([y0,y1,y2]:List (DataW Unit×List MemPlace))[0]? :=cU 0 _ rfl
     have h1:DataW.trod (fun _=>()) Tryz.prog W 0 (fun _=>true) false n 4 ((([a0,a1,a2]:List Value).drop 1).take (Tryz.prog.cellsOf 4))=([y0,y1,y2]:List (DataW Unit×List MemPlace))[1]? :=cU 1 _ rfl
     have h2:DataW.trod (fun _=>()) Tryz.prog W 0 (fun _=>true) false n 9 ((([a0,a1,a2]:List Value).drop 2).take (Tryz.prog.cellsOf 9))=([y0,y1,y2]:List (DataW Unit×List MemPlace))[2]? :=cU 2 _ rfl
     rw[c3]at h0;rw[c4]at h1;rw[c9]at h2;obtain⟨EK,EL⟩:=y0;obtain⟨EM,EN⟩:=y1;obtain⟨EO,EP⟩:=y2;obtain⟨z,e0,f0,_⟩:=DataW.trod_int (x:=(EK,EL)) Tryz.underlying3 h0;obtain⟨q,e1,f1⟩:=DataW.trod_bool (x:=(EM,EN)) Tryz.underlying4 h1;obtain⟨r,e2,f2,_⟩:=DataW.trod_string (x:=(EO,EP)) Tryz.underlying9 h2;injection f0 with f0 _;injection f1 with f1 _;injection f2 with f2 _;subst f0 f1 f2;simp only[List.map_cons,List.map_nil,List.cons.injEq,and_true,DataW.lit.injEq,Lit.int.injEq,Lit.bool.injEq,Lit.string.injEq,true_and,List.drop_zero,List.drop_succ_cons,List.take_succ_cons,List.take_zero]at vj e0 e1 e2;obtain⟨g0,g1,g2⟩:=vj;subst e0 e1 e2 g0 g1 g2
     rfl
theorem Sd{W : World}(h : Lib.VarReads Tryz.prog W "pontoon/state.forms" Rows.laid_pontoon_state_forms): ∃ t fr, W.heap[0]? = some (.cells ms t fr) := by
 obtain ⟨g,t,cs,fuel,p,hg,ER,jQ,hd⟩ := h;obtain rfl := Option.some.inj ((show Tryz.prog.globalNamed "pontoon/state.forms" = some 0 by kernel_rfl).symm.trans hg)
 obtain rfl:=Option.some.inj ((show(Tryz.prog.globals[0]?).map (·.type)=some 103 by kernel_rfl).symm.trans ER)
 have vn:Tryz.prog.cellsOf 102=3:=by kernel_rfl
 have zM:Tryz.prog.cellsOf 103=21:=by kernel_rfl
 have Br:=fun i hi=>Lib.array_elem Tryz.underlying103 hd i hi
 rw[vn]at Br;have kP:cs.toList.length=21:=by
  cases fuel with
  |zero=>simp[DataW.trod]at hd
  |succ fuel=>
   simp only[DataW.trod,Tryz.underlying103,vn,zM]at hd
   split at hd
   ·rename_i hl;simpa using hl
   ·cases hd
 have key:∀(i:Nat) (hi:i<7) (k:Int) (b:Bool) (s:List UInt8),(match Rows.laid_pontoon_state_forms (H:=Unit)with| .agg ds=>ds[i]? |_=>none)=some (.agg [.lit (.int .i64 k),.lit (.bool b),.lit (.string s)])→(cs.toList.drop (i*3)).take 3=[.int .i64 k,.bool b,.string ⟨s.toArray⟩]:=by
  intro i hi k b s hs;obtain⟨f',d,q,h1,h2⟩:=Br i hi;have:some d=some (DataW.agg [.lit (.int .i64 k),.lit (.bool b),.lit (.string s)]):=h1.symm.trans hs;injection this with this;subst this;exact Sc h2
 have k0:=key 0 (by decide) _ _ _ rfl
 have k1:=key 1 (by decide) _ _ _ rfl
 have k2:=key 2 (by decide) _ _ _ rfl
 have k3:=key 3 (by decide) _ _ _ rfl
 have k4:=key 4 (by decide) _ _ _ rfl
 have k5:=key 5 (by decide) _ _ _ rfl
 have k6:=key 6 (by decide) _ _ _ rfl
 have gC:cs.toList=dl.flatMap S6:=by
  have rL:cs.toList=(cs.toList.drop (0*3)).take 3++((cs.toList.drop (1*3)).take 3++((cs.toList.drop (2*3)).take 3++((cs.toList.drop (3*3)).take 3++((cs.toList.drop (4*3)).take 3++((cs.toList.drop (5*3)).take 3++(cs.toList.drop (6*3)).take 3))))):=by
   generalize cs.toList=L at kP
   match L,kP with
   | [_,_,_,_,_,_,_,_,_,_,_,_,_,_,_,_,_,_,_,_,_],_=>rfl
  rw[rL,k0,k1,k2,k3,k4,k5,k6]
  rfl
 have ES:cs=ms:=by
  apply Array.toList_inj.1
  rw[gC]
  rfl
 subst ES;unfold World.var? at jQ;rw[hg]at jQ;simp only[Option.bind_some]at jQ
 split at jQ
 ·rename_i c t fr he
  injection jQ with jQ;subst jQ;exact⟨t,fr,he⟩
 ·cases jQ
theorem Qt: "*" ++ "errors.errorString" = "*errors.errorString" := by decide
theorem Z9(u : TypeId)(h : Tryz.prog.typeName? 3 u = some "*errors.errorString"): u = 311 :=
 typeName_ptr_named (nm := "errors.errorString") (by rw [Qt]; kernel_rfl) (by kernel_rfl) (by decide) u (by rw [Qt]; exact h)
theorem qaa{W:World}(hs:W.ShapedOpen Tryz.prog)(hL:laidMet Tryz.prog Rows.transPlaysRow.laid W):∃m,Wq m W:=by
 obtain⟨m,hm⟩:=X5 hs;refine⟨m,hm,?_,?_,?_⟩
 ·have h3 : laidMet Tryz.prog (("internal/strconv.uint64pow10", Lib.tabData .u64 Lib.pow10Tab) :: _) W := hL.tail.tail
  exact Lib.tabIs_of_head (show Tryz.prog.globalNamed "internal/strconv.uint64pow10" = some 2 by kernel_rfl) (by kernel_rfl) Tryz.underlying251 Tryz.underlying160 (by kernel_rfl) (by kernel_rfl) h3
 ·exact Sd (Lib.laidMet.reads hL (by simp[Rows.transPlaysRow]))
 ·obtain ⟨a, s, hv, _⟩ := laid_sentinel (hL.tail.tail.tail.tail.tail) (show Tryz.prog.globalNamed "strconv.ErrSyntax" = some 3 by kernel_rfl) (by kernel_rfl) Tryz.underlying213 Z9 Tryz.underlying311 Tryz.underlying313 rfl rfl Tryz.underlying9 (by kernel_rfl) (by kernel_rfl)
  refine ⟨_, World.var?_cell (show Tryz.prog.globalNamed "strconv.ErrSyntax" = some 3 by kernel_rfl) hv 0, .inr ⟨_, _, rfl⟩⟩
end Go.Proofs.YtpgddamhdfmdjaaGreatDoor
namespace Go.Proofs.YtpgddamhdfmdjaaGreatDoor
open Go.ChangeShapes Go.WideShapes Go.ChangeAt Go.RowKit
open Go.ChangeMaps (open_string shut_string)
open Go.Deep
theorem O7:Tryz.prog.cellsOf 3=1:=by kernel_rfl
theorem X6:Tryz.prog.cellsOf 4=1:=by kernel_rfl
theorem TL:Tryz.prog.cellsOf 9=1:=by kernel_rfl
theorem X7:Tryz.prog.cellsOf 39=1:=by kernel_rfl
theorem LG(x:Int)(h:(Lit.int .i64 x).wf=true):f7 x:=by
 unfold f7;simp[Lit.wf,IntKind.min,IntKind.max,IntKind.signed,IntKind.bits]at h;omega
section
variable {H:Type} {enc:TypeId×Value→H} {W:World}
theorem Se{n:Nat}{cs:List Value}{x:DataW H×List MemPlace}(ht:DataW.trod enc Tryz.prog W 0 (fun _=>true) true n 57 cs=some x):
  ∃r:Rw,cs[0]? =some (.int .i64 r.1)∧cs[1]? =some (.int .i64 r.2):=by
 obtain⟨xs,m,_,hx,hl,eE,hf⟩:=DataW.trod_struct Tryz.underlying57 ht
 match xs,eE with
 | [y0,y1],_=>
   have h0:DataW.trod enc Tryz.prog W 0 (fun _=>true) true m 3 (List.take (Tryz.prog.cellsOf 3) (List.drop 0 cs))=some y0:=hf 0 _ rfl
   have h1:DataW.trod enc Tryz.prog W 0 (fun _=>true) true m 3 (List.take (Tryz.prog.cellsOf 3) (List.drop 1 cs))=some y1:=hf 1 _ rfl
   rw[O7]at h0 h1;obtain⟨x,e0,_,w0⟩:=DataW.trod_int Tryz.underlying3 h0;obtain⟨z,e1,_,w1⟩:=DataW.trod_int Tryz.underlying3 h1;refine⟨(x,z),?_,?_⟩
   ·have:=congrArg (·[0]?) e0
    simpa using this
   ·have:=congrArg (·[0]?) e1
    simpa using this
theorem N7{ad:Addr}{x:Value}(h:W.cell? ad=some x):ad.spot=none:=by
 unfold World.cell? at h
 cases hs:ad.spot with
 |none=>rfl
 |some q=>rw[hs]at h;revert h;split<;>simp
theorem X8{α:Type}{ts te:TypeId}{Q:α→Value→Value→Prop}(hu:Tryz.prog.underlying ts=some (.slice te))(hC:Tryz.prog.cellsOf te=2)(one:∀ {n:Nat} {cs:List Value} {x:DataW H×List MemPlace},DataW.trod enc Tryz.prog W 0 (fun _=>true) true n te cs=some x→∃(a:α) (v0 v1:Value),cs[0]? =some v0∧cs[1]? =some v1∧Q a v0 v1){fuel:Nat}{c:Value}{x:DataW H×List MemPlace}(h:DataW.trod enc Tryz.prog W 0 (fun _=>true) true fuel ts [c]=some x):
  c=.slice none 0 0∨∃(l:List α) (ad:Addr) (cap:Nat),c=.slice (some ad) l.length cap∧l.length≤cap∧∀(i:Nat) (a:α),l[i]? =some a→∃v0 v1,W.cell? (ad.add (i*2))=some v0∧W.cell? ((ad.add (i*2)).add 1)=some v1∧Q a v0 v1:=by
 rcases open_slice hu h with⟨e,_⟩|⟨ad,len,cap,m,n,D,Pl,gC,hb,hl,hm,pc,hx,hi⟩
 ·injection e with e _
  exact .inl e
 ·injection gC with gC _
  subst gC;rw[hC]at hi;have ET:len≤m:=by rw[pc];simp;exact hl
  have key:∀j,j≤len→∃l:List α,l.length=j∧∀(i:Nat) (a:α),l[i]? =some a→∃v0 v1,W.cell? (ad.add (i*2))=some v0∧W.cell? ((ad.add (i*2)).add 1)=some v1∧Q a v0 v1:=by
   intro j
   induction j with
   |zero=>intro _;exact⟨[],rfl,fun i x hi=>by simp at hi⟩
   |succ j ih=>
    intro hj;obtain⟨l,h1,h2⟩:=ih (by omega)
    obtain⟨mv,hc,ht⟩:=hi j (by omega)
    obtain⟨_,kP,al⟩:=World.cells?_some hc;obtain⟨a,v0,v1,e0,e1,hq⟩:=one ht;refine⟨l++[a],by simp[h1],fun i x gw=>?_⟩
    by_cases eT:i<l.length
    ·rw[List.getElem?_append_left eT]at gw
     exact h2 i x gw
    ·have aD:=(List.getElem?_eq_some_iff.1 gw).1
     have uT:i=j:=by simp at aD;omega
     subst uT;rw[List.getElem?_append_right (by omega),h1,Nat.sub_self]at gw
     simp at gw;subst gw;have a0:=al 0 (by omega)
     have a1:=al 1 (by omega)
     rw[e0]at a0;rw[e1]at a1;exact⟨v0,v1,by simpa[Addr.add]using a0,a1,hq⟩
  obtain⟨l,h1,h2⟩:=key len (Nat.le_refl _);exact .inr ⟨l,ad,cap,by rw[h1],by omega,h2⟩
theorem N8{α:Type}{Q:α→Value→Value→Prop}{l:List α}{ad:Addr}(h2:∀(i:Nat) (a:α),l[i]? =some a→∃v0 v1,W.cell? (ad.add (i*2))=some v0∧W.cell? ((ad.add (i*2)).add 1)=some v1∧Q a v0 v1)(h0:l≠[]):
  ∃g off,ad=⟨g,off,none⟩∧∀(i:Nat) (a:α),l[i]? =some a→∃v0 v1,W.cell? ⟨g,off+i*2,none⟩=some v0∧W.cell? ⟨g,off+i*2+1,none⟩=some v1∧Q a v0 v1:=by
 obtain⟨x,j5⟩:∃x,l[0]? =some x:=⟨l[0]'(by cases l;exact absurd rfl h0;simp),List.getElem?_eq_getElem _⟩
 obtain⟨v0,_,c0,_⟩:=h2 0 x j5;have e:ad.add (0*2)=ad:=by simp[Addr.add]
 rw[e]at c0;have vq:=N7 c0;obtain⟨bl,of,sp⟩:=ad;simp only at vq;subst vq;refine⟨bl,of,rfl,fun i y hy=>?_⟩
 obtain⟨w0,w1,d0,d1,hq⟩:=h2 i y hy;rw[Addr.add_lit]at d0 d1;rw[Addr.add_lit]at d1;exact⟨w0,w1,d0,d1,hq⟩
theorem qab{fuel:Nat}{c:Value}{x:DataW H×List MemPlace}(h:DataW.trod enc Tryz.prog W 0 (fun _=>true) true fuel 39 [c]=some x):∃l:List Rw,RR W c l:=by
 rcases X8 (α:=Rw) (Q:=fun r v0 v1=>v0=.int .i64 r.1∧v1=.int .i64 r.2) Tryz.underlying39 (by kernel_rfl) (fun ht=>by
  obtain⟨r,h0,h1⟩:=Se ht;exact⟨r,_,_,h0,h1,rfl,rfl⟩) h with rfl|⟨l,ad,cap,rfl,hc,h2⟩
 ·exact⟨[],.inl ⟨_,_,rfl,rfl⟩⟩
 ·refine⟨l,?_⟩
  by_cases h0:l=[]
  ·subst h0;exact .inl ⟨_,_,rfl,rfl⟩
  ·obtain⟨g,off,rfl,h3⟩:=N8 h2 h0
   refine .inr ⟨g,off,cap,rfl,hc,fun i r hr=>?_⟩
   obtain⟨v0,v1,d0,d1,rfl,rfl⟩:=h3 i r hr;exact⟨d0,d1⟩
theorem Sf{n:Nat}{cs:List Value}{x:DataW H×List MemPlace}(ht:DataW.trod enc Tryz.prog W 0 (fun _=>true) true n 55 cs=some x):
  ∃(t:Tb) (v0 v1:Value),cs[0]? =some v0∧cs[1]? =some v1∧v0=.string t.1∧RR W v1 t.2:=by
 obtain⟨xs,m,_,hx,hl,eE,hf⟩:=DataW.trod_struct Tryz.underlying55 ht;rw[show Tryz.prog.cellsOf 55=2 by kernel_rfl]at hl
 match cs,hl with
 | [c0,c1],_=>
 match xs,eE with
 | [y0,y1],_=>
   have h0:DataW.trod enc Tryz.prog W 0 (fun _=>true) true m 9 (List.take (Tryz.prog.cellsOf 9) (List.drop 0 [c0,c1]))=some y0:=hf 0 _ rfl
   have h1:DataW.trod enc Tryz.prog W 0 (fun _=>true) true m 39 (List.take (Tryz.prog.cellsOf 39) (List.drop 1 [c0,c1]))=some y1:=hf 1 _ rfl
   rw[TL]at h0;rw[X7]at h1;obtain⟨z,e0,_,_⟩:=DataW.trod_string Tryz.underlying9 h0;injection e0 with e0 _;obtain⟨l,hr⟩:=qab h1;exact⟨(z,l),c0,c1,rfl,rfl,e0,hr⟩
end
def X9(W:World)(v:Value):Prop:=∃s:List Tb,SR W v s
theorem qac{H:Type}{enc:TypeId×Value→H}{W:World}{base:Nat}{v:Value}{d:DataW H}{p:List MemPlace}(hv:Value.okWide Tryz.prog W .any base 22 v)(h:DataW.Trod enc Tryz.prog W 0 (fun _=>true) true 22 v d p)(hz:(DataW.weights Tryz.prog 22 d).all (· ≤reachBytes)=true):X9 W v:=by
 obtain⟨a,ln,cp,rfl⟩:=okWide_slice Tryz.underlying22 hv;obtain⟨fuel,hf⟩:=h;rcases X8 (α:=Tb) (Q:=fun t v0 v1=>v0=.string t.1∧RR W v1 t.2) Tryz.underlying22 (by kernel_rfl) (fun ht=>Sf ht) hf with e|⟨l,ad,cap,e,hc,h2⟩
 ·rw[e];exact⟨[],.inl ⟨_,_,rfl,rfl⟩⟩
 ·rw[e]
  refine⟨l,?_⟩
  by_cases h0:l=[]
  ·subst h0;exact .inl ⟨_,_,rfl,rfl⟩
  ·obtain⟨g,off,rfl,h3⟩:=N8 h2 h0
   refine .inr ⟨g,off,cap,rfl,hc,fun i r hr=>?_⟩
   obtain⟨v0,v1,d0,d1,rfl,o8⟩:=h3 i r hr;exact⟨d0,v1,d1,o8⟩
end Go.Proofs.YtpgddamhdfmdjaaGreatDoor
