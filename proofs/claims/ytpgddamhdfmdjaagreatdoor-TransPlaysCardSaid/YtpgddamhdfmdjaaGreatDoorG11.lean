/- Trj Trk Trl Trm Trn -/
import Derived.Test.YtpgddamhdfmdjaaGreatDoorG4
import Derived.Laws.MakeOwn
import Derived.Laws.IdiomStrings
import Derived.Lib.BufferRead
import Derived.Defers
import Derived.Laws.Pointers
import Derived.Laws.LoneSync
import Derived.RegionTactic
import Derived.RegionCalls
import Derived.ChangeAlike
import Derived.Test.YtpgddamhdfmdjaaGreatDoorG1
set_option linter.unusedSimpArgs false
set_option linter.unusedVariables false
set_option maxRecDepth 100000
set_option maxHeartbeats 16000000
namespace Go.Proofs.YtpgddamhdfmdjaaGreatDoor
open Go.ChangeShapes Go.WideShapes Go.ChangeAt Go.RowKit
theorem Y8{w:World}{B n:Nat}{v:Value}{l:Tx}(h:w.ownsRow B 5 1 v n (Lib.byteCells l))(hn:n=l.length):(convert 335 9 v).run Tryz.prog w=.ok (.string ⟨l.toArray⟩) w:=by
 subst hn;rcases h.2 with⟨rfl,h0⟩|⟨g,cap,cur,rfl,hB,hg,hn,_,_,fA⟩
 ·have:l=[]:=List.length_eq_zero_iff.1 h0
  subst this;exact Lib.run_convert_nil_bytes w _ _ 5 0 (by kernel_rfl) (by kernel_rfl) (by kernel_rfl)
 ·rw[Nat.mul_one]at fA
  exact run_convert_bytes_back (P:=Tryz.prog) w _ _ 5 ⟨g,0,none⟩ cap l (by kernel_rfl) (by kernel_rfl) (by kernel_rfl) (Lib.bytes_of_row hg fA)
theorem Wu(a b c s:ByteArray)(r:Nat)(w:World)(hG:GP w r a b c)(ie:wfT s.data.toList=true)(bH:s.size≤1000)(R:Tx)(hR:AT a.data.toList b.data.toList c.data.toList s.data.toList=R)(oX:R.length≤1000000):
  Calls Tryz.prog 304 #[nP r,.string s] w fun e w'=>e=.returned (.string ⟨R.toArray⟩)∧Below w.heap.size w w':=by
 obtain⟨i0,hi,eK,dD,bg⟩:=info_parts TW;obtain⟨w1,hm,mw,eB⟩:=run_make_own (P:=Tryz.prog) w w.heap.size 335 5 i0 (.int .u8 0) 1 (by kernel_rfl) hi eK dD .i64 .i64 s.size (by rw[bg];omega) (by unfold maxLen;omega) (Nat.le_refl _)
 have aU:Below w.heap.size w w1:=(Below.refl _ _).grown eB (Nat.le_refl _) (fun k hk=>by cases hk)
 have Cf:w.heap.size<w1.heap.size:=by
  rcases mw.2 with⟨h,_⟩|⟨g,cap,cur,h,_,hg,_⟩
  ·cases h
  ·injection h with h1 h2 h3
   injection h1 with h1;injection h1 with h1 _;rw[h1];exact(Array.getElem?_eq_some_iff.1 hg).1
 have hA:AW w.heap.size w1.heap.size [] (w1.alloc (.cells #[.slice (some ⟨w.heap.size,0,none⟩) 0 s.size] 335)):=
  ⟨aU.size,_,Blk.new _ _ _,mw.alloc _,by simp[Value.ownBlock];omega⟩
 have aL:=qid (aU.alloc aU.size (.cells #[.slice (some ⟨w.heap.size,0,none⟩) 0 s.size] 335));have HW:=qid (QJ a b c s r w1.heap.size w (w1.alloc (.cells #[.slice (some ⟨w.heap.size,0,none⟩) 0 s.size] 335)) hG aL.out hA ie bH R hR oX);clear mw eB hA ie bH hR oX hG hi;go_enter Tryz.func304,Tryz.ntmps304;go_wp2_with (go_at_call 305;(refine HW.out.mono ?_);rintro e w2 ⟨⟨v,rfl⟩,h2,aA⟩;obtain⟨hB,v2,mx,aE,b7⟩:=h2;have c0:w2.cell? ⟨w1.heap.size,0,none⟩=some v2:=mx.cell 0;have rz:=Y8 aE rfl;have aO:=qid aA;clear aA);go_ret;exact⟨rfl,aO.out⟩
theorem NH(w:World):(callFunc 245 #[]).run Tryz.prog w=.ok (.value (.tuple #[])) w:=run_call_mark0 Tryz.func245 (by kernel_rfl) (by kernel_rfl) (by kernel_rfl) .disable (by kernel_rfl) w
theorem Px(w:World):(callFunc 247 #[]).run Tryz.prog w=.ok (.value (.tuple #[])) w:=run_call_mark0 Tryz.func247 (by kernel_rfl) (by kernel_rfl) (by kernel_rfl) .enable (by kernel_rfl) w
theorem Uw(a:Addr)(w:World):(callFunc 248 #[.pointer (some a)]).run Tryz.prog w=.ok (.value (.tuple #[])) w:=run_call_marked Tryz.func248 (by kernel_rfl) (by kernel_rfl) (by kernel_rfl) .acquire (by kernel_rfl) a w
theorem Ux(a:Addr)(w:World):(callFunc 250 #[.pointer (some a)]).run Tryz.prog w=.ok (.value (.tuple #[])) w:=run_call_marked Tryz.func250 (by kernel_rfl) (by kernel_rfl) (by kernel_rfl) .releaseMerge (by kernel_rfl) a w
theorem Wv(a:Addr)(w:World)(hc:w.cell? a=some (.int .i32 0))(hz:w.frozen? a=false):
  Calls Tryz.prog 194 #[.pointer (some a)] w fun e w'=>e=.returned (.tuple #[])∧w'=w.setCell a (.int .i32 1):=by
 have hd:=NH;have he:=Px;have ha:=Uw;have Cg:=run_call_cas_hit (P:=Tryz.prog) Tryz.func246 (by kernel_rfl) (by kernel_rfl) (by kernel_rfl) .i32 (by kernel_rfl) (y:=1) hc hz
 have tG:(w.setCell a (.int .i32 1)).cell? a=some (.int .i32 1):=World.cell?_setCell_same w a _ hc;have rz:=run_convert_to_unsafe (P:=Tryz.prog) (src:=279) (dst:=283) Tryz.underlying279 Tryz.underlying283 (by kernel_rfl) tG
 go_enter Tryz.func194,Tryz.ntmps194;go_wp2
 first|go_end0|(simp only[Exit.inBlock,Exit.then];refine bodyPost_ret (results_none rfl _ _ _) rfl ?_)|refine bodyPost_ret (results_none rfl _ _ _) rfl ?_
 go_wp2
 go_end0
 exact⟨rfl,rfl⟩
theorem Y9(a:Addr)(x:Value)(u:FrameMode)(w:World)(hc:w.cell? a=some x)(hz:w.frozen? a=false):
  CallsD Tryz.prog 196 #[.pointer (some a),.bool true] u w fun e u' w'=>u'=u∧(e=.returned (.tuple #[])∧w'=w.drew.setCell a (.int .u32 1)):=by
 have tG:w.drew.cell? a=some x:=by go_simp
 have Ch:w.drew.frozen? a=false:=by go_simp
 have ah:=run_call_store (P:=Tryz.prog) Tryz.func223 (by kernel_rfl) (by kernel_rfl) (by kernel_rfl) (by kernel_rfl) (k:=.u32) (y:=1) tG Ch
 go_enter_d Tryz.func196,Tryz.ntmps196
 go_wp2
 go_region_calls
 all_goals(go_end0;exact⟨rfl,rfl⟩)
theorem Ww(a:Addr)(u:FrameMode)(w:World)(hc:w.cell? a=some (.int .i32 1))(hz:w.frozen? a=false):
  CallsD Tryz.prog 195 #[.pointer (some a)] u w fun e u' w'=>u'=u∧(e=.returned (.tuple #[])∧w'=w.setCell a (.int .i32 0)):=by
 have hd:=NH;have he:=Px;have hr:=Ux;have Ci:=run_call_add (P:=Tryz.prog) Tryz.func251 (by kernel_rfl) (by kernel_rfl) (by kernel_rfl) .i32 (by kernel_rfl) (y:= -1) (s:=0) hc hz (by simp[go_sem];rfl)
 have rz:=run_convert_to_unsafe (P:=Tryz.prog) (src:=279) (dst:=283) Tryz.underlying279 Tryz.underlying283 (by kernel_rfl) hc
 go_enter_d Tryz.func195,Tryz.ntmps195
 go_wp2
 go_end0
 go_wp2
 go_end0
 exact⟨rfl,rfl⟩
abbrev oS(o cap:Nat):Value:=.slice (some ⟨o,0,none⟩) 6 cap
abbrev gI(r:Nat):Value:=.iface 230 (nP r)
def RP(w:World)(p:Nat)(s0 s1:Int)(rr on:Value):Prop:=Blk w p 175 #[.int .u32 s0,.int .i32 s1,.int .u32 0,rr,on]
theorem GP.far{w:World}{r p i:Nat}{a b c:ByteArray}{cs:Array Value}(h:GP w r a b c)(hp:Blk w p 175 cs)(u:Value):GP (w.setCell ⟨p,i,none⟩ u) r a b c:=by
 obtain⟨tr,g1,N,T,x,k,l,g2,g3,g4,g5,g6,g7⟩:=h;have hq:∀ {g:Nat} {t:TypeId} {cs:Array Value},Blk w g t cs→t≠175→Blk (w.setCell ⟨p,i,none⟩ u) g t cs:=fun hb ht=>hb.far (Blk.ne_ hb hp ht) _
 exact⟨tr,hq g1 (by decide),N,T,x,k,l,hq g2 (by decide),hq g3 (by decide),hq g4 (by decide),hq g5 (by decide),hq g6 (by decide),hq g7 (by decide)⟩
theorem Uy(p o cap:Nat)(a b c:ByteArray)(s0 s1:Int)(rr:Value)(w:World)(h:RP w p s0 s1 rr (oS o cap))(ho:ON w o a b c):
  Calls Tryz.prog 166 #[nP p] w fun e w'=>e=.returned (gI w.heap.size)∧GP w' w.heap.size a b c∧But [] w w':=by
 have c4:w.cell? ⟨p,4,none⟩=some (oS o cap):=h.cell 4;have o0:w.cell? ⟨o,0,none⟩=some (.string ⟨#[36,49]⟩):=ho.2 0 (by decide)
 have HM:=qid (Yq o cap a b c w ho);clear h ho;go_enter Tryz.func166,Tryz.ntmps166;go_wp2
 go_loopg [5] 1 (fun gk u5 wx=>u5=.int .i64 0∧wx=w)
 case atStart=>exact⟨rfl,rfl⟩
 case round=>
  obtain⟨rfl,rfl⟩:=hrel;go_wp2_with (go_at_call 198;(refine HM.out.mono ?_);rintro e w' ⟨rfl,h1,h2⟩;obtain⟨H1,H2⟩:=hZ2 h1 h2;clear h1 h2);go_ret;exact⟨rfl,H1.out,H2.out⟩
theorem Wx(p o cap:Nat)(a b c:ByteArray)(s0 s1:Int)(w:World)(h:RP w p s0 s1 .nilIface (oS o cap))(ho:ON w o a b c):
  Calls Tryz.prog 124 #[nP p] w fun e w'=>e=.returned (.tuple #[])∧RP w' p s0 s1 (gI w.heap.size) (.slice none 0 0)∧GP w' w.heap.size a b c∧But [p] w w':=by
 have HB:=qid (Uy p o cap a b c s0 s1 .nilIface w h ho);have aD:=h.lt;have H:=qid h;clear h ho;go_enter Tryz.func124,Tryz.ntmps124;go_wp2_with (go_at_call 166;(refine HB.out.mono ?_);rintro e w1 ⟨rfl,h1,h2⟩;have h3:RP w1 p s0 s1 .nilIface (oS o cap):=Blk.but H.out h2 (by simp);have c3:w1.cell? ⟨p,3,none⟩=some .nilIface:=h3.cell 3;have c4:w1.cell? ⟨p,4,none⟩=some (oS o cap):=h3.cell 4;have f3:=h3.frozen 3;have f4:=h3.frozen 4;obtain⟨H1,H2,H3⟩:=hZ3 h1 h2 h3;clear h1 h2 h3)
 go_end0
 exact⟨rfl,(Blk.set_ H3.out 3 _).set_ 4 _,(H1.out.far H3.out _).far (Blk.set_ H3.out 3 _) _,((H2.out.trans (But.refl [p] w1) (by simp) (fun x hx _=>hx)).set _ _ (.inl (by simp))).set _ _ (.inl (by simp))⟩
theorem Wy(p o cap:Nat)(a b c:ByteArray)(w:World)(h:RP w p 0 0 .nilIface (oS o cap))(ho:ON w o a b c)(b7:o≠p):
  Calls Tryz.prog 165 #[nP p,.func (.func 124) #[nP p] #[]] w fun e w'=>e=.returned (.tuple #[])∧(∃r,RP w' p 1 0 (gI r) (.slice none 0 0)∧GP w' r a b c)∧But [p] w w':=by
 have c0:w.cell? ⟨p,0,none⟩=some (.int .u32 0):=h.cell 0;have c1:w.cell? ⟨p,1,none⟩=some (.int .i32 0):=h.cell 1;have f0:=h.frozen 0;have f1:=h.frozen 1;have hl:=run_call_load (P:=Tryz.prog) Tryz.func193 (by kernel_rfl) (by kernel_rfl) (by kernel_rfl) .u32 (by kernel_rfl) (w:=w.setCell ⟨p,1,none⟩ (.int .i32 1)) (a:=⟨p,0,none⟩) (x:=0) ((World.cell?_setCell_other _ ⟨p,1,none⟩ ⟨p,0,none⟩ _ (by simp)).trans c0)
 have xc:∀(x:Bool) (w:World),(Op.unary .not (.bool x)).run Tryz.prog w=.ok (.bool (!x)) w:=fun _ _=>rfl
 have h1:RP (w.setCell ⟨p,1,none⟩ (.int .i32 1)) p 0 1 .nilIface (oS o cap):=Blk.set_ h 1 _;have zw:ON (w.setCell ⟨p,1,none⟩ (.int .i32 1)) o a b c:=ho.but ((But.refl [p] w).set _ _ (.inl (by simp))) (by simpa using b7)
 have HO:=qid (Wx p o cap a b c 0 1 _ h1 zw);clear ho zw
 go_enter_defers Tryz.func165,Tryz.ntmps165
 go_wp2_with (first
  |(go_at_call 194;refine(Wv ⟨p,1,none⟩ _ (by go_simp) (by go_simp)).mono ?_;rintro e w' ⟨rfl,rfl⟩)
  |(go_at_call 164;go_in)
  |(go_at_call 124;refine HO.out.mono ?_;rintro e w1 ⟨rfl,g1,g2,g3⟩;obtain⟨G1,G2,G3⟩:=hZ3 g1 g2 g3;clear g1 g2 g3))
 -- two deferred calls, the last laid first
 refine leaves_cons (f:=196) (args:=#[.pointer (some ⟨p,0,none⟩),.bool true]) (by simp) (by simp[go_sem]) ?_
 refine(Y9 ⟨p,0,none⟩ (.int .u32 0) .returning _ (Blk.cell G1.out 0) (Blk.frozen G1.out 0)).mono ?_;rintro e u' xd ⟨rfl,rfl,rfl⟩;have h5:RP (w1.drew.setCell ⟨p,0,none⟩ (.int .u32 1)) p 1 1 (gI (w.setCell ⟨p,1,none⟩ (.int .i32 1)).heap.size) (.slice none 0 0):=Blk.set_ (w:=w1.drew) G1.out 0 _;refine leaves_cons (f:=195) (args:=#[.pointer (some ⟨p,1,none⟩)]) (by simp[settle]) (by simp[go_sem]) ?_
 refine(Ww ⟨p,1,none⟩ _ _ (h5.cell 1) (h5.frozen 1)).mono ?_;rintro e u' xd ⟨rfl,rfl,rfl⟩;have h6:RP ((w1.drew.setCell ⟨p,0,none⟩ (.int .u32 1)).setCell ⟨p,1,none⟩ (.int .i32 0)) p 1 0 (gI (w.setCell ⟨p,1,none⟩ (.int .i32 1)).heap.size) (.slice none 0 0):=h5.set_ 1 _;have g5:GP w1.drew (w.setCell ⟨p,1,none⟩ (.int .i32 1)).heap.size a b c:=G2.out;have g6:=(g5.far (i:=0) (w:=w1.drew) G1.out (.int .u32 1)).far (i:=1) h5 (.int .i32 0);have g7:But [p] w ((w1.drew.setCell ⟨p,0,none⟩ (.int .u32 1)).setCell ⟨p,1,none⟩ (.int .i32 0)):=
  (((((But.refl [p] w).set ⟨p,1,none⟩ (.int .i32 1) (.inl (by simp))).trans G3.out (fun x hx=>hx) (fun x hx _=>hx)).drewN 1).set _ _ (.inl (by simp))).set _ _ (.inl (by simp))
 have bP:(∃r,RP ((w1.drew.setCell ⟨p,0,none⟩ (.int .u32 1)).setCell ⟨p,1,none⟩ (.int .i32 0)) p 1 0 (gI r) (.slice none 0 0)∧GP ((w1.drew.setCell ⟨p,0,none⟩ (.int .u32 1)).setCell ⟨p,1,none⟩ (.int .i32 0)) r a b c)∧But [p] w ((w1.drew.setCell ⟨p,0,none⟩ (.int .u32 1)).setCell ⟨p,1,none⟩ (.int .i32 0)):=⟨⟨_,h6,g6⟩,g7⟩
 generalize (w1.drew.setCell ⟨p,0,none⟩ (.int .u32 1)).setCell ⟨p,1,none⟩ (.int .i32 0)=W at bP
 clear h5 h6 g5 g6 g7 G1 G2 G3;simp[Leaves,settle,results,Tryz.results165]
 first|exact bP|exact⟨bP.1,bP.2⟩
theorem qbr(p o cap:Nat)(a b c:ByteArray)(w:World)(h:RP w p 0 0 .nilIface (oS o cap))(ho:ON w o a b c)(b7:o≠p):
  Calls Tryz.prog 123 #[nP p,.func (.func 124) #[nP p] #[]] w fun e w'=>e=.returned (.tuple #[])∧(∃r,RP w' p 1 0 (gI r) (.slice none 0 0)∧GP w' r a b c)∧But [p] w w':=by
 have c0:w.cell? ⟨p,0,none⟩=some (.int .u32 0):=h.cell 0;have hl:=run_call_load (P:=Tryz.prog) Tryz.func193 (by kernel_rfl) (by kernel_rfl) (by kernel_rfl) .u32 (by kernel_rfl) c0
 have xc:∀(x:Bool) (w:World),(Op.unary .not (.bool x)).run Tryz.prog w=.ok (.bool (!x)) w:=fun _ _=>rfl
 have HS:=qid (Wy p o cap a b c w h ho b7);clear h ho;go_enter Tryz.func123,Tryz.ntmps123;go_wp2_with (first|(go_at_call 165;refine HS.out.mono ?_;rintro e w' ⟨rfl,h1,h2⟩;obtain⟨H1,H2⟩:=hZ2 h1 h2;clear h1 h2)|(go_at_call 164;go_in))
 go_end0
 exact⟨rfl,H1.out,H2.out⟩
theorem qbs(r m : Nat)(w : World): (method (m + 1) 230 (nP r) "Replace").run Tryz.prog w = .ok (304, nP r) w := by kernel_rfl
theorem qbt(r : Nat)(n : Nat)(h : 0 < n)(w : World): (method n 230 (nP r) "Replace").run Tryz.prog w = .ok (304, nP r) w := by
 obtain⟨m,rfl⟩:∃m,n=m+1:=⟨n-1,by omega⟩
 exact qbs r m w
theorem Ow(p o cap:Nat)(a b c s:ByteArray)(w:World)(h:RP w p 0 0 .nilIface (oS o cap))(ho:ON w o a b c)(b7:o≠p)(B:Nat)(hB:B≤p)(ie:wfT s.data.toList=true)(bH:s.size≤1000)(R:Tx)(hR:AT a.data.toList b.data.toList c.data.toList s.data.toList=R)(oX:R.length≤1000000):
  Calls Tryz.prog 95 #[nP p,.string s] w fun e w'=>e=.returned (.string ⟨R.toArray⟩)∧Below B w w':=by
 have HD:=qid (qbr p o cap a b c w h ho b7);have HR:=qid (fun W r hG=>Wu a b c s r W hG ie bH R hR oX)
 have HM:=qbt;have aD:=h.lt;have lW:B≤w.heap.size:=by omega
 clear h ho ie bH hR oX;go_enter Tryz.func95,Tryz.ntmps95;go_wp2_with (first
  |(go_at_call 123;refine HD.out.mono ?_;rintro e w1 ⟨rfl,⟨r,h1,h2⟩,h3⟩;have c3:w1.cell? ⟨p,3,none⟩=some (gI r):=h1.cell 3;obtain⟨H2,H3⟩:=hZ2 h2 h3;clear h1 h2 h3)
  |(go_at_call 304;refine(HR.out _ _ H2.out).mono ?_;rintro e w2 ⟨rfl,hb⟩;have H4:=qid hb;clear hb))
 go_ret;have aU:Below B w w1:=H3.out.below lW (by simpa using hB)
 exact⟨rfl,aU.trans (H4.out.mono (Nat.le_trans lW aU.size))⟩
theorem Za:(Tryz.prog.info? 9).map (fun i=>(i.zero,i.size,i.bytes))=some (some (.string ⟨#[]⟩),1,16):=by kernel_rfl
def qc0(a b c:ByteArray)(w:World)(e:Ending)(w':World):Prop:=∃p o cap,e=.returned (nP p)∧RP w' p 0 0 .nilIface (oS o cap)∧ON w' o a b c∧o≠p∧w.heap.size≤p∧Below w.heap.size w w'
theorem Zb(x:Nat)(a b c:ByteArray)(w:World)(h:Blk w x 9 (onV a b c)):
  Calls Tryz.prog 93 #[.slice (some ⟨x,0,none⟩) 6 6] w (qc0 a b c w):=by
 obtain⟨i0,hi,eK,dD,bg⟩:=info_parts Za;have HX:=qid h;clear h;go_enter Tryz.func93,Tryz.ntmps93;go_wp2_with (at_builtin;refine wpList_append_own _ rfl _ _ 50 rfl w.heap.size 9 i0 (.string ⟨#[]⟩) 1 16 Tryz.underlying50 hi eK dD bg rfl (by decide) (.slice none 0 0) 0 [] rfl (World.ownsRow_nil _ _ _ _) ⟨x,0,none⟩ 6 6 (onV a b c).toList rfl rfl ?c1 ?c2 ?c3 ?c4 ?c5 ?_)
 case c1=>
  intro j u hj;have e:(⟨x,0,none⟩:Addr).add j=⟨x,j,none⟩:=by simp[Addr.add];exact fun h=>h.symm
  rw[e,HX.out.cell j]
  simpa using hj
 case c2=>intro u hu;simp only[onV,List.mem_cons,List.not_mem_nil,or_false]at hu;rcases hu with rfl|rfl|rfl|rfl|rfl|rfl<;>rfl
 case c3=>simp[maxLen]
 case c4=>simp
 case c5=>exact Nat.le_refl _
 intro v' w2 gx aj _;have aA:Below w.heap.size w w2:=(Below.refl _ _).grown aj (Nat.le_refl _) (fun k hk=>by cases hk)
 rcases gx.2 with⟨_,h0⟩|⟨g,cap,cur,hv,gh,hg,hn,bn,gC,fA⟩
 ·simp at h0
 ·subst hv
  have zx:ON w2 g a b c:=⟨(Array.getElem?_eq_some_iff.1 hg).1,fun i hi=>by
   rw[Lib.cell_of_heap hg];have e:cur.toList.take 6=(onV a b c).toList:=by simpa using fA
   have:(cur.toList.take 6)[i]? =cur[i]? :=by rw[List.getElem?_take_of_lt hi];simp
   rw[←this,e];simp⟩
  obtain⟨my,aL⟩:=hZ2 zx aA;clear gx aj hg gC fA zx aA;go_wp2;go_ret;refine⟨w2.heap.size,g,cap,rfl,Blk.new _ _ _,my.out.but ((But.refl [] w2).alloc _) (by simp),by have:=my.out.1;omega,aL.out.size,aL.out.alloc aL.out.size _⟩
end Go.Proofs.YtpgddamhdfmdjaaGreatDoor
