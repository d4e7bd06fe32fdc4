/- Sec Sed See Sef Seg Seh Sei Sej Sek Sel Sem Sen -/
import Derived.Test.YtpgddamhdfmdjaaGreatDoorG9
import Derived.Test.YtpgddamhdfmdjaaGreatDoorShelf
import Derived.WalkMore
import Derived.BigQuiet
import Derived.OwnWalk
import Derived.Deep.QuietTactic
import Derived.Deep.RegionWith
import Derived.Deep.RegionHeld3
import Derived.Deep.LoopGhost
import Derived.Test.YtpgddamhdfmdjaaGreatDoorG6
import Derived.OneCell
import Derived.Deep.AppendLies
import Derived.Maps.OwnSet
import Derived.Maps.AppendAt
import Derived.StringKeys
import Derived.Sort.OwnSorted
import Derived.Test.YtpgddamhdfmdjaaGreatDoorG1
set_option linter.unusedSimpArgs false
set_option linter.unusedVariables false
set_option maxRecDepth 100000
set_option maxHeartbeats 16000000
namespace Go.Proofs.YtpgddamhdfmdjaaGreatDoor
open Go.ChangeShapes Go.WideShapes Go.ChangeAt Go.RowKit
theorem Kw{w:World}{v:Value}{l:List Tok}(h:TR w v l):∃a cap,v=.slice a l.length cap∧(l.length=0∨∃g off,a=some ⟨g,off,none⟩∧l.length≤cap∧∀k (hk:k<l.length),w.cell? ⟨g,off+k*3,none⟩=some (.int .i64 l[k].1)∧w.cell? ⟨g,off+k*3+1,none⟩=some (.string l[k].2.1)):=by
 rcases h with⟨A,cap,rfl,rfl⟩|⟨g,off,cap,rfl,hc,hx⟩
 ·exact⟨_,_,rfl,.inl rfl⟩
 ·refine⟨_,_,rfl,.inr ⟨g,off,rfl,hc,fun k hk=>?_⟩⟩
  obtain⟨a,b,c⟩:=hx k l[k] (List.getElem?_eq_getElem hk);exact⟨a,b⟩
theorem ID(k:Int)(ss:List Tx){l:List Tok}{i:Nat}(hi:i<l.length):bi k ss l i=(l[i].1==k&&ss.contains l[i].2.1.toList):=by
 unfold bi;rw[List.getElem?_eq_getElem hi]
theorem Kd(k:Int)(ss:List Tx){l:List Tok}{i:Nat}(hi:¬i<l.length):bi k ss l i=false:=by
 unfold bi;rw[List.getElem?_eq_none (by omega)]
theorem Mk{l:List Tok}{i:Nat}(hi:i<l.length):li l i=(l[i].1==2||l[i].1==1&& !Is.contains l[i].2.1.toList):=by
 unfold li;rw[List.getElem?_eq_getElem hi]
theorem NK{l:List Tok}{i:Nat}(hi:¬i<l.length):li l i=false:=by
 unfold li;rw[List.getElem?_eq_none (by omega)]
theorem Ml(s t:Tx): [s].contains t=(t==s):=by
 rw[Bool.eq_iff_iff];simp
theorem Lr{s t:ByteArray}(h:s.toList=t.toList):s=t:=by
 rw[Lib.toList_data,Lib.toList_data]at h
 cases s;cases t;simp only[ByteArray.mk.injEq];exact Array.toList_inj.1 h
theorem qcq(zs:List ByteArray)(x:ByteArray):Lib.containsS (zs.take zs.length) x=(zs.map (·.toList)).contains x.toList:=by
 rw[List.take_length,Bool.eq_iff_iff,Lib.containsS_iff,List.contains_iff_mem,List.mem_map];constructor
 ·exact fun h=>⟨x,h,rfl⟩
 ·rintro⟨y,h,e⟩;rw[←Lr e];exact h
theorem Mm(v:Value)(l:List Tok)(i:Nat)(s:ByteArray)(w:World)(h:TR w v l)(hl:l.length≤1099511627776):
  Calls Tryz.prog 262 #[v,.int .i64 (i:Int),.string s] w fun e w'=>e=.returned (.bool (bi 5 [s.toList] l i))∧w'=w:=by
 obtain⟨a,cap,rfl,hx⟩:=Kw h;clear h
 by_cases hi:i<l.length
 ·rcases hx with h0|⟨g,off,rfl,bn,hx⟩
  ·omega
  ·obtain⟨x1,x2⟩:=hx i hi
   have l0:(0:Int)≤(i:Int):=by omega
   have l1:(i:Int)<(l.length:Int):=by omega
   rw[ID 5 [s.toList] hi,Ml]
   generalize l[i]=t at*
   obtain⟨kd,tx,ta⟩:=t;simp only at x1 x2⊢;clear hx hi
   by_cases hk:kd=5
   ·subst hk
    obtain⟨c,hc⟩:∃c,(tx.toList==s.toList)=c:=⟨_,rfl⟩;rw[hc];go_enter Tryz.func262,Tryz.ntmps262;go_wp2;go_ret;exact⟨rfl,rfl⟩
   ·have bK:(kd==(5:Int))=false:=by rw[beq_eq_false_iff_ne];exact hk
    rw[bK];clear hk;go_enter Tryz.func262,Tryz.ntmps262;go_wp2;go_ret;exact⟨rfl,rfl⟩
 ·have l1:¬((i:Int)<(l.length:Int)):=by omega
  rw[Kd 5 _ hi];clear hx hi;go_enter Tryz.func262,Tryz.ntmps262;go_wp2;go_ret;exact⟨rfl,rfl⟩
theorem Mn(v:Value)(l:List Tok)(i b off cap:Nat)(zs:List ByteArray)(w:World)(h:TR w v l)(hl:l.length≤1099511627776)(Fh:zs.length≤100)(hc:∀j,j<zs.length→w.cell? ⟨b,off+j,none⟩=some (.string (zs.getD j ByteArray.empty))):
  Calls Tryz.prog 258 #[v,.int .i64 (i:Int),.slice (some ⟨b,off,none⟩) zs.length cap] w fun e w'=>e=.returned (.bool (bi 1 (zs.map (·.toList)) l i))∧w'=w:=by
 obtain⟨a,ca,rfl,hx⟩:=Kw h;have hk:=fun x=>Tryz.slices_Contains_string b off zs.length cap zs x w (Nat.le_refl _) (by omega) hc
 simp only[qcq]at hk;have HK:=qid hk;clear h hc hk;have l0:(0:Int)≤(i:Int):=by omega
 by_cases hi:i<l.length
 ·rcases hx with h0|⟨g,pY,rfl,bn,hx⟩
  ·omega
  ·obtain⟨x1,x2⟩:=hx i hi
   have l1:(i:Int)<(l.length:Int):=by omega
   rw[ID 1 _ hi]
   generalize l[i]=t at*
   obtain⟨kd,tx,ta⟩:=t;simp only at x1 x2⊢;clear hx hi
   by_cases hk:kd=1
   ·subst hk
    obtain⟨c,hc⟩:∃c,(zs.map (·.toList)).contains tx.toList=c:=⟨_,rfl⟩
    have bK:=HK.out tx;rw[hc]at bK⊢;have dQ:=qid bK;clear HK bK hc;go_enter Tryz.func258,Tryz.ntmps258;go_wp2_with (go_at_call 182;(with_reducible refine dQ.out.mono ?_);rintro e w2 ⟨rfl,rfl⟩);go_ret;exact⟨rfl,rfl⟩
   ·have bK:(kd==(1:Int))=false:=by rw[beq_eq_false_iff_ne];exact hk
    rw[bK];clear hk HK;go_enter Tryz.func258,Tryz.ntmps258;go_wp2;go_ret;exact⟨rfl,rfl⟩
 ·have l1:¬((i:Int)<(l.length:Int)):=by omega
  rw[Kd 1 _ hi];clear hx hi HK;go_enter Tryz.func258,Tryz.ntmps258;go_wp2;go_ret;exact⟨rfl,rfl⟩
theorem Rj(v ws:Value)(w:World):
  Calls Tryz.prog 258 #[v,.int .i64 (-1),ws] w fun e w'=>e=.returned (.bool false)∧w'=w:=by
 go_enter Tryz.func258,Tryz.ntmps258;go_wp2;go_ret;exact⟨rfl,rfl⟩
def qcr(s:ByteArray)(w:World)(e:Ending)(w':World):Prop:=e=.returned (.bool (Is.contains s.toList))∧w'=w
theorem Ze{s k:Tx}(h:(s==k)=true)(hk:Is.contains k=true):Is.contains s=true:=by rw[beq_iff_eq.1 h];exact hk
theorem Nu(s:ByteArray)(w:World):
  Calls Tryz.prog 278 #[.string s] w (qcr s w):=by
 go_enter Tryz.func278,Tryz.ntmps278;go_wp2
 all_goals(go_ret;refine⟨?_,rfl⟩)
 all_goals first
  |(exfalso;simp_all only[Bool.true_eq_false,Bool.false_eq_true];done)
  |(rw[show Is.contains s.toList=true from Ze (by assumption) (by decide)];rfl)
  |(have h:Is.contains s.toList=false:=by
     simp only[Is,List.contains_cons,List.contains_nil,Bool.or_false,Bool.or_eq_false_iff]
     repeat' apply And.intro
     all_goals assumption
    rw[h];rfl)
theorem Rk(v:Value)(l:List Tok)(i:Nat)(w:World)(h:TR w v l)(hl:l.length≤1099511627776):
  Calls Tryz.prog 275 #[v,.int .i64 (i:Int)] w fun e w'=>e=.returned (.bool (li l i))∧w'=w:=by
 obtain⟨a,cap,rfl,hx⟩:=Kw h;clear h
 by_cases hi:i<l.length
 ·rcases hx with h0|⟨g,off,rfl,bn,hx⟩
  ·omega
  ·obtain⟨x1,x2⟩:=hx i hi
   have l0:(0:Int)≤(i:Int):=by omega
   have l1:(i:Int)<(l.length:Int):=by omega
   rw[Mk hi]
   generalize l[i]=t at*
   obtain⟨kd,tx,ta⟩:=t;simp only at x1 x2⊢;clear hx hi;have hk:=Nu tx w;obtain⟨c,hc⟩:∃c,Is.contains tx.toList=c:=⟨_,rfl⟩;unfold qcr at hk;rw[hc]at hk⊢;have HK:=qid hk;clear hk hc
   by_cases h2:kd=2
   ·subst h2
    go_enter Tryz.func275,Tryz.ntmps275;go_wp2;go_ret;exact⟨rfl,rfl⟩
   ·have k2:(kd==(2:Int))=false:=by rw[beq_eq_false_iff_ne];exact h2
    rw[k2];clear h2
    by_cases h1:kd=1
    ·subst h1
     cases c<;>
     ·go_enter Tryz.func275,Tryz.ntmps275
      go_wp2_with (go_at_call 278;(with_reducible refine HK.out.mono ?_);rintro e w2 ⟨rfl,rfl⟩);go_ret;exact⟨rfl,rfl⟩
    ·have k1:(kd==(1:Int))=false:=by rw[beq_eq_false_iff_ne];exact h1
     rw[k1];clear h1;go_enter Tryz.func275,Tryz.ntmps275;go_wp2;go_ret;exact⟨rfl,rfl⟩
 ·have l1:((l.length:Int)≤(i:Int)):=by omega
  rw[NK hi];clear hx hi;go_enter Tryz.func275,Tryz.ntmps275;go_wp2;go_ret;exact⟨rfl,rfl⟩
theorem d7{n:Nat}(h:n<9223372036854775808):IntKind.i64.wrap (n:Int)=(n:Int):=IntWalk.i64_in _ (by omega)
theorem Jx(v:Value)(l:List Tok)(i:Nat)(w:World)(h:TR w v l)(hl:l.length≤1099511627776)(hi:i≤1099511627776):
  Calls Tryz.prog 259 #[v,.int .i64 (i:Int)] w fun e w'=>e=.returned (.int .i64 (bY l i:Nat))∧w'=w:=by
 have h1:=fun n=>Rk v l n w h hl
 have h2:=fun n=>Mm v l n ⟨#[46]⟩ w h hl
 have hn:bY l i=if li l i=false then 0 else if(bi 5 [[46]] l (i+1)&&li l (i+2))=true then 3 else 1:=rfl
 obtain⟨i1,aN⟩:∃i1,i+1=i1:=⟨_,rfl⟩;obtain⟨i2,gi⟩:∃i2,i+2=i2:=⟨_,rfl⟩;have wa:IntKind.i64.wrap ((i:Int)+1)=(i1:Int):=by rw[show(i:Int)+1=(i1:Int) by omega];exact d7 (by omega)
 have wb:IntKind.i64.wrap ((i:Int)+2)=(i2:Int):=by rw[show(i:Int)+2=(i2:Int) by omega];exact d7 (by omega)
 rw[aN,gi]at hn;clear aN gi hi;have A3:=h1 i;have A4:=h1 i2;have xf:=h2 i1;have e0: [(⟨#[46]⟩:ByteArray).toList]=[[46]]:=by rw[Lib.toList_data]
 rw[e0]at xf
 generalize li l i=p at*
 generalize bi 5 [[46]] l i1=q at*
 generalize li l i2=r at*
 generalize bY l i=n at*
 subst hn;obtain⟨HA,HB,HC⟩:=hZ3 A3 A4 xf;clear A3 A4 xf h1 h2 h e0;have step:∀x y:Bool,(if(x&&y)=true then 3 else 1)=(if x=true then(if y=true then 3 else 1)else 1:Nat):=by decide
 cases p
 ·go_enter Tryz.func259,Tryz.ntmps259
  go_wp2_with (go_at_call 275;(with_reducible refine HA.out.mono ?_);rintro e w2 ⟨rfl,rfl⟩);go_ret;exact⟨rfl,rfl⟩
 ·cases q
  ·go_enter Tryz.func259,Tryz.ntmps259
   go_wp2_with (first
    |(go_at_call 275;(with_reducible refine HA.out.mono ?_);rintro e w2 ⟨rfl,rfl⟩)
    |(go_at_call 262;(with_reducible refine HC.out.mono ?_);rintro e w2 ⟨rfl,rfl⟩))
   go_ret;exact⟨rfl,rfl⟩
  ·cases r<;>
   ·go_enter Tryz.func259,Tryz.ntmps259
    go_wp2_with (first
     |(go_at_call 275;(with_reducible refine HA.out.mono ?_);rintro e w2 ⟨rfl,rfl⟩)
     |(go_at_call 275;(with_reducible refine HB.out.mono ?_);rintro e w2 ⟨rfl,rfl⟩)
     |(go_at_call 262;(with_reducible refine HC.out.mono ?_);rintro e w2 ⟨rfl,rfl⟩))
    go_ret;exact⟨rfl,rfl⟩
def Il(l:List Tok)(i:Nat):Nat:=if bY l (asB l i)=1 then asB l i+1 else asB l i
theorem UB(l:List Tok)(i:Nat):i≤Il l i∧Il l i≤i+2:=by have:=qbp l i;unfold Il;split<;>omega
theorem Ox{l:List Tok}{i:Nat}(h:li l i=true):rd l i=false:=by
 have hi:=Ka h;rw[Mk hi]at h;unfold rd;rw[ID 5 _ hi]
 generalize l[i]=t at*
 by_cases h5:t.1=5
 ·rw[h5]at h;simp at h
 ·have:(t.1==5)=false:=by rw[beq_eq_false_iff_ne];exact h5
  rw[this];rfl
theorem Pz{l:List Tok}{i:Nat}(h:bi 5 [[46]] l i=true):rd l i=false:=by
 have hi:=Ns h;rw[ID 5 _ hi]at h;unfold rd;rw[ID 5 _ hi]
 generalize l[i]=t at*
 simp only[Bool.and_eq_true,beq_iff_eq,List.contains_cons,List.contains_nil,Bool.or_false]at h;rw[h.2];simp
theorem Mo(l:List Tok)(i:Nat):(rd l (Il l i)=true∧Il l i=Fn l i)∨(rd l (Il l i)=false∧rd l (Fn l i)=false):=by
 unfold Il Fn
 generalize asB l i=j
 cases hp:li l j with
 |false=>
  have:bY l j=0:=by unfold bY;rw[if_pos hp]
  rw[this,if_neg (by decide),if_neg (by decide)]
  cases rd l j with
  |true=>exact .inl ⟨rfl,rfl⟩
  |false=>exact .inr ⟨rfl,rfl⟩
 |true=>
  rw[if_pos rfl]
  cases hd:(bi 5 [[46]] l (j+1)&&li l (j+2))with
  |true=>
   have:bY l j=3:=by unfold bY;rw[hp,hd];rfl
   rw[this,if_neg (by decide)]
   exact .inr ⟨Ox hp,Pz (Bool.and_eq_true_iff.1 hd).1⟩
  |false=>
   have:bY l j=1:=by unfold bY;rw[hp,hd];rfl
   rw[this,if_pos rfl]
   cases rd l (j+1)with
   |true=>exact .inl ⟨rfl,rfl⟩
   |false=>exact .inr ⟨rfl,rfl⟩
theorem gT(w:World)(o:Obj):Below w.heap.size w (w.alloc o):=(Below.refl _ _).alloc (Nat.le_refl _) _
theorem S2(v:Value)(l:List Tok)(i:Nat)(s:ByteArray)(w:World)(h:TR w v l)(hl:l.length≤1099511627776):
  Calls Tryz.prog 258 #[v,.int .i64 (i:Int),.slice (some ⟨w.heap.size,0,none⟩) 1 1] (w.alloc (.cells #[.string s] 9)) fun e w'=>e=.returned (.bool (bi 1 [s.toList] l i))∧w'=w.alloc (.cells #[.string s] 9):=
 Mn v l i w.heap.size 0 1 [s] _ (h.below (gT _ _)) hl (by simp) fun j hj=>by
  obtain rfl:j=0:=by simpa using hj
  simp[go_sem]
theorem S3(v:Value)(l:List Tok)(i:Nat)(s t:ByteArray)(w:World)(h:TR w v l)(hl:l.length≤1099511627776):
  Calls Tryz.prog 258 #[v,.int .i64 (i:Int),.slice (some ⟨w.heap.size,0,none⟩) 2 2] (w.alloc (.cells #[.string s,.string t] 9)) fun e w'=>e=.returned (.bool (bi 1 [s.toList,t.toList] l i))∧w'=w.alloc (.cells #[.string s,.string t] 9):=
 Mn v l i w.heap.size 0 2 [s,t] _ (h.below (gT _ _)) hl (by simp) fun j hj=>by
  match j,hj with
  |0,_=>simp[go_sem]
  |1,_=>simp[go_sem]
theorem KP(l:Tx):(⟨l.toArray⟩:ByteArray).toList=l:=by rw[Lib.toList_data]
theorem LZ(v:Value)(l:List Tok)(i:Nat)(w:World)(h:TR w v l)(hl:l.length≤1099511627776)(hi:i≤1099511627700):
  Calls Tryz.prog 261 #[v,.int .i64 (i:Int)] w fun e w'=>e=.returned (.int .i64 (Il l i:Nat))∧Below w.heap.size w w':=by
 obtain⟨i1,aN⟩:∃i1,i+1=i1:=⟨_,rfl⟩;obtain⟨i2,gi⟩:∃i2,i+2=i2:=⟨_,rfl⟩;have wa:IntKind.i64.wrap ((i:Int)+1)=(i1:Int):=by rw[show(i:Int)+1=(i1:Int) by omega];exact d7 (by omega)
 have wb:IntKind.i64.wrap ((i1:Int)+1)=(i2:Int):=by rw[show(i1:Int)+1=(i2:Int) by omega];exact d7 (by omega)
 have hw:=S2 v l i ⟨#[97,115]⟩ w h hl;have dj:=Jx v l i (w.alloc (.cells #[.string ⟨#[97,115]⟩] 9)) (h.below (gT _ _)) hl (by omega)
 have iP:=Jx v l i1 (w.alloc (.cells #[.string ⟨#[97,115]⟩] 9)) (h.below (gT _ _)) hl (by omega)
 have e0: [(⟨#[97,115]⟩:ByteArray).toList]=[Rc]:=by rw[Lib.toList_data];rfl
 rw[e0]at hw;have hB:=gT w (.cells #[.string ⟨#[97,115]⟩] 9);have hr:Il l i=if bi 1 [Rc] l i=true then(if bY l i1=1 then i2 else i1)else(if bY l i=1 then i1 else i):=by
  unfold Il asB;subst gi aN
  split<;>rfl
 generalize Il l i=r at*
 generalize bi 1 [Rc] l i=b at*
 generalize bY l i=n at*
 generalize bY l i1=m at*
 obtain⟨HW,HM,HN,HB⟩:=hZ4 hw dj iP hB;clear hw dj iP hB h aN gi hi e0
 cases b
 ·by_cases h1:n=1
  ·subst h1
   rw[if_neg (by decide),if_pos rfl]at hr
   subst hr;go_enter Tryz.func261,Tryz.ntmps261;go_wp2_with (first
    |(go_at_call 258;(with_reducible refine HW.out.mono ?_);rintro e w2 ⟨rfl,rfl⟩)
    |(go_at_call 259;(with_reducible refine HM.out.mono ?_);rintro e w2 ⟨rfl,rfl⟩))
   go_ret;exact⟨rfl,HB.out⟩
  ·have e1:((n:Int)==(1:Int))=false:=by rw[beq_eq_false_iff_ne];omega
   rw[if_neg (by decide),if_neg h1]at hr
   subst hr;clear h1;go_enter Tryz.func261,Tryz.ntmps261;go_wp2_with (first
    |(go_at_call 258;(with_reducible refine HW.out.mono ?_);rintro e w2 ⟨rfl,rfl⟩)
    |(go_at_call 259;(with_reducible refine HM.out.mono ?_);rintro e w2 ⟨rfl,rfl⟩))
   go_ret;exact⟨rfl,HB.out⟩
 ·by_cases h1:m=1
  ·subst h1
   rw[if_pos rfl,if_pos rfl]at hr;subst hr;go_enter Tryz.func261,Tryz.ntmps261;go_wp2_with (first
    |(go_at_call 258;(with_reducible refine HW.out.mono ?_);rintro e w2 ⟨rfl,rfl⟩)
    |(go_at_call 259;(with_reducible refine HN.out.mono ?_);rintro e w2 ⟨rfl,rfl⟩))
   go_ret;exact⟨rfl,HB.out⟩
  ·have e1:((m:Int)==(1:Int))=false:=by rw[beq_eq_false_iff_ne];omega
   rw[if_pos rfl,if_neg h1]at hr;subst hr;clear h1;go_enter Tryz.func261,Tryz.ntmps261;go_wp2_with (first
    |(go_at_call 258;(with_reducible refine HW.out.mono ?_);rintro e w2 ⟨rfl,rfl⟩)
    |(go_at_call 259;(with_reducible refine HN.out.mono ?_);rintro e w2 ⟨rfl,rfl⟩))
   go_ret;exact⟨rfl,HB.out⟩
theorem Oy(v:Value)(t:Tok)(w:World)(h:TR w v [t])(hz:t.2.1.size≤281474976710656):
  Calls Tryz.prog 260 #[v] w fun e w'=>e=.returned (.string t.2.1)∧Below w.heap.size w w':=by
 obtain⟨a,cap,rfl,hx⟩:=Kw h;clear h;rcases hx with h0|⟨g,off,rfl,bn,hx⟩
 ·exact absurd h0 (by simp)
 ·have x2:=(hx 0 (by simp)).2
  have hc:=Hp t.2.1 w hz;obtain⟨kd,tx,ta⟩:=t;simp only[List.getElem_cons_zero,List.length_singleton,Nat.zero_mul,Nat.add_zero]at x2 hc hx⊢;have HC:=qid hc;clear hx hc bn hz;go_enter Tryz.func260,Tryz.ntmps260;go_wp2_with (go_at_call 48;(with_reducible refine HC.out.mono ?_);rintro e w2 ⟨rfl,hb⟩);go_ret;exact⟨rfl,hb⟩
theorem Oz(v:Value)(t p q:Tok)(w:World)(h:TR w v [t,p,q])(hz:t.2.1.size≤1000000000)(bg:q.2.1.size≤1000000000):
  Calls Tryz.prog 260 #[v] w fun e w'=>(∃s:ByteArray,e=.returned (.string s)∧s.toList=t.2.1.toList++[46]++q.2.1.toList)∧Below w.heap.size w w':=by
 obtain⟨a,cap,rfl,hx⟩:=Kw h;clear h;rcases hx with h0|⟨g,off,rfl,bn,hx⟩
 ·exact absurd h0 (by simp)
 ·have x1:=(hx 0 (by simp)).2
  have x2:=(hx 2 (by simp)).2
  obtain⟨kd,tx,ta⟩:=t;obtain⟨kq,ty,tb⟩:=q;simp only[List.getElem_cons_zero,List.getElem_cons_succ,List.length_cons,List.length_nil,Nat.zero_add,Nat.reduceAdd,Nat.zero_mul,Nat.add_zero,Nat.reduceMul]at x1 x2 hx hz bg⊢;clear hx bn;go_enter Tryz.func260,Tryz.ntmps260;go_wp2
  go_quiet (fail)
  go_wp2;go_ret;refine⟨⟨_,rfl,?_⟩,⟨rfl,rfl,rfl,Nat.le_refl _,fun _ _=>rfl⟩⟩
  simp only[Lib.toList_data,ByteArray.data_append,Array.toList_append]
def JR(more:List (Tx×Nat)→Tx×Nat→Bool):List (Tx×Nat)→List (Tx×Nat)→List (Tx×Nat)
 |d,[]=>d
 |d,x::r=>if more d x=true then JR more (d++[x]) r else d++[x]
structure WG(f:Nat)(lb:Array Value)(v:Value)(l:List Tok)(z:Nat)(J:List (Tx×Nat)→World→Prop)(more:List (Tx×Nat)→Tx×Nat→Bool):Prop where
 enter:∀args w,Sem.run Tryz.prog (callFunc f args) w=.ok (.enter f args) w
 reads:∀d W,J d W→TR W v l
 keeps:∀d W W',J d W→Below W.heap.size W W'→J d W'
 tells:∀d (s:ByteArray) (p:Nat) W,J d W→d.length+1≤z→s.size≤2000000001→p<l.length→Calls Tryz.prog f (#[.string s,.int .i64 (p:Int)]++lb) W fun e W'=>e=.returned (.bool (more d (s.toList,p)))∧J (d++[(s.toList,p)]) W'
theorem WH{w:World}{g off:Nat}{l:List Tok}(hx:∀k (hk:k<l.length),w.cell? ⟨g,off+k*3,none⟩=some (.int .i64 l[k].1)∧w.cell? ⟨g,off+k*3+1,none⟩=some (.string l[k].2.1)∧w.cell? ⟨g,off+k*3+2,none⟩=some (.int .i64 l[k].2.2))(j n c:Nat)(hj:j+n≤l.length)(hc:n≤c):
  TR w (.slice (some ⟨g,off+j*3,none⟩) n c) ((l.drop j).take n):=by
 have hlen:((l.drop j).take n).length=n:=by rw[List.length_take,List.length_drop];omega
 refine .inr ⟨g,off+j*3,c,by rw[hlen],by rw[hlen];exact hc,fun i t hi=>?_⟩
 have eO:i<n:=by have:=(List.getElem?_eq_some_iff.1 hi).1;omega
 rw[List.getElem?_take_of_lt eO,List.getElem?_drop]at hi;obtain⟨h1,h2⟩:=List.getElem?_eq_some_iff.1 hi;have h3:=hx (j+i) h1;rw[h2,show off+(j+i)*3=off+j*3+i*3 by omega]at h3
 exact h3
theorem PA(v:Value)(l:List Tok)(j:Nat)(w:World)(h:TR w v l)(hz:∀t∈l,t.2.1.size≤1000000000)(hn:bY l j≠0)(g off cap:Nat)(hv:v=.slice (some ⟨g,off,none⟩) l.length cap)(c:Nat)(hc:bY l j≤c):
  Calls Tryz.prog 260 #[.slice (some ⟨g,off+j*3,none⟩) (bY l j) c] w fun e w'=>(∃s:ByteArray,e=.returned (.string s)∧s.toList=rt l j∧s.size≤2000000001)∧Below w.heap.size w w':=by
 obtain⟨hle,h1,h3⟩:=IQ hn;have hx:∀k (hk:k<l.length),w.cell? ⟨g,off+k*3,none⟩=some (.int .i64 l[k].1)∧w.cell? ⟨g,off+k*3+1,none⟩=some (.string l[k].2.1)∧w.cell? ⟨g,off+k*3+2,none⟩=some (.int .i64 l[k].2.2):=by
  rcases h with⟨A,c2,e,rfl⟩|⟨g2,pY,c2,e,_,hx⟩
  ·intro k hk;exact absurd hk (by simp)
  ·rw[hv]at e;cases e
   exact fun k hk=>hx k l[k] (List.getElem?_eq_getElem hk)
 have hp:=WH hx j (bY l j) c hle hc;have hj:j<l.length:=by omega
 have t0:Hz l j=l[j].2.1.toList:=by unfold Hz;rw[List.getElem?_eq_getElem hj]
 have sz:∀k (hk:k<l.length),l[k].2.1.size≤1000000000:=fun k hk=>hz _ (List.getElem_mem hk)
 have oZ:=sz j hj;have hw:bY l j=3∨bY l j=1:=by
  unfold bY at hn⊢
  split at hn
  ·exact absurd rfl hn
  ·rename_i hp
   rw[if_neg hp]
   split
   ·exact .inl rfl
   ·exact .inr rfl
 rcases hw with e|e
 ·have dI:j+2<l.length:=by omega
  have gW:j+1<l.length:=by omega
  have ep:(l.drop j).take 3=[l[j],l[j+1],l[j+2]]:=by
   rw[List.drop_eq_getElem_cons hj,List.drop_eq_getElem_cons gW,List.drop_eq_getElem_cons dI];rfl
  have t2:Hz l (j+2)=l[j+2].2.1.toList:=by unfold Hz;rw[List.getElem?_eq_getElem dI]
  have bC:=sz (j+2) dI;rw[e]at hp⊢;rw[ep]at hp;refine(Oz _ _ _ _ w hp oZ bC).mono fun e2 w' ⟨⟨s,he,hs⟩,hb⟩=>⟨⟨s,he,?_,?_⟩,hb⟩
  ·rw[hs,rt,if_pos e,t0,t2]
  ·have h5:s.size=s.toList.length:=by rw[Lib.toList_data];rfl
   have h6:l[j].2.1.size=l[j].2.1.toList.length:=by rw[Lib.toList_data];rfl
   have h7:l[j+2].2.1.size=l[j+2].2.1.toList.length:=by rw[Lib.toList_data];rfl
   rw[h5,hs,List.length_append,List.length_append,List.length_singleton];omega
 ·have ep:(l.drop j).take 1=[l[j]]:=by rw[List.drop_eq_getElem_cons hj];rfl
  rw[e]at hp⊢;rw[ep]at hp;refine(Oy _ _ w hp (by omega)).mono fun e2 w' ⟨he,hb⟩=>⟨⟨_,he,?_,by omega⟩,hb⟩
  rw[rt,if_neg (by omega),t0]
theorem Nv(f:Nat)(lb:Array Value)(v:Value)(l:List Tok)(i z:Nat)(w:World)(J:List (Tx×Nat)→World→Prop)(more:List (Tx×Nat)→Tx×Nat→Bool)(T:WG f lb v l z J more)(hl:l.length≤1000000)(hi:i≤l.length)(hz:∀t∈l,t.2.1.size≤1000000000)(d0:List (Tx×Nat))(h0:J d0 w)(hd:d0.length+(l.length-i)≤z):
  Calls Tryz.prog 233 #[v,.int .i64 (i:Int),.func (.func f) #[] lb] w fun e w'=>e=.returned (.tuple #[])∧J (JR more d0 (Hc l i)) w':=by
 obtain⟨R,hR⟩:∃R,JR more d0 (Hc l i)=R:=⟨_,rfl⟩;rw[hR];obtain⟨a,cap,rfl,hx⟩:=Kw (T.reads _ _ h0);have HX:l.length=0∨∃g off,a=some ⟨g,off,none⟩∧l.length≤cap:=hx.imp id fun⟨g,off,e,hc,_⟩=>⟨g,off,e,hc⟩
 obtain⟨HR,HT,HZ,HD,H0⟩:=hZ5 hR T hz hd h0;clear hx hR T hz hd h0;have tH:=fun args w=>HT.out.enter args w
 go_enter Tryz.func233,Tryz.ntmps233;go_wp2
 go_loopg [1,6] (l.length+1) (fun g u1 u6 wx=>∃(k:Nat) (d:List (Tx×Nat)),u1=.int .i64 (k:Int)∧k≤l.length∧l.length-k+1≤g∧J d wx∧d.length+(l.length-k)≤z∧R=JR more d (Hc l k))
 case atStart=>exact⟨i,d0,rfl,hi,by omega,H0.out,HD.out,HR.out.symm⟩
 case round=>
  obtain⟨k,d,rfl,hk,hg,hJ,tI,hv⟩:=hrel;obtain⟨HJ,HV,gX⟩:=hZ3 hJ hv tI;clear hJ hv tI HR H0 HD;have A5:J d (wr.alloc (.cells #[.string ⟨#[111,110,108,121]⟩,.string ⟨#[116,97,98,108,101]⟩] 9)):=HT.out.keeps _ _ _ HJ.out (gT _ _);have hW:=S3 (.slice a l.length cap) l k ⟨#[111,110,108,121]⟩ ⟨#[116,97,98,108,101]⟩ wr (HT.out.reads _ _ HJ.out) (by omega)
  have e0: [(⟨#[111,110,108,121]⟩:ByteArray).toList,(⟨#[116,97,98,108,101]⟩:ByteArray).toList]=[JJ,Fd]:=by rw[Lib.toList_data,Lib.toList_data];rfl
  rw[e0]at hW;obtain⟨j,hj⟩:∃j,fd l k=j:=⟨_,rfl⟩;obtain⟨n,hn⟩:∃n,bY l j=n:=⟨_,rfl⟩;have lX:=Kq l k;rw[hj]at lX;have A6:∀W,J d W→Calls Tryz.prog 259 #[.slice a l.length cap,.int .i64 (j:Int)] W fun e w'=>e=.returned (.int .i64 (n:Int))∧w'=W:=fun W h=>by rw[←hn];exact Jx _ l j W (HT.out.reads _ _ h) (by omega) (by omega)
  have hE:=Jt l k;rw[hj,hn]at hE;have mz:bi 1 [JJ,Fd] l k=true→IntKind.i64.wrap ((k:Int)+1)=(j:Int):=fun hb=>by
   have:j=k+1:=by rw[←hj,fd,if_pos hb]
   rw[show(k:Int)+1=(j:Int) by omega];exact d7 (by omega)
  have s4:bi 1 [JJ,Fd] l k=false→j=k:=fun hb=>by rw[←hj,fd,if_neg (by rw[hb];decide)]
  generalize bi 1 [JJ,Fd] l k=b1 at*
  obtain⟨HW,nA,jU,jV⟩:=hZ4 hW A6 A5 lX;clear hW A6 A5 e0 lX
  by_cases jT:n=0
  ·subst jT
   rw[if_pos rfl]at hE;have ax:R=d:=by rw[HV.out,hE];rfl
   have cO:=qid ax;clear hE ax HV hn hj
   cases b1
   ·obtain rfl:=s4 rfl
    clear mz s4;go_wp2_with (first
     |(go_at_call 258;(with_reducible refine HW.out.mono ?_);rintro e w2 ⟨rfl,rfl⟩)
     |(go_at_call 259;(with_reducible refine(nA.out _ jU.out).mono ?_);rintro e w2 ⟨rfl,rfl⟩))
    refine bodyPost_ret (v:=.tuple #[]) (by simp[results,Tryz.results233,go_sem]) rfl ?_
    exact⟨rfl,by rw[cO.out];exact jU.out⟩
   ·have aJ:=mz rfl
    clear mz s4;go_wp2_with (first
     |(go_at_call 258;(with_reducible refine HW.out.mono ?_);rintro e w2 ⟨rfl,rfl⟩)
     |(go_at_call 259;(with_reducible refine(nA.out _ jU.out).mono ?_);rintro e w2 ⟨rfl,rfl⟩))
    refine bodyPost_ret (v:=.tuple #[]) (by simp[results,Tryz.results233,go_sem]) rfl ?_
    exact⟨rfl,by rw[cO.out];exact jU.out⟩
  ·have tJ:=IQ (l:=l) (i:=j) (by rw[hn];exact jT)
   rw[hn]at tJ;obtain⟨dk,dj,A7⟩:=tJ;rcases HX with h0|⟨g,off,rfl,bn⟩
   ·omega
   obtain⟨jn,lV⟩:∃jn,j+n=jn:=⟨_,rfl⟩;rw[if_neg jT,lV]at hE;obtain⟨x,hx⟩:∃x,(rt l j,j)=x:=⟨_,rfl⟩;obtain⟨m,hm⟩:∃m,more d x=m:=⟨_,rfl⟩;obtain⟨q,hq⟩:∃q,Il l jn=q:=⟨_,rfl⟩;obtain⟨c,hc⟩:∃c,rd l q=c:=⟨_,rfl⟩;have pZ:=UB l jn;rw[hq]at pZ;have oY:∀W,J d W→Calls Tryz.prog 260 #[.slice (some ⟨g,off+j*3,none⟩) (jn-j) (cap-j)] W fun e w'=>(∃s:ByteArray,e=.returned (.string s)∧s.toList=rt l j∧s.size≤2000000001)∧J d w':=fun W h=>by
    have:=PA _ l j W (HT.out.reads _ _ h) HZ.out (by rw[hn];exact jT) g off cap rfl (cap-j) (by rw[hn];omega)
    rw[hn,show n=jn-j by omega]at this
    exact this.mono fun e w' h2=>⟨h2.1,HT.out.keeps _ _ _ h h2.2⟩
   have A8:=gX.out;have lX:=jV.out;have nZ:∀W (s:ByteArray),J d W→s.toList=rt l j→s.size≤2000000001→Calls Tryz.prog f (#[.string s,.int .i64 (j:Int)]++lb) W fun e w'=>e=.returned (.bool m)∧J (d++[x]) w':=fun W s h h2 h3=>by
    have:=HT.out.tells d s j W h (by omega) h3 (by omega)
    rw[h2,hx,hm]at this;exact this
   have gl:∀W,J (d++[x]) W→Calls Tryz.prog 261 #[.slice (some ⟨g,off,none⟩) l.length cap,.int .i64 (jn:Int)] W fun e w'=>e=.returned (.int .i64 (q:Int))∧J (d++[x]) w':=fun W h=>by
    have:=LZ _ l jn W (HT.out.reads _ _ h) (by omega) (by omega)
    rw[hq]at this;exact this.mono fun e w' h2=>⟨h2.1,HT.out.keeps _ _ _ h h2.2⟩
   have A9:∀W,J (d++[x]) W→Calls Tryz.prog 262 #[.slice (some ⟨g,off,none⟩) l.length cap,.int .i64 (q:Int),.string ⟨#[44]⟩] W fun e w'=>e=.returned (.bool c)∧w'=W:=fun W h=>by
    have:=Mm _ l q ⟨#[44]⟩ W (HT.out.reads _ _ h) (by omega)
    rw[show [(⟨#[44]⟩:ByteArray).toList]=[[44]] by rw[Lib.toList_data]]at this
    rw[←hc];exact this
   have Fi:IntKind.i64.wrap ((j:Int)+(n:Int))=(jn:Int):=by rw[show(j:Int)+(n:Int)=(jn:Int) by omega];exact d7 (by omega)
   obtain⟨q1,na⟩:∃q1,q+1=q1:=⟨_,rfl⟩;have wq:IntKind.i64.wrap ((q:Int)+1)=(q1:Int):=by rw[show(q:Int)+1=(q1:Int) by omega];exact d7 (by omega)
   have l0:(0:Int)≤(j:Int):=by omega
   have l1:(j:Int)≤(jn:Int):=by omega
   have l2:(jn:Int)≤(cap:Int):=by omega
   have Cl:¬cap=j:=by omega
   have Cn:¬j=cap:=by omega
   have en:((n:Int)==0)=false:=by rw[beq_eq_false_iff_ne];omega
   obtain⟨oa,kK,dh,oc,HE,jj⟩:=hZ6 oY nZ gl A9 hE pZ;obtain⟨jk,fB,HC,HQ,iw⟩:=hZ5 lV na hc hq hx;obtain⟨HM,kf⟩:=hZ2 hm dk;clear oY nZ gl A9 hE pZ lV na hc hm hq hx hj hn A8 jT dk bn lX;have gm:m=false→R=d++[x]:=fun e=>by rw[HV.out,HE.out,JR,iw.out,HM.out,e];rfl
   have ax:m=true→c=false→R=d++[x]:=fun e e2=>by
    rw[HV.out,HE.out,JR,iw.out,HM.out,e,if_pos rfl];have h3:rd l (Fn l jn)=false:=by
     rcases Mo l jn with h|h
     ·rw[HQ.out,HC.out,e2]at h;exact absurd h.1 (by decide)
     ·exact h.2
    rw[h3,if_neg (by decide)];rfl
   have ix:m=true→c=true→R=JR more (d++[x]) (Hc l q1)∧q<l.length:=fun e e2=>by
    rw[HV.out,HE.out,JR,iw.out,HM.out,e,if_pos rfl];have h3:rd l (Fn l jn)=true∧Fn l jn=q:=by
     rcases Mo l jn with h|h
     ·rw[HQ.out,HC.out,e2]at h;rw[←h.2];exact⟨by rw[HC.out,e2],rfl⟩
     ·rw[HQ.out,HC.out,e2]at h;exact absurd h.1 (by decide)
    rw[h3.1,if_pos rfl,h3.2,fB.out];exact⟨rfl,Ns (by have:=HC.out;rw[e2]at this;exact this)⟩
   obtain⟨cB,cO,kg⟩:=hZ3 gm ax ix;clear gm ax ix HV HE HC HM HQ iw
   cases b1
   ·obtain rfl:=s4 rfl
    clear mz s4
    cases m
    ·have eC:=qid (cB.out rfl)
     clear cB cO kg;go_wp2_with (first
      |(go_at_call 258;(with_reducible refine HW.out.mono ?_);rintro e w2 ⟨rfl,rfl⟩)
      |(go_at_call 259;(with_reducible refine(nA.out _ jU.out).mono ?_);rintro e w2 ⟨rfl,rfl⟩)
      |(go_at_call 260;(with_reducible refine(oa.out _ jU.out).mono ?_);rintro e w2 ⟨⟨s,rfl,hs,bH⟩,iy⟩;have eP:=qid (kK.out _ s iy hs bH);clear hs bH iy)
      |(go_at_call 261;(with_reducible refine(dh.out _ jl.out).mono ?_);rintro e w4 ⟨rfl,iz⟩;have eF:=qid iz;clear iz)
      |(go_at_call 262;(with_reducible refine(oc.out _ eF.out).mono ?_);rintro e w5 ⟨rfl,rfl⟩)
      |((with_reducible refine eP.out.mono ?_);rintro e w3 ⟨rfl,gz⟩;have jl:=qid gz;clear gz eP))
     refine bodyPost_ret (v:=.tuple #[]) (by simp[results,Tryz.results233,go_sem]) rfl ?_
     exact⟨rfl,by rw[eC.out];exact jl.out⟩
    ·cases c
     ·have eC:=qid (cO.out rfl rfl)
      clear cB cO kg;go_wp2_with (first
       |(go_at_call 258;(with_reducible refine HW.out.mono ?_);rintro e w2 ⟨rfl,rfl⟩)
       |(go_at_call 259;(with_reducible refine(nA.out _ jU.out).mono ?_);rintro e w2 ⟨rfl,rfl⟩)
       |(go_at_call 260;(with_reducible refine(oa.out _ jU.out).mono ?_);rintro e w2 ⟨⟨s,rfl,hs,bH⟩,iy⟩;have eP:=qid (kK.out _ s iy hs bH);clear hs bH iy)
       |(go_at_call 261;(with_reducible refine(dh.out _ jl.out).mono ?_);rintro e w4 ⟨rfl,iz⟩;have eF:=qid iz;clear iz)
       |(go_at_call 262;(with_reducible refine(oc.out _ eF.out).mono ?_);rintro e w5 ⟨rfl,rfl⟩)
       |((with_reducible refine eP.out.mono ?_);rintro e w3 ⟨rfl,gz⟩;have jl:=qid gz;clear gz eP))
      refine bodyPost_ret (v:=.tuple #[]) (by simp[results,Tryz.results233,go_sem]) rfl ?_
      exact⟨rfl,by rw[eC.out];exact eF.out⟩
     ·have eC:=qid (kg.out rfl rfl)
      clear cB cO kg;obtain⟨g2,rfl⟩:∃g2,gk=g2+1:=⟨gk-1,by omega⟩
      go_wp2_with (first
       |(go_at_call 258;(with_reducible refine HW.out.mono ?_);rintro e w2 ⟨rfl,rfl⟩)
       |(go_at_call 259;(with_reducible refine(nA.out _ jU.out).mono ?_);rintro e w2 ⟨rfl,rfl⟩)
       |(go_at_call 260;(with_reducible refine(oa.out _ jU.out).mono ?_);rintro e w2 ⟨⟨s,rfl,hs,bH⟩,iy⟩;have eP:=qid (kK.out _ s iy hs bH);clear hs bH iy)
       |(go_at_call 261;(with_reducible refine(dh.out _ jl.out).mono ?_);rintro e w4 ⟨rfl,iz⟩;have eF:=qid iz;clear iz)
       |(go_at_call 262;(with_reducible refine(oc.out _ eF.out).mono ?_);rintro e w5 ⟨rfl,rfl⟩)
       |((with_reducible refine eP.out.mono ?_);rintro e w3 ⟨rfl,gz⟩;have jl:=qid gz;clear gz eP))
      go_roundg g2
      case measure=>exact Nat.lt_succ_self _
      case rel=>
       have r1:=eC.out;have r2:=jj.out;have r3:=jk.out;have r4:=fB.out;have r5:=jV.out;have r6:=gX.out;have r7:=kf.out;clear HW nA oa kK dh oc;exact⟨q1,d++[x],rfl,by omega,by omega,eF.out,by rw[List.length_append,List.length_singleton];omega,r1.1⟩
   ·have aJ:=mz rfl
    clear mz s4
    cases m
    ·have eC:=qid (cB.out rfl)
     clear cB cO kg;go_wp2_with (first
      |(go_at_call 258;(with_reducible refine HW.out.mono ?_);rintro e w2 ⟨rfl,rfl⟩)
      |(go_at_call 259;(with_reducible refine(nA.out _ jU.out).mono ?_);rintro e w2 ⟨rfl,rfl⟩)
      |(go_at_call 260;(with_reducible refine(oa.out _ jU.out).mono ?_);rintro e w2 ⟨⟨s,rfl,hs,bH⟩,iy⟩;have eP:=qid (kK.out _ s iy hs bH);clear hs bH iy)
      |(go_at_call 261;(with_reducible refine(dh.out _ jl.out).mono ?_);rintro e w4 ⟨rfl,iz⟩;have eF:=qid iz;clear iz)
      |(go_at_call 262;(with_reducible refine(oc.out _ eF.out).mono ?_);rintro e w5 ⟨rfl,rfl⟩)
      |((with_reducible refine eP.out.mono ?_);rintro e w3 ⟨rfl,gz⟩;have jl:=qid gz;clear gz eP))
     refine bodyPost_ret (v:=.tuple #[]) (by simp[results,Tryz.results233,go_sem]) rfl ?_
     exact⟨rfl,by rw[eC.out];exact jl.out⟩
    ·cases c
     ·have eC:=qid (cO.out rfl rfl)
      clear cB cO kg;go_wp2_with (first
       |(go_at_call 258;(with_reducible refine HW.out.mono ?_);rintro e w2 ⟨rfl,rfl⟩)
       |(go_at_call 259;(with_reducible refine(nA.out _ jU.out).mono ?_);rintro e w2 ⟨rfl,rfl⟩)
       |(go_at_call 260;(with_reducible refine(oa.out _ jU.out).mono ?_);rintro e w2 ⟨⟨s,rfl,hs,bH⟩,iy⟩;have eP:=qid (kK.out _ s iy hs bH);clear hs bH iy)
       |(go_at_call 261;(with_reducible refine(dh.out _ jl.out).mono ?_);rintro e w4 ⟨rfl,iz⟩;have eF:=qid iz;clear iz)
       |(go_at_call 262;(with_reducible refine(oc.out _ eF.out).mono ?_);rintro e w5 ⟨rfl,rfl⟩)
       |((with_reducible refine eP.out.mono ?_);rintro e w3 ⟨rfl,gz⟩;have jl:=qid gz;clear gz eP))
      refine bodyPost_ret (v:=.tuple #[]) (by simp[results,Tryz.results233,go_sem]) rfl ?_
      exact⟨rfl,by rw[eC.out];exact eF.out⟩
     ·have eC:=qid (kg.out rfl rfl)
      clear cB cO kg;obtain⟨g2,rfl⟩:∃g2,gk=g2+1:=⟨gk-1,by omega⟩
      go_wp2_with (first
       |(go_at_call 258;(with_reducible refine HW.out.mono ?_);rintro e w2 ⟨rfl,rfl⟩)
       |(go_at_call 259;(with_reducible refine(nA.out _ jU.out).mono ?_);rintro e w2 ⟨rfl,rfl⟩)
       |(go_at_call 260;(with_reducible refine(oa.out _ jU.out).mono ?_);rintro e w2 ⟨⟨s,rfl,hs,bH⟩,iy⟩;have eP:=qid (kK.out _ s iy hs bH);clear hs bH iy)
       |(go_at_call 261;(with_reducible refine(dh.out _ jl.out).mono ?_);rintro e w4 ⟨rfl,iz⟩;have eF:=qid iz;clear iz)
       |(go_at_call 262;(with_reducible refine(oc.out _ eF.out).mono ?_);rintro e w5 ⟨rfl,rfl⟩)
       |((with_reducible refine eP.out.mono ?_);rintro e w3 ⟨rfl,gz⟩;have jl:=qid gz;clear gz eP))
      go_roundg g2
      case measure=>exact Nat.lt_succ_self _
      case rel=>
       have r1:=eC.out;have r2:=jj.out;have r3:=jk.out;have r4:=fB.out;have r5:=jV.out;have r6:=gX.out;have r7:=kf.out;clear HW nA oa kK dh oc;exact⟨q1,d++[x],rfl,by omega,by omega,eF.out,by rw[List.length_append,List.length_singleton];omega,r1.1⟩
abbrev sV(x:Tx):Value:=.string ⟨x.toArray⟩
structure NmJ(w0:World)(B:Nat)(d:List Tx)(W:World):Prop where
 bel:Below w0.heap.size w0 W
 hB:w0.heap.size≤B
 var:∃vs,W.heap[B]? =some (.cells #[vs] 50 (0,0))∧W.ownsRow w0.heap.size 9 1 vs d.length (d.map sV)
theorem NmJ.step{w0 W W2:World}{B:Nat}{d:List Tx}(h:NmJ w0 B d W)(b:Below W.heap.size W W2):NmJ w0 B d W2:=by
 obtain⟨vs,h1,h2⟩:=h.var;exact⟨h.bel.trans (b.mono h.bel.size),h.hB,vs,by rw[b.block _ (lt_of_block h1)];exact h1,Gq h2 b⟩
theorem OA{W:World}{B b n:Nat}{vs:Value}{xs:List Value}{v:Value}(h:W.ownsRow b 9 1 vs n xs)(h1:W.heap[B]? =some (.cells #[v] 50 (0,0))):vs.ownBlock≠some B:=by
 intro e;obtain⟨_,c,fz,h2⟩:=QR h B e;rw[h1]at h2;injection h2 with h2;injection h2 with _ h3 _;exact absurd h3 (by decide)
theorem Mp{w w':World}{row:Option Nat}{B:Nat}(hg:w.grownBy w' row)(hB:B<w.heap.size)(b7:row≠some B):w'.heap[B]? =w.heap[B]? :=hg.block B hB (fun e=>b7 e.symm)
theorem NmJ.push{w0 W W1:World}{B g cap:Nat}{d:List Tx}{s:ByteArray}{vs:Value}{x:Tx}(h:NmJ w0 B d W)(hv:W.heap[B]? =some (.cells #[vs] 50 (0,0)))(ho:W.ownsRow w0.heap.size 9 1 vs d.length (d.map sV))(hs:s.toList=x)(aE:W1.ownsRow w0.heap.size 9 1 (.slice (some ⟨g,0,none⟩) (d.length+1) cap) (d.length+1) (d.map sV++[.string s]))(hg:W.grownBy W1 vs.ownBlock):
  NmJ w0 B (d++[x]) (W1.setCell ⟨B,0,none⟩ (.slice (some ⟨g,0,none⟩) (d.length+1) cap)):=by
 have aD:=lt_of_block hv;have b7:=OA ho hv;have h1:W1.heap[B]? =some (.cells #[vs] 50 (0,0)):=by rw[Mp hg aD b7];exact hv
 refine⟨(h.bel.grown hg h.bel.size fun k hk=>(World.ownsRow.lt ho k hk).1).setCell h.hB _,h.hB,_,one_setCell h1,?_⟩
 have e1:(d++[x]).map sV=d.map sV++[.string s]:=by
  rw[List.map_append,List.map_cons,List.map_nil];have:(⟨x.toArray⟩:ByteArray)=s:=Lr (by rw[KP,hs])
  rw[←this]
 rw[List.length_append,List.length_singleton,e1];exact ownsRow_setCell_other aE (OA aE h1) _
theorem NL:(Tryz.prog.info? 9).map (fun i=>(i.zero,i.size,i.bytes))=some (some (.string ByteArray.empty),1,16):=by kernel_rfl
theorem IV:Tryz.prog.underlying 50=some (.slice 9):=by kernel_rfl
theorem NmJ.form{w0 W:World}{B:Nat}{d:List Tx}(h:NmJ w0 B d W):∃a cap,W.heap[B]? =some (.cells #[.slice a d.length cap] 50 (0,0))∧W.ownsRow w0.heap.size 9 1 (.slice a d.length cap) d.length (d.map sV):=by
 obtain⟨vs,h1,h2⟩:=h.var;rcases h2.2 with⟨rfl,hz⟩|⟨g,cap,cur,rfl,_⟩
 ·exact⟨none,0,by rw[hz];exact h1,by rw[hz]at h2⊢;exact h2⟩
 ·exact⟨_,_,h1,h2⟩
theorem UC(w0:World)(B:Nat)(d:List Tx)(s:ByteArray)(x:Tx)(p:Int)(W:World)(h:NmJ w0 B d W)(hd:d.length≤2000000000)(hs:s.toList=x):
  Calls Tryz.prog 231 #[.string s,.int .i64 p,.pointer (some ⟨B,0,none⟩)] W fun e W'=>e=.returned (.bool true)∧NmJ w0 B (d++[x]) W':=by
 obtain⟨a,cap,hv,ho⟩:=h.form;obtain⟨i0,hi,eK,dD,bg⟩:=info_parts NL;have hb:=gT W (.cells #[.string s] 9);have h2:=h.step hb;have ax:(W.alloc (.cells #[.string s] 9)).heap[B]? =some (.cells #[.slice a d.length cap] 50 (0,0)):=by rw[hb.block _ (lt_of_block hv)];exact hv
 have fU:=Gq ho hb;have xh:B<W.heap.size:=lt_of_block hv;have c0:=cell_of_one hv;have f0:∀W1:World,(W.alloc (.cells #[.string s] 9)).grownBy W1 (Value.slice a d.length cap).ownBlock→W1.frozen? ⟨B,0,none⟩=false∧W1.cell? ⟨B,0,none⟩=some (.slice a d.length cap):=fun W1 hg=>by
  have h1:W1.heap[B]? =some (.cells #[.slice a d.length cap] 50 (0,0)):=by rw[Mp hg (lt_of_block ax) (OA fU ax)];exact ax
  exact⟨free_of_one h1,cell_of_one h1⟩
 have od:=h2.bel.size;obtain⟨HH,HV,HO,HF⟩:=hZ4 h2 ax fU f0;clear h h2 hv ax ho fU hb f0;go_enter Tryz.func231,Tryz.ntmps231;go_wp2_with (at_builtin;refine wpList_append_lies _ rfl _ _ 50 rfl w0.heap.size 9 i0 (.string ByteArray.empty) 1 16 IV hi eK dD bg rfl (by decide) _ d.length (d.map sV) rfl HO.out ⟨W.heap.size,0,none⟩ 1 1 [.string s] rfl rfl ?c1 ?c2 (by decide) ?c3 ?c4 ?c5 _ rfl ?_)
 case c1=>
  intro j u hj
  match j,hj with
  |0,hj=>simp at hj;subst hj;simp[Addr.add]
 case c2=>intro u hu;simp at hu;subst hu;rfl
 case c3=>unfold maxLen;omega
 case c4=>omega
 case c5=>exact od
 intro g kh W1 aE aj al aD;obtain⟨f1,c1⟩:=HF.out W1 aj;go_wp2;go_ret;exact⟨rfl,NmJ.push HH.out HV.out HO.out hs aE aj⟩
theorem WI(v:Value)(l:List Tok)(i:Nat)(s:ByteArray)(x:Tx)(w:World)(h:TR w v l)(hl:l.length≤1099511627776)(hs:s.toList=x)(W:World)(b:Nat)(hW:Below w.heap.size w W)(hb:W.heap.size=b):
  Calls Tryz.prog 258 #[v,.int .i64 (i:Int),.slice (some ⟨b,0,none⟩) 1 1] (W.alloc (.cells #[.string s] 9)) fun e w'=>e=.returned (.bool (bi 1 [x] l i))∧w'=W.alloc (.cells #[.string s] 9):=by
 subst hb hs;exact S2 v l i s W (h.below hW) hl
theorem qcs(v:Value)(l:List Tok)(i:Nat)(s t:ByteArray)(x y:Tx)(w:World)(h:TR w v l)(hl:l.length≤1099511627776)(hs:s.toList=x)(ht:t.toList=y)(W:World)(b:Nat)(hW:Below w.heap.size w W)(hb:W.heap.size=b):
  Calls Tryz.prog 258 #[v,.int .i64 (i:Int),.slice (some ⟨b,0,none⟩) 2 2] (W.alloc (.cells #[.string s,.string t] 9)) fun e w'=>e=.returned (.bool (bi 1 [x,y] l i))∧w'=W.alloc (.cells #[.string s,.string t] 9):=by
 subst hb hs ht;exact S3 v l i s t W (h.below hW) hl
theorem OB(v:Value)(l:List Tok)(i:Nat)(w:World)(h:TR w v l)(hl:l.length≤1000000)(hi:i≤1000000):
  Calls Tryz.prog 232 #[v,.int .i64 (i:Int)] w fun e w'=>e=.returned (.bool (Iq l i))∧Below w.heap.size w w':=by
 obtain⟨R,hR⟩:∃R,Iq l i=R:=⟨_,rfl⟩;rw[hR];have h1:=qcs v l i ⟨#[106,111,105,110]⟩ ⟨#[117,115,105,110,103]⟩ LP Kp w h (by omega) (by rw[Lib.toList_data];rfl) (by rw[Lib.toList_data];rfl)
 have h2:=WI v l i ⟨#[102,114,111,109]⟩ KO w h (by omega) (by rw[Lib.toList_data];rfl)
 have h3:=WI v l (i-1) ⟨#[100,101,108,101,116,101]⟩ Jr w h (by omega) (by rw[Lib.toList_data];rfl)
 have h4:=WI v l i ⟨#[116,97,98,108,101]⟩ Fd w h (by omega) (by rw[Lib.toList_data];rfl)
 have hn:=fun ws W=>Rj v ws W
 unfold Iq at hR
 generalize bi 1 [LP,Kp] l i=b1 at*
 generalize bi 1 [KO] l i=b2 at*
 generalize bi 1 [Jr] l (i-1)=b3 at*
 generalize bi 1 [Fd] l i=b4 at*
 have B1:Below w.heap.size w (w.alloc (.cells #[.string ⟨#[106,111,105,110]⟩,.string ⟨#[117,115,105,110,103]⟩] 9)):=gT _ _;have B2:Below w.heap.size w ((w.alloc (.cells #[.string ⟨#[106,111,105,110]⟩,.string ⟨#[117,115,105,110,103]⟩] 9)).alloc (.cells #[.string ⟨#[102,114,111,109]⟩] 9)):=B1.alloc (by simp) _
 have B3:Below w.heap.size w (((w.alloc (.cells #[.string ⟨#[106,111,105,110]⟩,.string ⟨#[117,115,105,110,103]⟩] 9)).alloc (.cells #[.string ⟨#[102,114,111,109]⟩] 9)).alloc (.cells #[.string ⟨#[100,101,108,101,116,101]⟩] 9)):=B2.alloc (by simp;omega) _
 have B4:Below w.heap.size w (((w.alloc (.cells #[.string ⟨#[106,111,105,110]⟩,.string ⟨#[117,115,105,110,103]⟩] 9)).alloc (.cells #[.string ⟨#[102,114,111,109]⟩] 9)).alloc (.cells #[.string ⟨#[116,97,98,108,101]⟩] 9)):=B2.alloc (by simp;omega) _
 have K1:=qid (h1 w w.heap.size (Below.refl _ _) rfl);have K2:=qid (h2 _ (w.heap.size+1) B1 (by simp))
 have K3:=qid (h3 _ (w.heap.size+2) B2 (by simp))
 have K4:=qid (h4 _ (w.heap.size+2) B2 (by simp))
 obtain⟨HN,aX,aL,aO,cH⟩:=hZ5 hn B1 B2 B3 B4;clear h1 h2 h3 h4 hn h B1 B2 B3 B4
 cases i with
 |zero=>
  have wm:IntKind.i64.wrap ((0:Int)-1)= -1:=by decide
  simp only[Int.natCast_zero]at K1 K2 K4⊢
  cases b1<;>cases b2<;>cases b4<;>
  ·simp at hR
   subst hR;clear K3;go_enter Tryz.func232,Tryz.ntmps232;go_wp2_with (first
    |(go_at_call 258;(with_reducible refine K1.out.mono ?_);rintro e w2 ⟨rfl,rfl⟩)
    |(go_at_call 258;(with_reducible refine K2.out.mono ?_);rintro e w2 ⟨rfl,rfl⟩)
    |(go_at_call 258;(with_reducible refine K4.out.mono ?_);rintro e w2 ⟨rfl,rfl⟩)
    |(go_at_call 258;(with_reducible refine(HN.out _ _).mono ?_);rintro e w2 ⟨rfl,rfl⟩))
   go_ret;exact⟨rfl,by first|exact aX.out|exact aL.out|exact aO.out|exact cH.out⟩
 |succ k=>
  have wm:IntKind.i64.wrap (((k+1:Nat):Int)-1)=(k:Int):=by rw[show((k+1:Nat):Int)-1=(k:Int) by omega];exact d7 (by omega)
  have ne:(((k+1:Nat):Int)==0)=false:=by rw[beq_eq_false_iff_ne];omega
  rw[Nat.add_sub_cancel]at K3;obtain⟨i1,aN⟩:∃i1,k+1=i1:=⟨_,rfl⟩;simp only[aN]at wm ne K1 K2 K3 K4⊢;have hz:(i1==0)=false:=by rw[beq_eq_false_iff_ne];omega
  have bg:(i1 != 0)=true:=by rw[bne_iff_ne];omega
  rw[aN]at hR;rw[hz,bg]at hR;clear aN hz bg hi
  cases b1<;>cases b2<;>cases b3<;>
  ·simp only[Bool.false_and,Bool.true_and,Bool.or_false,Bool.false_or,Bool.not_false,Bool.not_true,Bool.true_or,Bool.or_true,Bool.and_false]at hR
   subst hR;clear K4;go_enter Tryz.func232,Tryz.ntmps232;go_wp2_with (first
    |(go_at_call 258;(with_reducible refine K1.out.mono ?_);rintro e w2 ⟨rfl,rfl⟩)
    |(go_at_call 258;(with_reducible refine K2.out.mono ?_);rintro e w2 ⟨rfl,rfl⟩)
    |(go_at_call 258;(with_reducible refine K3.out.mono ?_);rintro e w2 ⟨rfl,rfl⟩))
   go_ret;exact⟨rfl,by first|exact aX.out|exact aL.out|exact aO.out|exact cH.out⟩
end Go.Proofs.YtpgddamhdfmdjaaGreatDoor
namespace Go.Proofs.YtpgddamhdfmdjaaGreatDoor
open Go.ChangeShapes Go.WideShapes Go.ChangeAt Go.RowKit Go.Maps
theorem OC{w:World}{B B2 n z:Nat}{e:TypeId}{v:Value}{xs:List Value}(h:w.ownsRow B e z v n xs)(hB:B2≤B):w.ownsRow B2 e z v n xs:=by
 refine⟨h.1,?_⟩;rcases h.2 with hn|⟨g,cap,cur,e1,hb,r⟩
 ·exact .inl hn
 ·exact .inr ⟨g,cap,cur,e1,Nat.le_trans hB hb,r⟩
def Zf(W:World)(M n:Nat)(p:Tx→Bool):Prop:=∃D:DataW Unit,W.ownsMap Tryz.prog 9 (unitElem (H:=Unit)) M n D∧∀x,Maps.has D (Lit.string x)=p x
theorem Zg:Keyed Tryz.prog 9:=string_keyed Tryz.underlying9
theorem Zh:Tryz.prog.underlying 293=some (.map 9 161):=by kernel_rfl
theorem qa9(w:World):(zeroValue 161).run Tryz.prog w=.ok (.agg #[]) w:=by kernel_rfl
theorem qct(x:Tx)(h:x.length≤2000000001):keyOf Tryz.prog 9 (sV x)=some (Lit.string x):=by
 have:=Go.WideMaps.keyOf_string_mk (P:=Tryz.prog) Tryz.underlying9 (s:=⟨x.toArray⟩) (by show x.toArray.size≤maxLen;unfold maxLen;simp;omega)
 exact this
theorem Zf.made(w:World):Zf (w.alloc (.map #[] 0)) w.heap.size 0 (fun _=>false):=⟨.map [],World.ownsMap_made _ _ _ _,fun _=>rfl⟩
theorem UD{W:World}{M n:Nat}{D:DataW Unit}(h:W.ownsMap Tryz.prog 9 (unitElem (H:=Unit)) M n D):∃es c,W.heap[M]? =some (.map es c):=by
 obtain⟨es,c,h1,_⟩:=h;exact⟨es,c,h1⟩
theorem Ke{W:World}{M n b m:Nat}{D:DataW Unit}{v:Value}{xs:List Value}{e:TypeId}{z:Nat}(h:W.ownsMap Tryz.prog 9 (unitElem (H:=Unit)) M n D)(h2:W.ownsRow b e z v m xs):v.ownBlock≠some M:=by
 intro e;obtain⟨_,c,fz,h3⟩:=QR h2 M e;obtain⟨es,c,h4⟩:=UD h;rw[h3]at h4;injection h4 with h4
 cases h4
theorem Zi{D:DataW Unit}(hD:IsMap D)(x y:Tx)(u:DataW Unit):Maps.has (D.put (Lit.string x) u) (Lit.string y)=(y==x||Maps.has D (Lit.string y)):=by
 by_cases h:y=x
 ·subst h;rw[has_put_same hD (k:=Lit.string y) (by exact trivial)];simp
 ·rw[has_put_other (by intro e;cases e;exact h rfl)]
  have:(y==x)=false:=by rw[beq_eq_false_iff_ne];exact h
  rw[this,Bool.false_or]
theorem Zj{D:DataW Unit}(x y:Tx):Maps.has (D.del (Lit.string x)) (Lit.string y)=(y != x&&Maps.has D (Lit.string y)):=by
 by_cases h:y=x
 ·subst h;rw[has_del_same];simp
 ·rw[has_del_other (by intro e;cases e;exact h rfl)]
  have:(y != x)=true:=by rw[bne_iff_ne];exact h
  rw[this,Bool.true_and]
structure KQ(ss T:List Tx)(k:Nat):Prop where
 rises:Kb T
 mem:∀s,s∈T↔s∈ss.take k
theorem KQ.start(ss:List Tx):KQ ss [] 0:=⟨List.Pairwise.nil,fun s=>by simp⟩
theorem KR{ss:List Tx}{k:Nat}(hk:k<ss.length)(s:Tx):s∈ss.take (k+1)↔s∈ss.take k∨s=ss[k]:=by
 rw[List.take_succ_eq_append_getElem hk,List.mem_append,List.mem_singleton]
theorem KQ.old{ss T:List Tx}{k:Nat}(h:KQ ss T k)(hk:k<ss.length)(hm:ss[k]∈ss.take k):KQ ss T (k+1):=
 ⟨h.rises,fun s=>by
  rw[h.mem,KR hk];constructor
  ·exact .inl
  ·rintro(e|e)
   ·exact e
   ·rw[e];exact hm⟩
theorem KQ.new{ss T:List Tx}{k:Nat}(h:KQ ss T k)(hs:ss.Pairwise (fun a b=>a≤b))(hk:k<ss.length)(hm:ss[k]∉ss.take k):KQ ss (T++[ss[k]]) (k+1):=by
 refine⟨List.pairwise_append.2 ⟨h.rises,List.pairwise_singleton ..,fun a ha b hb=>?_⟩,fun s=>by rw[KR hk,List.mem_append,List.mem_singleton,h.mem]⟩
 rw[List.mem_singleton.1 hb];have tK:=(h.mem a).1 ha;have b7:a≠ss[k]:=fun e=>hm (by rw[←e];exact tK)
 obtain⟨i,hi,e⟩:=List.mem_iff_getElem.1 tK;have fV:i<k:=by rw[List.length_take]at hi;omega
 rw[List.getElem_take]at e;have hle:ss[i]≤ss[k]:=(List.pairwise_iff_getElem.1 hs) i k (by omega) hk fV
 rw[e]at hle;rcases Y2 a ss[k]with c|c|c
 ·exact c
 ·exact absurd c b7
 ·exact absurd c (List.not_lt.2 hle)
theorem KQ.done{ss T d:List Tx}(h:KQ ss T ss.length)(hp:ss.Perm d):T=Gw d:=
 qaZ h.rises fun s=>by rw[h.mem,List.take_length];exact hp.mem_iff
theorem UE(d:List Tx):(d.mergeSort fun x y=>decide (x≤y)).Pairwise (fun a b=>a≤b)∧(d.mergeSort fun x y=>decide (x≤y)).Perm d:=by
 refine⟨?_,List.mergeSort_perm _ _⟩;have:=List.pairwise_mergeSort (le:=fun(x y:Tx)=>decide (x≤y)) (fun a b c h1 h2=>by
  simp only[decide_eq_true_eq]at h1 h2⊢;exact List.le_trans h1 h2) (fun a b=>by
  simp only[Bool.or_eq_true,decide_eq_true_eq];exact List.le_total a b) d
 exact this.imp fun h=>by simpa using h
def WK(base:Nat)(W:World)(R:List Tx)(e:Ending)(W':World):Prop:=∃v9,e=.returned v9∧W'.ownsRow base 9 1 v9 R.length (R.map sV)∧Below base W W'
theorem PB(a:Option Addr)(cap base:Nat)(W:World)(hb:base≤W.heap.size):
  Calls Tryz.prog 234 #[.slice a 0 cap] W (WK base W []):=by
 have pc:=@run_makeMap Tryz.prog;have hs:=fun w=>Tryz.slices_Sort_string_none a cap w
 have HB:=qid hb;go_enter Tryz.func234,Tryz.ntmps234;go_wp2;refine wp_loop_rounds 1 ?_;rw[rounds_succ];go_wp2_with (go_at_call 62;(with_reducible refine(hs _).mono ?_);rintro e w2 ⟨rfl,rfl⟩);refine wp_loop_rounds 1 ?_;rw[rounds_succ];go_wp2;go_ret;exact⟨_,rfl,World.ownsRow_nil _ _ _ _,(Below.refl _ _).alloc HB.out _⟩
theorem PC{W:World}{b g n cap:Nat}{d:List Tx}(h:W.ownsRow b 9 1 (.slice (some ⟨g,0,none⟩) n cap) n (d.map sV))(k:Nat)(hk:k<d.length):W.cell? ⟨g,k,none⟩=some (sV d[k]):=by
 have:=h.cells (g:=g) rfl k (sV d[k]) (by rw[List.getElem?_map,List.getElem?_eq_getElem hk];rfl)
 rwa[Addr.add_lit,Nat.zero_add]at this
theorem UF(W wr:World)(base g n cap M:Nat)(d:List Tx)(D:DataW Unit)(hn:n=d.length)(hl:n≤2000000000)(hB:Below base W wr)(od:base≤W.heap.size)(hO:wr.ownsRow base 9 1 (.slice (some ⟨g,0,none⟩) n cap) n (d.map sV))(hM:wr.ownsMap Tryz.prog 9 (unitElem (H:=Unit)) M n D):
  Calls Tryz.prog 62 #[.slice (some ⟨g,0,none⟩) n cap] wr fun e w'=>e=.returned (.tuple #[])∧w'.ownsRow base 9 1 (.slice (some ⟨g,0,none⟩) n cap) n ((d.mergeSort fun x y=>decide (x≤y)).map sV)∧w'.ownsMap Tryz.prog 9 (unitElem (H:=Unit)) M n D∧Below base W w'∧wr.heap.size≤w'.heap.size∧g<wr.heap.size∧M<wr.heap.size:=by
 subst hn;rcases hO.2 with⟨ji,_⟩|⟨g',jm,cur,e0,hb,s5,h1,h2,h3,h4⟩
 ·cases ji
 ·injection e0 with e1 e2 e3
  injection e1 with e1;injection e1 with e1;subst e1 e3;have hg:g<wr.heap.size:=(Array.getElem?_eq_some_iff.1 s5).1;have Co:=hM.lt;refine(Tryz.slices_Sort_string g 0 cap d wr (holds_of_block s5 (by simpa using h4)) hg (by omega)).mono ?_
  rintro e w' ⟨rfl,nn,os,rfl⟩;refine⟨rfl,ownsRow_sorted (by simp) hb s5 h1 h2 h3,hM.kept (grownBy_sorted _) ?_,hB.grown (grownBy_sorted _) (by have:=hB.size;omega) (fun j hj=>by cases hj;exact hb),(grownBy_sorted (w:=wr) (g:=g) (n:=nn) (os:=os) _).size,hg,Co⟩
  intro e;exact Ke hM hO (by rw[e];rfl)
theorem PD(g n cap base:Nat)(d:List Tx)(W:World)(hb:base≤W.heap.size)(hv:W.ownsRow base 9 1 (.slice (some ⟨g,0,none⟩) n cap) n (d.map sV))(A':n=d.length)(hn:n≤2000000000)(hx:∀x∈d,x.length≤2000000001):
  Calls Tryz.prog 234 #[.slice (some ⟨g,0,none⟩) n cap] W (WK base W (Gw d)):=by
 have pc:=@run_makeMap Tryz.prog;obtain⟨R,hR⟩:∃R,Gw d=R:=⟨_,rfl⟩;rw[hR];obtain⟨i0,hi,eK,dD,bg⟩:=info_parts NL;obtain⟨HB,HV,HR,HX,HN⟩:=hZ5 hb hv hR hx A';clear hb hv hR hx A';go_enter Tryz.func234,Tryz.ntmps234;go_wp2
 go_loopg [14] n (fun gg Cp wr=>∃k:Nat,Cp=.int .i64 (k:Int)∧k+gg=n∧Zf wr W.heap.size k (fun x=>(d.take k).contains x)∧wr.ownsRow base 9 1 (.slice (some ⟨g,0,none⟩) n cap) n (d.map sV)∧Below base W wr∧W.heap.size<wr.heap.size)
 case atStart=>exact⟨0,rfl,by omega,Zf.made _,HV.out.alloc _,(Below.refl _ _).alloc HB.out _,by simp⟩
 case round=>
  obtain⟨k,rfl,hk,hM,hO,AA,bH⟩:=hrel;obtain⟨D,aE,nb⟩:=hM;obtain⟨HO,lF,lY,pd,eA⟩:=hZ5 hO AA aE nb bH;clear aE nb hO AA bH
  cases gk with
  |succ gg=>
   have oe:k<d.length:=by rw[←HN.out];omega
   have c1:=PC HO.out k oe;obtain⟨x,eL⟩:∃x,d[k]=x:=⟨_,rfl⟩;have cQ:=qct x (by rw[←eL];exact HX.out _ (List.getElem_mem oe))
   have fA:∀y,(d.take (k+1)).contains y=(y==x||(d.take k).contains y):=fun y=>by
    rw[Bool.eq_iff_iff,List.contains_iff_mem,KR oe,eL,Bool.or_eq_true,List.contains_iff_mem,beq_iff_eq,Or.comm]
   rw[eL]at c1;obtain⟨s,nB⟩:∃s,(⟨x.toArray⟩:ByteArray)=s:=⟨_,rfl⟩;unfold sV at c1 cQ;rw[nB]at c1 cQ;have l0:(0:Int)≤(k:Int):=by omega
   have l1:(k:Int)<(n:Int):=by omega
   obtain⟨k1,bq⟩:∃k1,k+1=k1:=⟨_,rfl⟩;have wk:IntKind.i64.wrap ((k:Int)+1)=(k1:Int):=by rw[show(k:Int)+1=(k1:Int) by omega];exact d7 (by omega)
   obtain⟨j2,cC⟩:=hZ2 fA bq;clear nB eL fA oe bq;go_wp2_with (first
    |(at_mapUpdate;refine wpList_mapUpdate_own _ rfl _ _ _ 293 rfl 9 161 Zg Zh (unitElem (H:=Unit)) W.heap.size k _ rfl lY.out (by unfold maxLen;omega) _ _ _ rfl rfl cQ _ [] unitElem_mk ?_;intro w1 tL jo))
   go_roundg gg
   case measure=>exact Nat.lt_succ_self _
   case rel=>
    refine⟨k1,rfl,by have:=cC.out;omega,⟨_,by rw[←cC.out];exact tL,fun y=>?_⟩,HO.out.kept jo (.inr (Ke lY.out HO.out)),lF.out.grown jo (by have:=eA.out;have:=HB.out;omega) (fun j hj=>by cases hj;exact HB.out),Nat.lt_of_lt_of_le eA.out jo.size⟩
    rw[Zi lY.out.isMap,pd.out,←cC.out];exact(j2.out y).symm
  |zero=>
   have wW:k=n:=by omega
   subst wW;have s6:=UF W wr base g k cap W.heap.size d D HN.out hn lF.out HB.out HO.out lY.out;have pf:=qid s6;have dr:=UE d;have jq:=qid dr;have hlen:(d.mergeSort fun x y=>decide (x≤y)).length=k:=by rw[List.length_mergeSort,HN.out]
   have fW:=qid hlen
   generalize (d.mergeSort fun x y=>decide (x≤y))=ss at*
   clear s6 dr hlen;have l1:¬((k:Int)<(k:Int)):=by omega
   go_wp2_with (go_at_call 62;(with_reducible refine pf.out.mono ?_);rintro e w2 ⟨rfl,AB,AD,lG,bC,gn,i'⟩;obtain⟨dB,iQ,aL⟩:=hZ3 AB AD lG;have bx:=qid (And.intro bC (And.intro gn i'));clear AB AD lG bC gn i');have og:∀x,Maps.has D (Lit.string x)=d.contains x:=fun x=>by have:=pd.out x;rwa[HN.out,List.take_length]at this
   have tM:=qid og;clear og pd l1
   go_loopg [6,26] k (fun gg u6 u26 wx=>∃(i:Nat) (T:List Tx) (E:DataW Unit),u26=.int .i64 (i:Int)∧i+gg=k∧KQ ss T i∧T.length≤i∧wx.ownsMap Tryz.prog 9 (unitElem (H:=Unit)) W.heap.size k E∧(∀x,Maps.has E (Lit.string x)=(d.contains x&& !(ss.take i).contains x))∧
    wx.ownsRow base 9 1 (.slice (some ⟨g,0,none⟩) k cap) k (ss.map sV)∧wx.ownsRow w2.heap.size 9 1 u6 T.length (T.map sV)∧Below base W wx∧w2.heap.size≤wx.heap.size)
   case atStart=>exact⟨0,[],D,rfl,by omega,KQ.start ss,Nat.zero_le _,iQ.out,fun x=>by rw[tM.out,List.take_zero];simp,dB.out,World.ownsRow_nil _ _ _ _,aL.out,Nat.le_refl _⟩
   case round=>
    obtain⟨i,T,E,rfl,fV,hT,Fj,hE,AE,AF,tN,AG,AH⟩:=hrel;obtain⟨HT,HE,xi,xj,lZ,jr⟩:=hZ6 hT hE AE AF AG AH;clear hT hE AE AF AG AH HO lF lY pf dB iQ aL eA
    cases gk with
    |zero=>
     have eO:i=k:=by omega
     subst eO;have dC:T=R:=by
      have:=HT.out;rw[←fW.out]at this;rw[←HR.out];exact this.done jq.out.2
     have l1:¬((i:Int)<(i:Int)):=by omega
     have tO:=qid tN;clear tN;go_wp2;go_ret;refine⟨_,rfl,?_,lZ.out⟩;rw[←dC];exact OC tO.out (by have:=bx.out;have:=HB.out;omega)
    |succ gg=>
     have hid:i<ss.length:=by rw[fW.out];omega
     have c1:=PC xj.out i hid;obtain⟨x,eL⟩:∃x,ss[i]=x:=⟨_,rfl⟩;have xk:x∈d:=jq.out.2.mem_iff.1 (by rw[←eL];exact List.getElem_mem hid)
     have cQ:=qct x (HX.out _ xk);have wX:Maps.has E (Lit.string x)= !(ss.take i).contains x:=by
      rw[xi.out];have:d.contains x=true:=List.contains_iff_mem.2 xk;rw[this,Bool.true_and]
     have hold:x∈ss.take i→KQ ss T (i+1):=fun h=>HT.out.old hid (by rw[eL];exact h)
     have hnew:x∉ss.take i→KQ ss (T++[x]) (i+1):=fun h=>by have:=HT.out.new jq.out.1 hid (by rw[eL];exact h);rwa[eL]at this
     have fA:∀y,(ss.take (i+1)).contains y=((ss.take i).contains y||y==x):=fun y=>by
      rw[Bool.eq_iff_iff,List.contains_iff_mem,KR hid,eL,Bool.or_eq_true,List.contains_iff_mem,beq_iff_eq]
     rw[eL]at c1;obtain⟨s,nB⟩:∃s,(⟨x.toArray⟩:ByteArray)=s:=⟨_,rfl⟩;have AI:sV x=.string s:=by unfold sV;rw[nB]
     unfold sV at c1 cQ;rw[nB]at c1 cQ;have l0:(0:Int)≤(i:Int):=by omega
     have l1:(i:Int)<(k:Int):=by omega
     obtain⟨i1,aN⟩:∃i1,i+1=i1:=⟨_,rfl⟩;have wk:IntKind.i64.wrap ((i:Int)+1)=(i1:Int):=by rw[show(i:Int)+1=(i1:Int) by omega];exact d7 (by omega)
     rw[aN]at hold hnew fA;obtain⟨j2,aQ,Cq,tO⟩:=hZ4 fA aN AI tN;obtain⟨a3,c3,rfl⟩:∃a3 c3,u6=.slice a3 T.length c3:=by
      rcases tN.2 with⟨rfl,hz⟩|⟨g',jm,cur,rfl,_⟩
      ·exact⟨none,0,by rw[hz]⟩
      ·exact⟨_,_,rfl⟩
     clear nB eL fA hid aN AI xk tN
     by_cases hm:x∈ss.take i
     ·have hb:Maps.has E (Lit.string x)=false:=by rw[wX,List.contains_iff_mem.2 hm];rfl
      have pg:=qid (hold hm);clear hold hnew wX;have HM:=qid hm;clear hm;go_wp2_with (at_lookup;refine wpList_lookup_own_unit _ rfl _ _ 293 rfl 9 161 Zg Zh (qa9 _) W.heap.size k _ rfl HE.out _ _ rfl cQ ?_;rw[hb]);go_roundg gg
      case measure=>exact Nat.lt_succ_self _
      case rel=>
       refine⟨i1,T,E,rfl,by have:=aQ.out;omega,pg.out,by have:=aQ.out;omega,HE.out.alloc _,fun y=>?_,xj.out.alloc _,tO.out.alloc _,lZ.out.alloc (by have:=lZ.out.size;have:=HB.out;omega) _,by simp;have:=jr.out;omega⟩
       rw[xi.out,j2.out]
       by_cases hy:y=x
       ·subst hy;rw[List.contains_iff_mem.2 HM.out];simp
       ·have:(y==x)=false:=by rw[beq_eq_false_iff_ne];exact hy
        rw[this,Bool.or_false]
     ·have hb:Maps.has E (Lit.string x)=true:=by
       rw[wX];have:(ss.take i).contains x=false:=by
        cases h:(ss.take i).contains x with
        |false=>rfl
        |true=>exact absurd (List.contains_iff_mem.1 h) hm
       rw[this];rfl
      have pg:=qid (hnew hm);clear hold hnew wX hm;have Cr:=qid ((tO.out.alloc (.cells #[] 161)).alloc (.cells #[.string s] 9));have wY:=qid ((xj.out.alloc (.cells #[] 161)).alloc (.cells #[.string s] 9));have Cs:=qid ((HE.out.alloc (.cells #[] 161)).alloc (.cells #[.string s] 9));go_wp2_with (first
       |(at_lookup;refine wpList_lookup_own_unit _ rfl _ _ 293 rfl 9 161 Zg Zh (qa9 _) W.heap.size k _ rfl HE.out _ _ rfl cQ ?_;rw[hb])
       |(at_builtin;refine wpList_append_lies _ rfl _ _ 50 rfl w2.heap.size 9 i0 (.string ByteArray.empty) 1 16 IV hi eK dD bg rfl (by decide) _ T.length (T.map sV) rfl Cr.out ⟨wr.heap.size+1,0,none⟩ 1 1 [.string s] rfl rfl ?c1 ?c2 (by decide) ?c3 ?c4 ?c5 _ rfl ?_))
      case c1=>
       intro j u hj
       match j,hj with
       |0,hj=>simp at hj;subst hj;simp[Addr.add]
      case c2=>intro u hu;simp at hu;subst hu;rfl
      case c3=>unfold maxLen;omega
      case c4=>omega
      case c5=>have:=jr.out;simp;omega
      intro g3 Ct w3 oh gD Cu Cv;have au:∀q,(Value.slice a3 T.length c3).ownBlock=some q→w2.heap.size≤q:=fun q hq=>(World.ownsRow.lt tO.out q hq).1
      have AJ:=Cs.out.kept gD (fun e=>by have:=au _ e.symm;have:=bx.out;omega)
      have kL:=wY.out.kept gD (.inr fun e=>by
       have:=au g (by rw[←e];rfl)
       have:=bx.out;omega)
      have cq:=((lZ.out.alloc (by have:=lZ.out.size;have:=HB.out;omega) (.cells #[] 161)).alloc (by simp;have:=lZ.out.size;have:=HB.out;omega) (.cells #[.string s] 9)).grown gD (by simp;have:=lZ.out.size;have:=HB.out;omega) (fun q hq=>by have:=au q hq;have:=bx.out;have:=HB.out;omega)
      have ki:=gD.size;simp only[World.size_alloc]at ki;obtain⟨s7,dt,aO,oj⟩:=hZ4 AJ kL cq oh;clear AJ kL cq oh au gD;go_wp2_with (at_delete;refine wpList_delete_own _ rfl _ _ 293 9 rfl 161 Zg Zh _ W.heap.size k E rfl s7.out _ _ rfl cQ ?_;intro w4 tP ph);go_roundg gg
      case measure=>exact Nat.lt_succ_self _
      case rel=>
       have eW:=ph.grown;have s8:=eW.size;refine⟨i1,T++[x],E.del (Lit.string x),rfl,by have:=aQ.out;omega,pg.out,by have:=aQ.out;rw[List.length_append,List.length_singleton];omega,tP,fun y=>?_,dt.out.kept eW (.inr (Ke s7.out dt.out)),?_,aO.out.grown eW (by have:=jr.out;have:=bx.out;have:=HB.out;omega) (fun q hq=>by cases hq;exact HB.out),by have:=jr.out;omega⟩
       ·rw[Zj,xi.out,j2.out,Bool.not_or]
        have:(!(y==x))=(y != x):=rfl;rw[this]
        cases(y != x)<;>cases d.contains y<;>cases(ss.take i).contains y<;>rfl
       ·rw[List.length_append,List.length_singleton,List.map_append,List.map_cons,List.map_nil,Cq.out]
        exact oj.out.kept eW (.inr (Ke s7.out oj.out))
theorem Rl(v:Value)(base:Nat)(d:List Tx)(W:World)(hb:base≤W.heap.size)(hv:W.ownsRow base 9 1 v d.length (d.map sV))(hn:d.length≤2000000000)(hx:∀x∈d,x.length≤2000000001):
  Calls Tryz.prog 234 #[v] W (WK base W (Gw d)):=by
 rcases hv.2 with⟨rfl,hz⟩|⟨g,cap,cur,rfl,_⟩
 ·obtain rfl:=List.eq_nil_of_length_eq_zero hz
  exact PB none 0 base W hb
 ·exact PD g d.length cap base d W hb hv rfl hn hx
theorem WL:∀(r d:List (Tx×Nat)),JR (fun _ _=>true) d r=d++r:=by
 intro r
 induction r with
 |nil=>intro d;simp[JR]
 |cons x r ih=>intro d;rw[JR,if_pos rfl,ih];simp
theorem S4{l:List Tok}(hz:∀t∈l,t.2.1.size≤1000000000)(i:Nat):(Hz l i).length≤1000000000:=by
 unfold Hz
 by_cases hi:i<l.length
 ·rw[List.getElem?_eq_getElem hi]
  have:=hz _ (List.getElem_mem hi);show l[i].2.1.toList.length≤_;rw[Lib.toList_data];exact this
 ·rw[List.getElem?_eq_none (by omega)];exact Nat.zero_le _
theorem UG{l:List Tok}(hz:∀t∈l,t.2.1.size≤1000000000)(i:Nat):(rt l i).length≤2000000001:=by
 have h1:=S4 hz i;have h2:=S4 hz (i+2);unfold rt
 split
 ·rw[List.length_append,List.length_append,List.length_singleton];omega
 ·omega
theorem Mq{l:List Tok}(hz:∀t∈l,t.2.1.size≤1000000000):∀(n i:Nat),l.length-i≤n→∀x∈Hc l i,x.1.length≤2000000001:=by
 intro n
 induction n using Nat.strongRecOn with
 |ind n ih=>
  intro i hn x hx;rw[Jt]at hx
  split at hx
  ·cases hx
  ·rename_i AK
   have h1:=IQ AK;have h2:=Kq l i;have h3:=Js l (fd l i+bY l (fd l i))
   generalize Fn l (fd l i+bY l (fd l i))=b at h3 hx
   rcases List.mem_cons.1 hx with e|e
   ·rw[e];exact UG hz _
   ·split at e
    ·exact ih (n-1) (by omega) (b+1) (by omega) x e
    ·cases e
theorem JS(l:List Tok)(i:Nat):(ci l i).length≤l.length:=by
 unfold ci
 split
 ·rw[List.length_map];exact Ov l _ _ (by omega)
 ·exact Nat.zero_le _
theorem KS{l:List Tok}(hz:∀t∈l,t.2.1.size≤1000000000)(i:Nat):∀x∈ci l i,x.length≤2000000001:=by
 unfold ci
 split
 ·intro x hx
  obtain⟨y,hy,rfl⟩:=List.mem_map.1 hx;exact Mq hz _ _ (Nat.le_refl _) y hy
 ·intro x hx;cases hx
theorem Mr{f:Nat→List Tx}{m:Nat}(h:∀i,(f i).length≤m):∀n,(H6 f n).length≤n*m:=by
 intro n
 induction n with
 |zero=>exact Nat.zero_le _
 |succ n ih=>rw[H6,List.length_append,Nat.succ_mul];have:=h n;omega
theorem NM{f:Nat→List Tx}(h:∀i,∀x∈f i,x.length≤2000000001)(n:Nat):∀x∈H6 f n,x.length≤2000000001:=by
 intro x hx;obtain⟨i,_,h2⟩:=(Y3 f n x).1 hx;exact h i x h2
def S5(w:World)(B:Nat)(pre:List Tx)(d:List (Tx×Nat))(W:World):Prop:=NmJ w B (pre++d.map (·.1)) W
theorem OD(w:World)(v:Value)(l:List Tok)(B:Nat)(pre:List Tx)(z:Nat)(h:TR w v l)(hz:pre.length+z≤2000000000):
  WG 231 #[.pointer (some ⟨B,0,none⟩)] v l z (S5 w B pre) (fun _ _=>true) where
 enter:=fun args w=>by show Sem.run Tryz.prog (callFunc 231 args) w=_;go_simp
 reads:=fun d W hj=>h.below hj.bel
 keeps:=fun d W W' hj hb=>NmJ.step hj hb
 tells:=fun d s p W hj hd hs hp=>by
  refine(UC w B _ s s.toList (p:Int) W hj (by rw[List.length_append,List.length_map];omega) rfl).mono fun e W' hh=>⟨hh.1,?_⟩
  unfold S5;rw[List.map_append,List.map_cons,List.map_nil,←List.append_assoc];exact hh.2
def qbw(w:World)(R:List Tx)(e:Ending)(w':World):Prop:=∃v,e=.returned v∧w'.ownsRow w.heap.size 9 1 v R.length (R.map sV)∧Below w.heap.size w w'
theorem UH(v:Value)(l:List Tok)(w:World)(h:TR w v l)(hl:l.length≤40000)(hz:∀t∈l,t.2.1.size≤1000000000):
  Calls Tryz.prog 205 #[v] w (qbw w (JK l)):=by
 obtain⟨a,cap,rfl⟩:=h.form;obtain⟨i0,hi,eK,dD,bg⟩:=info_parts NL;obtain⟨HH,HZ⟩:=hZ2 h hz;have AL:NmJ w w.heap.size (H6 (ci l) 0) (w.alloc (.cells #[.slice none 0 0] 50)):=
  ⟨gT _ _,Nat.le_refl _,(.slice none 0 0),by show(w.heap.push _)[w.heap.size]? =_;simp,World.ownsRow_nil _ _ _ _⟩
 have xl:=qid AL;clear h hz AL;go_enter Tryz.func205,Tryz.ntmps205;go_wp2
 go_loopg [9] l.length (fun g u9 wx=>∃k:Nat,u9=.int .i64 (k:Int)∧k+g=l.length∧NmJ w w.heap.size (H6 (ci l) k) wx)
 case atStart=>exact⟨0,rfl,by omega,xl.out⟩
 case round=>
  obtain⟨k,rfl,hk,hJ⟩:=hrel;have HJ:=qid hJ;clear hJ xl
  cases gk with
  |zero=>
   have gY:k=l.length:=by omega
   rw[gY]at HJ;obtain⟨a2,c2,ax,fU⟩:=HJ.out.form;have hlen:(H6 (ci l) l.length).length≤2000000000:=Nat.le_trans (Mr (JS l) l.length) (Nat.le_trans (Nat.mul_le_mul hl hl) (by decide))
   have du:=Rl _ w.heap.size _ wr HJ.out.bel.size fU hlen (NM (KS HZ.out) _);have c0:=cell_of_one ax;have tQ:=qid du;have l1:¬((k:Int)<(l.length:Int)):=by omega
   generalize (H6 (ci l) l.length).length=m at*
   clear ax fU hlen du gY;go_wp2_with (go_at_call 234;(with_reducible refine tQ.out.mono ?_);rintro e w2 ⟨v9,rfl,h9,kj⟩);go_ret;exact⟨v9,rfl,h9,HJ.out.bel.trans kj⟩
  |succ g=>
   have aD:k<l.length:=by omega
   have fq:=OB (.slice a l.length cap) l k wr (HH.out.below HJ.out.bel) (by omega) (by omega)
   obtain⟨b,hb⟩:∃b,Iq l k=b:=⟨_,rfl⟩;have al:ci l k=if b=true then(Hc l (k+1)).map (·.1)else []:=by rw[←hb];rfl
   have xm:H6 (ci l) (k+1)=H6 (ci l) k++ci l k:=rfl;rw[hb]at fq;have lH:=qid fq;obtain⟨k1,bq⟩:∃k1,k+1=k1:=⟨_,rfl⟩;have wk:IntKind.i64.wrap ((k:Int)+1)=(k1:Int):=by rw[show(k:Int)+1=(k1:Int) by omega];exact d7 (by omega)
   have l0:(0:Int)≤(k:Int):=by omega
   have l1:(k:Int)<(l.length:Int):=by omega
   have nC:(H6 (ci l) k).length+(l.length-k1)≤2000000000:=by
    have h1:=Mr (JS l) k;have h2:k*l.length≤40000*40000:=Nat.mul_le_mul (by omega) hl
    omega
   rw[bq]at al xm;obtain⟨wZ,s9,cC⟩:=hZ3 xm al bq;have AM:∀W,NmJ w w.heap.size (H6 (ci l) k) W→Calls Tryz.prog 233 #[.slice a l.length cap,.int .i64 (k1:Int),.func (.func 231) #[] #[.pointer (some ⟨w.heap.size,0,none⟩)]] W fun e w'=>e=.returned (.tuple #[])∧NmJ w w.heap.size (H6 (ci l) k++(Hc l k1).map (·.1)) w':=fun W hW=>by
    have:=Nv 231 #[.pointer (some ⟨w.heap.size,0,none⟩)] (.slice a l.length cap) l k1 (l.length-k1) W (S5 w w.heap.size (H6 (ci l) k)) (fun _ _=>true) (OD w _ l w.heap.size _ _ HH.out nC) (by omega) (by omega) HZ.out [] (by unfold S5;rw[List.map_nil,List.append_nil];exact hW) (by simp)
    rw[WL,List.nil_append]at this;exact this
   have Cw:=qid AM;clear fq hb al xm bq nC AM
   cases b
   ·go_wp2_with (go_at_call 232;(with_reducible refine lH.out.mono ?_);rintro e w2 ⟨rfl,aA⟩)
    go_roundg g
    case measure=>exact Nat.lt_succ_self _
    case rel=>
     refine⟨k1,rfl,by have:=cC.out;omega,?_⟩
     rw[wZ.out,s9.out,if_neg (by decide),List.append_nil]
     exact HJ.out.step aA
   ·go_wp2_with (first
     |(go_at_call 232;(with_reducible refine lH.out.mono ?_);rintro e w2 ⟨rfl,aA⟩;have Cx:=qid (HJ.out.step aA);clear aA)
     |(go_at_call 233;(with_reducible refine(Cw.out _ Cx.out).mono ?_);rintro e w3 ⟨rfl,gz⟩;have jl:=qid gz;clear gz))
    go_roundg g
    case measure=>exact Nat.lt_succ_self _
    case rel=>
     refine⟨k1,rfl,by have:=cC.out;omega,?_⟩
     rw[wZ.out,s9.out];simp only[if_true];exact jl.out
end Go.Proofs.YtpgddamhdfmdjaaGreatDoor
