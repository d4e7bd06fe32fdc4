/- Lya Lza Lzb Lzc Lzd Lze Lzf -/
import Derived.Test.YtpgddamhdfmdjaaGreatDoorG6
import Derived.Deep.LoopGhost
import Derived.Test.YtpgddamhdfmdjaaGreatDoorG1
set_option linter.unusedSimpArgs false
set_option linter.unusedVariables false
set_option maxRecDepth 100000
set_option maxHeartbeats 16000000
namespace Go.Proofs.YtpgddamhdfmdjaaGreatDoor
open Go.ChangeShapes Go.WideShapes Go.ChangeAt Go.RowKit
abbrev bb(l:Tx):ByteArray:=⟨l.toArray⟩
theorem YJ(a b:Tx):bb a++bb b=bb (a++b):=by apply ByteArray.ext;simp
theorem I3(a:Tx):(bb a).size=a.length:=by show a.toArray.size=_;simp
theorem T7(s:ByteArray)(k:Nat)(hk:k<s.size):s.extract k (k+1)=bb [s.data.toList[k]'hk]:=by
 apply ByteArray.ext
 apply Array.ext'
 rw[ByteArray.data_extract,Array.toList_extract];have h2:k<s.data.toList.length:=hk;rw[List.extract_eq_take_drop,show k+1-k=1 by omega,List.drop_eq_getElem_cons h2]
 simp
theorem Om(s p:ByteArray)(a:Nat)(h:a+p.size≤s.size):((s.extract a (a+p.size)).toList==p.toList)=p.data.toList.isPrefixOf (s.data.toList.drop a):=by
 rw[ByteArray.toList_eq,ByteArray.toList_eq];have e:(s.extract a (a+p.size)).data.toList=(s.data.toList.drop a).take p.size:=by
  rw[ByteArray.data_extract,Array.toList_extract,List.extract_eq_take_drop]
  congr 1
  omega
 rw[e];have hp:p.size=p.data.toList.length:=rfl;rw[hp];rw[Bool.eq_iff_iff,beq_iff_eq,List.isPrefixOf_iff_prefix,List.prefix_iff_eq_take];exact⟨fun h=>h.symm,fun h=>h.symm⟩
theorem Lj(s p:ByteArray)(a:Nat)(h:¬a+p.size≤s.size)(ha:a≤s.size):p.data.toList.isPrefixOf (s.data.toList.drop a)=false:=by
 rw[Bool.eq_false_iff];intro hh;have:=(List.isPrefixOf_iff_prefix.1 hh).length_le;rw[List.length_drop]at this;have hp:p.size=p.data.toList.length:=rfl;have hs:s.size=s.data.toList.length:=rfl;omega
theorem KK(s p:ByteArray)(a:Nat)(w:World)(hs:s.size≤1048576)(hp:p.size≤1048576)(ha:a≤s.size):
  Calls Tryz.prog 142 #[.string s,.int .i64 (a:Int),.string p] w fun e w'=>e=.returned (.bool (p.data.toList.isPrefixOf (s.data.toList.drop a)))∧w'=w:=by
 have l0:(0:Int)≤(a:Int):=by omega
 obtain⟨b,hb⟩:∃b,a+p.size=b:=⟨_,rfl⟩;have cw:IntKind.i64.wrap ((a:Int)+(p.size:Int))=(b:Int):=by rw[show(a:Int)+(p.size:Int)=(b:Int) by omega];exact IntWalk.i64_in _ (by omega)
 by_cases h:a+p.size≤s.size
 ·have e:=Om s p a h
  rw[hb]at e;rw[←e];have l1:(a:Int)≤(b:Int):=by omega
  have l2:(b:Int)≤(s.size:Int):=by omega
  have HB:=qid hb;clear hb e h;go_enter Tryz.func142,Tryz.ntmps142;go_wp2;go_ret;exact⟨rfl,rfl⟩
 ·rw[Lj s p a h ha]
  have l2:¬((b:Int)≤(s.size:Int)):=by omega
  have HB:=qid hb;clear hb h;go_enter Tryz.func142,Tryz.ntmps142;go_wp2;go_ret;exact⟨rfl,rfl⟩
theorem f8(s:ByteArray)(a:Nat)(h:a<s.size):s.data.toList.drop a=s[a]::s.data.toList.drop (a+1):=List.drop_eq_getElem_cons (by exact h)
theorem ii(p:UInt8→Bool)(c:UInt8)(r:Tx):aT p (c::r)=if p c=true then aT p r+1 else 0:=by
 unfold aT;rw[List.takeWhile_cons]
 split<;>simp_all
def Ku(k:Int):UInt8→Bool:=if k=1 then i8 else if k=4 then He else a9
theorem QS(s:ByteArray)(a:Nat)(k:Int)(hk:k=1∨k=4∨k=0)(w:World)(hs:s.size≤1048576)(ha:a≤s.size):
  Calls Tryz.prog 145 #[.string s,.int .i64 (a:Int),.int .i64 k] w fun e w'=>e=.returned (.int .i64 ((a+aT (Ku k) (s.data.toList.drop a):Nat):Int))∧w'=w:=by
 obtain⟨R,hR⟩:∃R,a+aT (Ku k) (s.data.toList.drop a)=R:=⟨_,rfl⟩;rw[hR];obtain⟨HR,HA⟩:=hZ2 hR ha;clear hR;go_enter Tryz.func145,Tryz.ntmps145;go_wp2
 go_loop [1] (fun u1=>∃i:Nat,i≤s.size∧u1=.int .i64 i∧R=i+aT (Ku k) (s.data.toList.drop i)) (fun u1=>s.size-(intOf u1).toNat)
 case atStart=>exact⟨a,HA.out,rfl,HR.out.symm⟩
 case round=>
  obtain⟨i,hi,rfl,hv⟩:=hrel;have HV:=qid hv;clear hv HR HA ha
  by_cases aD:i<s.size
  ·have l0:(0:Int)≤(i:Int):=by omega
   have l1:(i:Int)<(s.size:Int):=by omega
   have hd:=f8 s i aD;have hv:=HV.out;rw[hd,ii]at hv;clear HV hd;obtain⟨c,hc⟩:∃c,s[i]=c:=⟨_,rfl⟩;have jS:=fun w=>K8 (c.toNat:Int) w
   have ml:=fun w=>MQ (c.toNat:Int) w
   rw[hc]at hv;have key:Ku k c=(Hh (c.toNat:Int)||((k==1)&&(Hu (c.toNat:Int)||((c.toNat:Int)==36)))||((k==4)&&((c.toNat:Int)==46))):=by
    rcases hk with rfl|rfl|rfl
    ·show JY (c.toNat:Int)=_
     unfold JY
     cases Hu (c.toNat:Int)<;>cases Hh (c.toNat:Int)<;>simp
    ·show MP (c.toNat:Int)=_
     unfold MP
     cases Hh (c.toNat:Int)<;>simp
    ·show Hh (c.toNat:Int)=_
     cases Hh (c.toNat:Int)<;>simp
   obtain⟨bI,bM,HV⟩:=hZ3 jS ml hv;obtain⟨z,hz⟩:∃z:Int,(c.toNat:Int)=z:=⟨_,rfl⟩;have jh:((s[i]'aD).toNat:Int)=z:=by rw[hc,hz]
   simp only[hz]at bI bM key;clear jS ml hv;have ib:=qid key;clear key;have Gg:=qid jh
   generalize iH:Hh z=bd at*
   generalize cr:Hu z=bl at*
   obtain⟨fy,lF⟩:=hZ2 iH cr;clear iH cr;rcases hk with rfl|rfl|rfl
   ·cases bd with
    |true=>
     have bA:Ku 1 c=true:=by rw[ib.out];simp
     have ax:=HV.out;rw[bA]at ax;rw[if_pos rfl]at ax;have cO:=qid ax;clear bA ax;go_wp2_with (first
      |(go_at_call 147;(with_reducible refine(bM.out _).mono ?_);rintro e w1 ⟨rfl,aJ⟩;obtain rfl:=aJ.symm)
      |(go_at_call 144;(with_reducible refine(bI.out _).mono ?_);rintro e w1 ⟨rfl,aJ⟩;obtain rfl:=aJ.symm))
     go_round
     case rel=>exact⟨i+1,by omega,by go_num,by rw[cO.out];omega⟩
     case measure=>simp[intOf];omega
    |false=>
     cases bl with
     |true=>
      have bA:Ku 1 c=true:=by rw[ib.out];simp
      have ax:=HV.out;rw[bA]at ax;rw[if_pos rfl]at ax;have cO:=qid ax;clear bA ax;go_wp2_with (first
      |(go_at_call 147;(with_reducible refine(bM.out _).mono ?_);rintro e w1 ⟨rfl,aJ⟩;obtain rfl:=aJ.symm)
      |(go_at_call 144;(with_reducible refine(bI.out _).mono ?_);rintro e w1 ⟨rfl,aJ⟩;obtain rfl:=aJ.symm))
      go_round
      case rel=>exact⟨i+1,by omega,by go_num,by rw[cO.out];omega⟩
      case measure=>simp[intOf];omega
     |false=>
      by_cases cA:z=36
      ·subst cA
       have bA:Ku 1 c=true:=by rw[ib.out];simp
       have ax:=HV.out;rw[bA]at ax;rw[if_pos rfl]at ax;have cO:=qid ax;clear bA ax;go_wp2_with (first
      |(go_at_call 147;(with_reducible refine(bM.out _).mono ?_);rintro e w1 ⟨rfl,aJ⟩;obtain rfl:=aJ.symm)
      |(go_at_call 144;(with_reducible refine(bI.out _).mono ?_);rintro e w1 ⟨rfl,aJ⟩;obtain rfl:=aJ.symm))
       go_round
       case rel=>exact⟨i+1,by omega,by go_num,by rw[cO.out];omega⟩
       case measure=>simp[intOf];omega
      ·have wP:(z==(36:Int))=false:=by rw[beq_eq_false_iff_ne];exact cA
       clear cA;have bA:Ku 1 c=false:=by rw[ib.out];simp[wP]
       have ax:=HV.out;rw[bA]at ax;rw[if_neg (by decide)]at ax
       have cO:=qid ax;clear bA ax;go_wp2_with (first
      |(go_at_call 147;(with_reducible refine(bM.out _).mono ?_);rintro e w1 ⟨rfl,aJ⟩;obtain rfl:=aJ.symm)
      |(go_at_call 144;(with_reducible refine(bI.out _).mono ?_);rintro e w1 ⟨rfl,aJ⟩;obtain rfl:=aJ.symm))
       go_ret;exact⟨by rw[cO.out];rfl,rfl⟩
   ·cases bd with
    |true=>
     have bA:Ku 4 c=true:=by rw[ib.out];simp
     have ax:=HV.out;rw[bA]at ax;rw[if_pos rfl]at ax;have cO:=qid ax;clear bA ax;go_wp2_with (first
      |(go_at_call 147;(with_reducible refine(bM.out _).mono ?_);rintro e w1 ⟨rfl,aJ⟩;obtain rfl:=aJ.symm)
      |(go_at_call 144;(with_reducible refine(bI.out _).mono ?_);rintro e w1 ⟨rfl,aJ⟩;obtain rfl:=aJ.symm))
     go_round
     case rel=>exact⟨i+1,by omega,by go_num,by rw[cO.out];omega⟩
     case measure=>simp[intOf];omega
    |false=>
     by_cases zm:z=46
     ·subst zm
      have bA:Ku 4 c=true:=by rw[ib.out];simp
      have ax:=HV.out;rw[bA]at ax;rw[if_pos rfl]at ax;have cO:=qid ax;clear bA ax;go_wp2_with (first
      |(go_at_call 147;(with_reducible refine(bM.out _).mono ?_);rintro e w1 ⟨rfl,aJ⟩;obtain rfl:=aJ.symm)
      |(go_at_call 144;(with_reducible refine(bI.out _).mono ?_);rintro e w1 ⟨rfl,aJ⟩;obtain rfl:=aJ.symm))
      go_round
      case rel=>exact⟨i+1,by omega,by go_num,by rw[cO.out];omega⟩
      case measure=>simp[intOf];omega
     ·have FK:(z==(46:Int))=false:=by rw[beq_eq_false_iff_ne];exact zm
      clear zm;have bA:Ku 4 c=false:=by rw[ib.out];simp[FK]
      have ax:=HV.out;rw[bA]at ax;rw[if_neg (by decide)]at ax
      have cO:=qid ax;clear bA ax;go_wp2_with (first
      |(go_at_call 147;(with_reducible refine(bM.out _).mono ?_);rintro e w1 ⟨rfl,aJ⟩;obtain rfl:=aJ.symm)
      |(go_at_call 144;(with_reducible refine(bI.out _).mono ?_);rintro e w1 ⟨rfl,aJ⟩;obtain rfl:=aJ.symm))
      go_ret;exact⟨by rw[cO.out];rfl,rfl⟩
   ·cases bd with
    |true=>
     have bA:Ku 0 c=true:=by rw[ib.out];simp
     have ax:=HV.out;rw[bA]at ax;rw[if_pos rfl]at ax;have cO:=qid ax;clear bA ax;go_wp2_with (first
      |(go_at_call 147;(with_reducible refine(bM.out _).mono ?_);rintro e w1 ⟨rfl,aJ⟩;obtain rfl:=aJ.symm)
      |(go_at_call 144;(with_reducible refine(bI.out _).mono ?_);rintro e w1 ⟨rfl,aJ⟩;obtain rfl:=aJ.symm))
     go_round
     case rel=>exact⟨i+1,by omega,by go_num,by rw[cO.out];omega⟩
     case measure=>simp[intOf];omega
    |false=>
     have bA:Ku 0 c=false:=by rw[ib.out];simp
     have ax:=HV.out;rw[bA]at ax;rw[if_neg (by decide)]at ax
     have cO:=qid ax;clear bA ax;go_wp2_with (first
      |(go_at_call 147;(with_reducible refine(bM.out _).mono ?_);rintro e w1 ⟨rfl,aJ⟩;obtain rfl:=aJ.symm)
      |(go_at_call 144;(with_reducible refine(bI.out _).mono ?_);rintro e w1 ⟨rfl,aJ⟩;obtain rfl:=aJ.symm))
     go_ret;exact⟨by rw[cO.out];rfl,rfl⟩
  ·have l1:¬((i:Int)<(s.size:Int)):=by omega
   have hd:s.data.toList.drop i=[]:=List.drop_eq_nil_of_le (by have:s.size=s.data.toList.length:=rfl;omega)
   have hv:=HV.out;rw[hd]at hv;have cO:=qid hv;clear hv hd HV;go_wp2;go_ret;exact⟨by rw[cO.out];rfl,rfl⟩
theorem Ph(x y:UInt8)(l:Tx):([x,y].isPrefixOf l=true)↔l.take 2=[x,y]:=by
 rw[List.isPrefixOf_iff_prefix,List.prefix_iff_eq_take];exact⟨fun h=>h.symm,fun h=>h.symm⟩
theorem Md(x y:UInt8)(l:Tx):([x,y].isPrefixOf l=false)↔l.take 2≠[x,y]:=by
 rw[←Bool.not_eq_true,Ph]
theorem Sw(x y:UInt8)(s:ByteArray)(a:Nat)(h:(s.data.toList.drop a).take 2=[x,y]):a+2≤s.size:=by
 have:=congrArg List.length h;rw[List.length_take,List.length_drop,←Lib.size_eq]at this;simp only[List.length_cons,List.length_nil]at this;omega
theorem VZ(s:ByteArray)(d a:Nat)(h:(s.data.toList.drop a).take 2=[47,42]):(GE (d+1) (s.data.toList.drop a)).map (· +a)=(GE (d+2) (s.data.toList.drop (a+2))).map (· +(a+2)):=by
 have hl:=Sw _ _ s a h;obtain⟨c,hc⟩:=Id s.data.toList a (by rw[←Lib.size_eq];omega)
 rw[hc,GE,←hc,if_pos h,Kn _ _ _ (a+2) (by omega),List.drop_drop]
theorem V1(s:ByteArray)(d a:Nat)(h:(s.data.toList.drop a).take 2=[42,47]):(GE (d+1) (s.data.toList.drop a)).map (· +a)=(GE d (s.data.toList.drop (a+2))).map (· +(a+2)):=by
 have hl:=Sw _ _ s a h;obtain⟨c,hc⟩:=Id s.data.toList a (by rw[←Lib.size_eq];omega)
 rw[hc,GE,←hc,if_neg (by rw[h];decide),if_pos h,Kn _ _ _ (a+2) (by omega),List.drop_drop]
theorem qaL(s:ByteArray)(d a:Nat)(hl:a<s.size)(h1:(s.data.toList.drop a).take 2≠[47,42])(h2:(s.data.toList.drop a).take 2≠[42,47]):(GE (d+1) (s.data.toList.drop a)).map (· +a)=(GE (d+1) (s.data.toList.drop (a+1))).map (· +(a+1)):=by
 obtain⟨c,hc⟩:=Id s.data.toList a (by rw[←Lib.size_eq];omega)
 rw[hc,GE,←hc,if_neg h1,if_neg h2,Kn _ _ _ (a+1) (by omega)]
def Jl(s:ByteArray)(a:Nat):Option Nat:=(GE 1 (s.data.toList.drop (a+2))).map (· +(a+2))
theorem QT(s:ByteArray)(a0:Nat)(w:World)(hs:s.size≤1048000)(h0:(s.data.toList.drop a0).take 2=[47,42]):
  Calls Tryz.prog 143 #[.string s,.int .i64 (a0:Int)] w fun e w'=>e=.returned (.int .i64 (O9 (Jl s a0)))∧w'=w:=by
 have ah:=fun a p ha hp w=>KK s p a w (by omega) hp ha
 obtain⟨R,hR⟩:∃R,Jl s a0=R:=⟨_,rfl⟩;rw[hR];obtain⟨aY,HR,H0⟩:=hZ3 ah hR h0;have uM:=qid (Sw _ _ s a0 h0);clear ah hR h0;go_enter Tryz.func143,Tryz.ntmps143;go_wp2
 go_loop [1,5] (fun u1 u5=>∃a d:Nat,a≤s.size∧d≤a∧u1=.int .i64 a∧u5=.int .i64 d∧((d=0∧a=a0)∨(0<d∧R=(GE d (s.data.toList.drop a)).map (· +a)))) (fun u1 _=>s.size-(intOf u1).toNat)
 case atStart=>exact⟨a0,0,by have:=uM.out;omega,Nat.zero_le _,rfl,rfl,.inl ⟨rfl,rfl⟩⟩
 case round=>
  obtain⟨a,d,ha,rh,rfl,rfl,hv⟩:=hrel;have HV:=qid hv;clear hv
  by_cases aD:a<s.size
  ·have l1:(a:Int)<(s.size:Int):=by omega
   have dG:∀w,Calls Tryz.prog 142 #[.string s,.int .i64 (a:Int),.string ⟨#[47,42]⟩] w fun e w'=>e=.returned (.bool ([47,42].isPrefixOf (s.data.toList.drop a)))∧w'=w:=fun w=>aY.out a ⟨#[47,42]⟩ ha (by show 2≤_;omega) w
   have dH:∀w,Calls Tryz.prog 142 #[.string s,.int .i64 (a:Int),.string ⟨#[42,47]⟩] w fun e w'=>e=.returned (.bool ([42,47].isPrefixOf (s.data.toList.drop a)))∧w'=w:=fun w=>aY.out a ⟨#[42,47]⟩ ha (by show 2≤_;omega) w
   obtain⟨a2,tK⟩:∃a2,a+2=a2:=⟨_,rfl⟩;obtain⟨a1,ee⟩:∃a1,a+1=a1:=⟨_,rfl⟩;obtain⟨d1,CQ⟩:∃d1,d+1=d1:=⟨_,rfl⟩;have zk:IntKind.i64.wrap ((a:Int)+2)=(a2:Int):=by rw[show(a:Int)+2=(a2:Int) by omega];exact IntWalk.i64_in _ (by omega)
   have zn:IntKind.i64.wrap ((a:Int)+1)=(a1:Int):=by rw[show(a:Int)+1=(a1:Int) by omega];exact IntWalk.i64_in _ (by omega)
   have cwd:IntKind.i64.wrap ((d:Int)+1)=(d1:Int):=by rw[show(d:Int)+1=(d1:Int) by omega];exact IntWalk.i64_in _ (by omega)
   obtain⟨lB,fJ,qO⟩:=hZ3 tK ee CQ;clear tK ee CQ
   cases h1:([47,42]:Tx).isPrefixOf (s.data.toList.drop a)with
   |true=>
    rw[h1]at dG;have dL:=qid dG;have iK:=(Ph _ _ _).1 h1;have hle:=Sw _ _ s a iK;have hn:R=(GE (d+1) (s.data.toList.drop (a+2))).map (· +(a+2)):=by
     rcases HV.out with⟨rfl,rfl⟩|⟨hp,hv⟩
     ·rw[←HR.out];rfl
     ·obtain⟨e,rfl⟩:∃e,d=e+1:=⟨d-1,by omega⟩
      rw[hv,VZ s e a iK]
    have HN:=qid hn;clear dG dH h1 iK hn;go_wp2_with (go_at_call 142;(with_reducible refine(dL.out _).mono ?_);rintro e w1 ⟨rfl,aJ⟩;obtain rfl:=aJ.symm)
    go_round
    case rel=>exact⟨a2,d1,by have:=lB.out;omega,by have:=lB.out;have:=qO.out;omega,rfl,rfl,.inr ⟨by have:=qO.out;omega,by rw[←lB.out,←qO.out];exact HN.out⟩⟩
    case measure=>have:=lB.out;simp[intOf];omega
   |false=>
    rw[h1]at dG;have dL:=qid dG;have iK:=(Md _ _ _).1 h1;have ma:0<d∧R=(GE d (s.data.toList.drop a)).map (· +a):=by
     rcases HV.out with⟨rfl,rfl⟩|h
     ·exact absurd H0.out iK
     ·exact h
    obtain⟨hp,hv⟩:=ma;obtain⟨d0,ma⟩:∃e,d=e+1:=⟨d-1,by omega⟩
    clear HV h1 dG
    cases h2:([42,47]:Tx).isPrefixOf (s.data.toList.drop a)with
    |true=>
     rw[h2]at dH;have bx:=qid dH;have kF:=(Ph _ _ _).1 h2;have hle:=Sw _ _ s a kF;have hn:R=(GE d0 (s.data.toList.drop (a+2))).map (· +(a+2)):=by rw[hv,ma,V1 s d0 a kF]
     have CR:IntKind.i64.wrap ((d:Int)-1)=(d0:Int):=by rw[show(d:Int)-1=(d0:Int) by omega];exact IntWalk.i64_in _ (by omega)
     obtain⟨HN,FL⟩:=hZ2 hn ma;clear dH h2 kF hn hv ma iK
     by_cases hz:d0=0
     ·subst hz
      have iP:O9 R=(a2:Int):=by rw[HN.out];rw[GE];show((0+(a+2):Nat):Int)=_;have:=lB.out;omega
      have kI:=qid iP;have FM:IntKind.i64.wrap ((d:Int)-1)=0:=CR;clear CR iP;go_wp2_with (first
       |(go_at_call 142;(with_reducible refine(dL.out _).mono ?_);rintro e w1 ⟨rfl,aJ⟩;obtain rfl:=aJ.symm)
       |(go_at_call 142;(with_reducible refine(bx.out _).mono ?_);rintro e w1 ⟨rfl,aJ⟩;obtain rfl:=aJ.symm))
      go_ret;exact⟨by rw[kI.out];rfl,rfl⟩
     ·have bg:((d0:Int)==0)=false:=by rw[beq_eq_false_iff_ne];omega
      go_wp2_with (first
       |(go_at_call 142;(with_reducible refine(dL.out _).mono ?_);rintro e w1 ⟨rfl,aJ⟩;obtain rfl:=aJ.symm)
       |(go_at_call 142;(with_reducible refine(bx.out _).mono ?_);rintro e w1 ⟨rfl,aJ⟩;obtain rfl:=aJ.symm))
      go_round
      case rel=>exact⟨a2,d0,by have:=lB.out;omega,by have:=lB.out;have:=FL.out;omega,rfl,rfl,.inr ⟨by omega,by rw[←lB.out];exact HN.out⟩⟩
      case measure=>have:=lB.out;simp[intOf];omega
    |false=>
     rw[h2]at dH;have bx:=qid dH;have kF:=(Md _ _ _).1 h2;have hn:R=(GE d (s.data.toList.drop (a+1))).map (· +(a+1)):=by rw[hv,ma,qaL s d0 a aD iK kF]
     have HN:=qid hn;clear dH h2 kF hn hv ma iK;go_wp2_with (first
      |(go_at_call 142;(with_reducible refine(dL.out _).mono ?_);rintro e w1 ⟨rfl,aJ⟩;obtain rfl:=aJ.symm)
      |(go_at_call 142;(with_reducible refine(bx.out _).mono ?_);rintro e w1 ⟨rfl,aJ⟩;obtain rfl:=aJ.symm))
     go_round
     case rel=>exact⟨a1,d,by have:=fJ.out;omega,by have:=fJ.out;omega,rfl,rfl,.inr ⟨hp,by rw[←fJ.out];exact HN.out⟩⟩
     case measure=>have:=fJ.out;simp[intOf];omega
  ·have l1:¬((a:Int)<(s.size:Int)):=by omega
   have hd:s.data.toList.drop a=[]:=List.drop_eq_nil_of_le (by have:s.size=s.data.toList.length:=rfl;omega)
   have hn:R=none:=by
    rcases HV.out with⟨rfl,rfl⟩|⟨hp,hv⟩
    ·have:=uM.out;omega
    ·obtain⟨e,rfl⟩:∃e,d=e+1:=⟨d-1,by omega⟩
     rw[hv,hd,GE];rfl
   have HN:=qid hn;clear hd hn HV HR;go_wp2;go_ret;exact⟨by rw[HN.out];rfl,rfl⟩
def J6(c:UInt8):Bool:=c != 10
def Hj(s:ByteArray)(a:Nat):Nat:=a+aT J6 (s.data.toList.drop a)
def ww:Nat→ByteArray→Nat→Nat×Bool
 |0,_,a=>(a,false)
 |f+1,s,a=>
  if s.size≤a then(a,false)else
  if n6 ((s.data.toList.drop a).headD 0)=true then ww f s (a+1)else
  if(s.data.toList.drop a).take 2=[45,45]then ww f s (Hj s a)else
  if(s.data.toList.drop a).take 2=[47,42]then(match Jl s a with
   |none=>(a,true)
   |some n=>ww f s n)else(a,false)
theorem YK:((List.range 256).all fun n=>JM (n:Int)==(n==32||n==9||n==10||n==12||n==13))=true:=by kernel_rfl
theorem qaM(c:UInt8):n6 c=(((c.toNat:Int)==32)||((c.toNat:Int)==9)||((c.toNat:Int)==10)||((c.toNat:Int)==12)||((c.toNat:Int)==13)):=by
 have h:=beq_iff_eq.1 (List.all_eq_true.1 YK c.toNat (List.mem_range.2 c.toNat_lt));show JM (c.toNat:Int)=_;rw[h];have e:∀k:Nat,(c.toNat==k)=((c.toNat:Int)==(k:Int)):=by
  intro k;rw[Bool.eq_iff_iff,beq_iff_eq,beq_iff_eq];omega
 rw[e 32,e 9,e 10,e 12,e 13]
 rfl
theorem Ng(s:ByteArray)(a:Nat)(ha:a≤s.size):Hj s a≤s.size:=by
 unfold Hj;have h1:aT J6 (s.data.toList.drop a)≤(s.data.toList.drop a).length:=Iw _ _;rw[List.length_drop]at h1;have:s.size=s.data.toList.length:=rfl;omega
theorem KL(s:ByteArray)(a:Nat)(h:(s.data.toList.drop a).take 2=[45,45]):a+1≤Hj s a:=by
 have hl:=Sw _ _ s a h;unfold Hj;rw[f8 s a (by omega),ii]
 rw[f8 s a (by omega),List.take_succ_cons]at h
 injection h with h _;rw[h,if_pos (by decide)]
 omega
theorem QU(s:ByteArray)(a n:Nat)(h:Jl s a=some n)(h2:(s.data.toList.drop a).take 2=[47,42]):a+1≤n∧n≤s.size:=by
 have hl:=Sw _ _ s a h2;unfold Jl at h
 cases hr:GE 1 (s.data.toList.drop (a+2))with
 |none=>rw[hr]at h;cases h
 |some k=>
  rw[hr]at h;simp at h;have:=T4 _ _ _ hr;rw[List.length_drop]at this;have hs:s.size=s.data.toList.length:=rfl;omega
theorem YL(s:ByteArray)(a0:Nat)(w:World)(hs:s.size≤1048000)(qT:a0≤s.size)(R:Nat×Bool)(hR:R=ww (s.size+1) s a0):
  Calls Tryz.prog 102 #[.string s,.int .i64 (a0:Int)] w fun e w'=>e=.returned (.tuple #[.int .i64 (R.1:Int),.bool R.2])∧w'=w:=by
 have ah:=fun a p ha hp w=>KK s p a w (by omega) hp ha
 have j3:=fun a h w=>QT s a w hs h
 obtain⟨aY,xo,HE,CS⟩:=hZ4 ah j3 hR qT;clear ah j3 hR qT;go_enter Tryz.func102,Tryz.ntmps102;go_wp2
 go_loopg [1] s.size (fun g u1 wx=>∃a:Nat,a≤s.size∧s.size-a≤g∧u1=.int .i64 (a:Int)∧wx=w∧R=ww (g+1) s a)
 case atStart=>exact⟨a0,CS.out,by omega,rfl,rfl,HE.out⟩
 case round=>
  obtain⟨a,ha,hg,rfl,rfl,hv⟩:=hrel;rw[ww]at hv;clear HE CS
  by_cases aD:a<s.size
  ·obtain⟨g,rfl⟩:∃g,gk=g+1:=⟨gk-1,by omega⟩
   rw[if_neg (by omega)]at hv
   have l0:(0:Int)≤(a:Int):=by omega
   have l1:(a:Int)<(s.size:Int):=by omega
   have dG:∀w,Calls Tryz.prog 142 #[.string s,.int .i64 (a:Int),.string ⟨#[45,45]⟩] w fun e w'=>e=.returned (.bool ([45,45].isPrefixOf (s.data.toList.drop a)))∧w'=w:=fun w=>aY.out a ⟨#[45,45]⟩ ha (by show 2≤_;omega) w
   have dH:∀w,Calls Tryz.prog 142 #[.string s,.int .i64 (a:Int),.string ⟨#[47,42]⟩] w fun e w'=>e=.returned (.bool ([47,42].isPrefixOf (s.data.toList.drop a)))∧w'=w:=fun w=>aY.out a ⟨#[47,42]⟩ ha (by show 2≤_;omega) w
   have hd:=f8 s a aD;have hh:(s.data.toList.drop a).headD 0=s[a]:=by rw[hd];rfl
   rw[hh,qaM]at hv;obtain⟨z,hz⟩:∃z:Int,((s[a]'aD).toNat:Int)=z:=⟨_,rfl⟩;rw[hz]at hv;obtain⟨a1,ee⟩:∃a1,a+1=a1:=⟨_,rfl⟩;have zn:IntKind.i64.wrap ((a:Int)+1)=(a1:Int):=by rw[show(a:Int)+1=(a1:Int) by omega];exact IntWalk.i64_in _ (by omega)
   rw[ee]at hv;obtain⟨fJ,HV⟩:=hZ2 ee hv;clear hd hh ee hv;have leaf:∀b,(((z==32)||(z==9)||(z==10)||(z==12)||(z==13))=b)→(if b=true then R=ww (g+1) s a1 else R=(if(s.data.toList.drop a).take 2=[45,45]then ww (g+1) s (Hj s a)else
     if(s.data.toList.drop a).take 2=[47,42]then(match Jl s a with
      |none=>(a,true)
      |some n=>ww (g+1) s n)else(a,false))):=by
    intro b hb;have:=HV.out;rw[hb]at this
    cases b with
    |true=>rw[if_pos rfl]at this⊢;exact this
    |false=>rw[if_neg (by decide)]at this⊢;exact this
   have lU:=qid leaf;clear leaf HV
   by_cases z1:z=32
   ·subst z1
    have HN:=qid (show R=ww (g+1) s a1 from by have:=lU.out true rfl;rwa[if_pos rfl]at this)
    clear lU dG dH;go_wp2;go_roundg g
    case measure=>exact Nat.lt_succ_self _
    case rel=>exact⟨a1,by have:=fJ.out;omega,by have:=fJ.out;omega,rfl,rfl,HN.out⟩
   by_cases z2:z=9
   ·subst z2
    have HN:=qid (show R=ww (g+1) s a1 from by have:=lU.out true rfl;rwa[if_pos rfl]at this)
    clear lU dG dH z1;go_wp2;go_roundg g
    case measure=>exact Nat.lt_succ_self _
    case rel=>exact⟨a1,by have:=fJ.out;omega,by have:=fJ.out;omega,rfl,rfl,HN.out⟩
   by_cases z3:z=10
   ·subst z3
    have HN:=qid (show R=ww (g+1) s a1 from by have:=lU.out true rfl;rwa[if_pos rfl]at this)
    clear lU dG dH z1 z2;go_wp2;go_roundg g
    case measure=>exact Nat.lt_succ_self _
    case rel=>exact⟨a1,by have:=fJ.out;omega,by have:=fJ.out;omega,rfl,rfl,HN.out⟩
   by_cases z4:z=12
   ·subst z4
    have HN:=qid (show R=ww (g+1) s a1 from by have:=lU.out true rfl;rwa[if_pos rfl]at this)
    clear lU dG dH z1 z2 z3;go_wp2;go_roundg g
    case measure=>exact Nat.lt_succ_self _
    case rel=>exact⟨a1,by have:=fJ.out;omega,by have:=fJ.out;omega,rfl,rfl,HN.out⟩
   by_cases z5:z=13
   ·subst z5
    have HN:=qid (show R=ww (g+1) s a1 from by have:=lU.out true rfl;rwa[if_pos rfl]at this)
    clear lU dG dH z1 z2 z3 z4;go_wp2;go_roundg g
    case measure=>exact Nat.lt_succ_self _
    case rel=>exact⟨a1,by have:=fJ.out;omega,by have:=fJ.out;omega,rfl,rfl,HN.out⟩
   have e1:(z==(32:Int))=false:=by rw[beq_eq_false_iff_ne];exact z1
   have e2:(z==(9:Int))=false:=by rw[beq_eq_false_iff_ne];exact z2
   have e3:(z==(10:Int))=false:=by rw[beq_eq_false_iff_ne];exact z3
   have e4:(z==(12:Int))=false:=by rw[beq_eq_false_iff_ne];exact z4
   have e5:(z==(13:Int))=false:=by rw[beq_eq_false_iff_ne];exact z5
   have HN:=qid (lU.out false (by rw[e1,e2,e3,e4,e5];rfl))
   clear lU z1 z2 z3 z4 z5
   cases h1:([45,45]:Tx).isPrefixOf (s.data.toList.drop a)with
   |true=>
    rw[h1]at dG;have j7:=qid dG;have iK:=(Ph _ _ _).1 h1;have hn:R=ww (g+1) s (Hj s a):=by have:=HN.out;rw[if_neg (by decide),if_pos iK]at this;exact this
    have hle:=Ng s a ha;have hgt:=KL s a iK;obtain⟨L,hL⟩:∃L,Hj s a=L:=⟨_,rfl⟩;rw[hL]at hn hle hgt;obtain⟨kI,HL⟩:=hZ2 hn hL;clear dG dH h1 iK hn HN hL;go_wp2_with (go_at_call 142;(with_reducible refine(j7.out _).mono ?_);rintro e w1 ⟨rfl,aJ⟩;obtain rfl:=aJ.symm)
    go_loop [1] (fun u1=>∃i:Nat,i≤s.size∧u1=.int .i64 i∧L=i+aT J6 (s.data.toList.drop i)) (fun u1=>s.size-(intOf u1).toNat)
    case atStart=>exact⟨a,ha,rfl,HL.out.symm⟩
    case round=>
     obtain⟨i,hi,rfl,hv⟩:=hrel;clear zn hz
     by_cases bw:i<s.size
     ·have j0:(0:Int)≤(i:Int):=by omega
      have j1:(i:Int)<(s.size:Int):=by omega
      rw[f8 s i bw,ii]at hv;obtain⟨y,hy⟩:∃y:Int,((s[i]'bw).toNat:Int)=y:=⟨_,rfl⟩;obtain⟨i1,aN⟩:∃i1,i+1=i1:=⟨_,rfl⟩;have Gh:IntKind.i64.wrap ((i:Int)+1)=(i1:Int):=by rw[show(i:Int)+1=(i1:Int) by omega];exact IntWalk.i64_in _ (by omega)
      have nu:J6 s[i]=(y != 10):=by
       unfold J6;rw[←hy,Bool.eq_iff_iff,bne_iff_ne,bne_iff_ne];constructor
       ·intro h hh;exact h (UInt8.toNat_inj.1 (by show _=10;omega))
       ·intro h hh;rw[hh]at h;exact h rfl
      rw[nu]at hv;have aQ:=qid aN
      by_cases oW:y=10
      ·subst oW
       rw[if_neg (by decide)]at hv
       have HV:=qid hv;clear hv nu aN;go_wp2;go_roundg g
       case measure=>exact Nat.lt_succ_self _
       case rel=>exact⟨L,hle,by omega,by rw[HV.out];rfl,rfl,kI.out⟩
      ·have FN:(y != (10:Int))=true:=by rw[bne_iff_ne];exact oW
       rw[FN,if_pos rfl,aN]at hv;have HV:=qid hv;clear hv nu aN oW;go_wp2
       go_round
       case rel=>exact⟨i1,by have:=aQ.out;omega,rfl,by have:=aQ.out;have:=HV.out;omega⟩
       case measure=>have:=aQ.out;simp[intOf];omega
     ·have j1:¬((i:Int)<(s.size:Int)):=by omega
      have ma:s.data.toList.drop i=[]:=List.drop_eq_nil_of_le (by have:s.size=s.data.toList.length:=rfl;omega)
      rw[ma]at hv;have HV:=qid hv;clear hv ma;go_wp2;go_roundg g
      case measure=>exact Nat.lt_succ_self _
      case rel=>exact⟨L,hle,by omega,by rw[HV.out];rfl,rfl,kI.out⟩
   |false=>
    rw[h1]at dG;have iK:=(Md _ _ _).1 h1
    cases h2:([47,42]:Tx).isPrefixOf (s.data.toList.drop a)with
    |true=>
     rw[h2]at dH;have kF:=(Ph _ _ _).1 h2;have hn:R=(match Jl s a with
      |none=>(a,true)
      |some n=>ww (g+1) s n):=by have:=HN.out;rw[if_neg (by decide),if_neg iK,if_pos kF]at this;exact this
     have j3:=xo.out a kF;have fw:=QU s a
     cases fq:Jl s a with
     |none=>
      rw[fq]at hn j3;have mn:∀w,Calls Tryz.prog 143 #[.string s,.int .i64 (a:Int)] w fun e w'=>e=.returned (.int .i64 (-1))∧w'=w:=j3
      obtain⟨rj,dL,bx,kI⟩:=hZ4 mn dG dH hn;clear dG dH h1 iK h2 kF hn HN j3 mn fw fq;go_wp2_with (first|(go_at_call 142;(with_reducible refine(dL.out _).mono ?_);rintro e w1 ⟨rfl,aJ⟩;obtain rfl:=aJ.symm)|(go_at_call 142;(with_reducible refine(bx.out _).mono ?_);rintro e w1 ⟨rfl,aJ⟩;obtain rfl:=aJ.symm)|(go_at_call 143;(with_reducible refine(rj.out _).mono ?_);rintro e w1 ⟨rfl,aJ⟩;obtain rfl:=aJ.symm))
      go_ret2
      exact⟨by rw[kI.out];rfl,rfl⟩
     |some n=>
      rw[fq]at hn j3;obtain⟨dj,iP⟩:=fw n fq kF;have mn:∀w,Calls Tryz.prog 143 #[.string s,.int .i64 (a:Int)] w fun e w'=>e=.returned (.int .i64 (n:Int))∧w'=w:=j3
      obtain⟨rj,dL,bx,kI⟩:=hZ4 mn dG dH hn;have Gi:¬((n:Int)<0):=by omega
      clear dG dH h1 iK h2 kF hn HN j3 mn fw fq;go_wp2_with (first|(go_at_call 142;(with_reducible refine(dL.out _).mono ?_);rintro e w1 ⟨rfl,aJ⟩;obtain rfl:=aJ.symm)|(go_at_call 142;(with_reducible refine(bx.out _).mono ?_);rintro e w1 ⟨rfl,aJ⟩;obtain rfl:=aJ.symm)|(go_at_call 143;(with_reducible refine(rj.out _).mono ?_);rintro e w1 ⟨rfl,aJ⟩;obtain rfl:=aJ.symm))
      go_roundg g
      case measure=>exact Nat.lt_succ_self _
      case rel=>exact⟨n,iP,by omega,rfl,rfl,kI.out⟩
    |false=>
     rw[h2]at dH;have kF:=(Md _ _ _).1 h2;have hn:R=(a,false):=by have:=HN.out;rw[if_neg (by decide),if_neg iK,if_neg kF]at this;exact this
     obtain⟨dL,bx,kI⟩:=hZ3 dG dH hn;clear dG dH h1 iK h2 kF hn HN;go_wp2_with (first|(go_at_call 142;(with_reducible refine(dL.out _).mono ?_);rintro e w1 ⟨rfl,aJ⟩;obtain rfl:=aJ.symm)|(go_at_call 142;(with_reducible refine(bx.out _).mono ?_);rintro e w1 ⟨rfl,aJ⟩;obtain rfl:=aJ.symm))
     go_ret2
     exact⟨by rw[kI.out];rfl,rfl⟩
  ·have l1:¬((a:Int)<(s.size:Int)):=by omega
   rw[if_pos (by omega)]at hv
   have HV:=qid hv;clear hv;go_wp2
   go_ret2
   exact⟨by rw[HV.out];rfl,rfl⟩
theorem Sx(s:ByteArray)(hs:s.size≤281474976710656)(w:World):Calls Tryz.prog 146 #[.string s] w fun e w'=>e=.returned (.string (Hn s))∧Below w.heap.size w w':=by
 have ka:=run_bytes_of_string (P:=Tryz.prog) w 9 121 5 s (by kernel_rfl) (by kernel_rfl) (by kernel_rfl)
 have hI:SmI s w 0 (w.drew.alloc (.cells (bytesRow s (grownCap w s.size 0 5)) 5 ((bytesRow s (grownCap w s.size 0 5)).size,(bytesRow s (grownCap w s.size 0 5)).size+1))):=by
  have e1:w.drew.heap.size=w.heap.size:=by simp
  refine⟨fun j hj=>?_,fun j hj=>?_,((Below.refl _ _).drew).alloc (by simp) _⟩
  ·rw[if_neg (by omega)]
   rw[←e1,World.cell?_alloc_mark,bytesRow_at s _ j hj]
   rfl
  ·rw[←e1,World.frozen?_alloc_mark]
   have:j<(bytesRow s (grownCap w s.size 0 5)).size:=by
    have:=bytesRow_at s (grownCap w s.size 0 5) j hj;exact(Array.getElem?_eq_some_iff.1 this).1
   rw[decide_eq_false (by omega)];rfl
 generalize (w.drew.alloc (.cells (bytesRow s (grownCap w s.size 0 5)) 5 ((bytesRow s (grownCap w s.size 0 5)).size,(bytesRow s (grownCap w s.size 0 5)).size+1)))=w1 at*
 generalize grownCap w s.size 0 5=cap at*
 have HI:=qid hI;clear hI;go_enter Tryz.func146,Tryz.ntmps146;go_wp2
 go_loopw [4] (fun u4 wr=>∃k:Nat,u4=.int .i64 (k:Int)∧k≤s.size∧SmI s w k wr) (fun u4 _=>s.size-(match u4 with| .int _ k=>k.toNat|_=>0))
 case atStart=>exact⟨0,rfl,Nat.zero_le _,HI.out⟩
 case round=>
  obtain⟨k,rfl,y9,hS⟩:=hrel;clear HI ka;have HS:=qid hS;clear hS
  by_cases hk:k<s.size
  ·have lw:Hid ((k:Int)+1=((k+1:Nat):Int)):=qid (by omega)
   obtain⟨z,hz⟩:∃z:Int,((s[k]'hk).toNat:Int)=z:=⟨_,rfl⟩;have hc:wr.cell? ⟨w.heap.size,k,none⟩=some (.int .u8 z):=by
    have:=HS.out.cell k hk
    rwa[if_neg (by omega),hz]at this
   have hf:wr.frozen? ⟨w.heap.size,k,none⟩=false:=HS.out.fro k hk;have lk:(k:Int)<(s.size:Int):=by omega
   have l0:(0:Int)≤(k:Int):=by omega
   have HZ:=qid hz;clear hz
   by_cases h1:65≤z∧z≤90
   ·obtain⟨ha,hb⟩:=h1
    have s1:IntKind.u8.wrap (z+32)=z+32:=IntWalk.u8_in _ (by omega)
    go_wp2;refine⟨⟨k+1,by rw[lw.out],by omega,HS.out.put hk _ (by rw[HZ.out];unfold NB;rw[if_pos ⟨ha,hb⟩])⟩,?_⟩
    rw[lw.out];simp only[Int.toNat_natCast];omega
   ·by_cases h2:65≤z
    ·have h3:¬(z≤90):=by omega
     clear h1;go_wp2;refine⟨⟨k+1,by rw[lw.out],by omega,HS.out.keep hk (by rw[HZ.out];unfold NB;rw[if_neg (by omega)])⟩,?_⟩
     rw[lw.out];simp only[Int.toNat_natCast];omega
    ·clear h1
     go_wp2;refine⟨⟨k+1,by rw[lw.out],by omega,HS.out.keep hk (by rw[HZ.out];unfold NB;rw[if_neg (by omega)])⟩,?_⟩
     rw[lw.out];simp only[Int.toNat_natCast];omega
  ·have lk:¬((k:Int)<(s.size:Int)):=by omega
   have rf:k=s.size:=by omega
   have mh:=run_convert_bytes_back (P:=Tryz.prog) wr 121 9 5 ⟨w.heap.size,0,none⟩ cap (s.data.toList.map Ix) (by kernel_rfl) (by kernel_rfl) (by kernel_rfl) (fun j hj=>by
    have dI:j<s.size:=by rw[Lib.size_eq];simpa using hj
    have:=HS.out.cell j dI;rw[if_pos (by omega)]at this
    have ea:(⟨w.heap.size,0,none⟩:Addr).add j=⟨w.heap.size,j,none⟩:=by simp[Addr.add];exact fun h=>h.symm
    rw[ea,this,List.getElem_map]
    rfl)
   rw[List.length_map,←Lib.size_eq]at mh;clear rf;go_wp2;go_ret;exact⟨rfl,HS.out.bel⟩
theorem T8(l:Tx)(c:UInt8):0≤Lib.indexByte l c↔c∈l:=by
 induction l with
 |nil=>simp[Lib.indexByte]
 |cons b r ih=>
  have hge:=Lib.indexByte_ge r c;unfold Lib.indexByte
  by_cases h:b=c
  ·subst h;simp
  ·have hb:(b==c)=false:=by rw[beq_eq_false_iff_ne];exact h
   rw[hb];simp only[Bool.false_eq_true,if_false,List.mem_cons]
   by_cases h1:Lib.indexByte r c= -1
   ·rw[h1]
    have:¬(c∈r):=fun hm=>by have:=ih.2 hm;omega
    simp[this];exact fun hh=>h hh.symm
   ·have h2:(Lib.indexByte r c== -1)=false:=by rw[beq_eq_false_iff_ne];exact h1
    rw[h2];simp only[Bool.false_eq_true,if_false];constructor
    ·intro _;exact .inr (ih.1 (by omega))
    ·intro hm
     rcases hm with hm|hm
     ·exact absurd hm.symm h
     ·have:=ih.2 hm;omega
theorem V2(c:UInt8)(w:World):Calls Tryz.prog 151 #[.int .u8 (c.toNat:Int)] w fun e w'=>e=.returned (.bool (decide (0≤Hi c)))∧w'=w:=by
 obtain⟨z,hz⟩:∃z:Int,(c.toNat:Int)=z:=⟨_,rfl⟩;rw[hz];have HZ:=qid hz;obtain⟨R,hR⟩:∃R,decide (0≤Hi c)=R:=⟨_,rfl⟩;rw[hR];have HR:=qid hR;clear hz hR;go_enter Tryz.func151,Tryz.ntmps151;go_wp2
 go_loop [4] (fun u4=>∃k:Nat,k≤24∧u4=.int .i64 k∧∀j,j<k→Lf.data.toList[j]? ≠some c) (fun u4=>24-(intOf u4).toNat)
 case atStart=>exact⟨0,Nat.zero_le _,rfl,fun j h=>by omega⟩
 case round=>
  obtain⟨k,hk,rfl,hn⟩:=hrel;have HN:=qid hn;clear hn
  by_cases aD:k<24
  ·have l0:(0:Int)≤(k:Int):=by omega
   have l1:(k:Int)<24:=by omega
   obtain⟨y,hy⟩:∃y:UInt8,Lf.data.toList[k]'aD=y:=⟨_,rfl⟩;have jh:((Lf[k]'aD).toNat:Int)=(y.toNat:Int):=by rw[←hy];rfl
   have CT:Lf.data.toList[k]? =some y:=by rw[List.getElem?_eq_getElem aD,hy]
   obtain⟨x,hx⟩:∃x:Int,(y.toNat:Int)=x:=⟨_,rfl⟩;rw[hx]at jh;obtain⟨HX,HY⟩:=hZ2 hx CT;clear hx hy CT
   by_cases he:x=z
   ·have e:(x==z)=true:=by rw[beq_iff_eq];exact he
    have wQ:y=c:=UInt8.toNat_inj.1 (by have:=HX.out;have:=HZ.out;omega)
    have hr:R=true:=by
     rw[←HR.out];refine decide_eq_true ((T8 _ _).2 ?_);rw[←wQ];exact List.mem_of_getElem? HY.out
    have dV:=qid hr;clear he wQ hr;go_wp2;go_ret;exact⟨by rw[dV.out];rfl,rfl⟩
   ·have e:(x==z)=false:=by rw[beq_eq_false_iff_ne];exact he
    have wQ:y≠c:=fun h=>he (by have h1:=HX.out;have h2:=HZ.out;rw[h]at h1;omega)
    have FO:=qid wQ;clear he wQ;go_wp2
    go_round
    case rel=>
     refine⟨k+1,by omega,by go_num,fun j hj=>?_⟩
     by_cases lX:j<k
     ·exact HN.out j lX
     ·have:j=k:=by omega
      subst this;rw[HY.out];intro h;exact FO.out (Option.some.inj h)
    case measure=>simp[intOf];omega
  ·have l1:¬((k:Int)<24):=by omega
   have hr:R=false:=by
    rw[←HR.out];refine decide_eq_false fun h=>?_
    obtain⟨j,hj⟩:=List.getElem?_of_mem ((T8 _ _).1 h);exact HN.out j (by have:=(List.getElem?_eq_some_iff.1 hj).1;have Gj:Lf.data.toList.length=24:=rfl;omega) hj
   have dV:=qid hr;clear hr;go_wp2;go_ret;exact⟨by rw[dV.out];rfl,rfl⟩
def Ge(s:ByteArray)(a:Nat)(q:UInt8):Option (Tx×Nat):=(Gx q (s.data.toList.drop (a+1))).map (fun p=>(p.1,p.2+(a+1)))
def qaN(o:Option (Tx×Nat)):Value:=match o with
 |some p=>.tuple #[.string (bb p.1),.int .i64 (p.2:Int)]
 |none=>.tuple #[.string ⟨#[]⟩,.int .i64 (-1)]
theorem Jm(s:ByteArray)(a:Nat)(h:¬a<s.size):s.data.toList.drop a=[]:=List.drop_eq_nil_of_le (by have:s.size=s.data.toList.length:=rfl;omega)
theorem qcd(s:ByteArray)(q:UInt8)(i:Nat)(h:i<s.size)(T:Tx)(hc:s[i]≠q):(Gx q (s.data.toList.drop i)).map (fun p=>(T++p.1,p.2+i))=(Gx q (s.data.toList.drop (i+1))).map (fun p=>((T++[s[i]])++p.1,p.2+(i+1))):=by
 rw[f8 s i h,un,if_neg hc]
 cases Gx q (s.data.toList.drop (i+1))with
 |none=>rfl
 |some p=>simp;omega
theorem qaO(s:ByteArray)(q:UInt8)(i:Nat)(h:i+1<s.size)(T:Tx)(hc:s[i]=q)(hd:s[i+1]=q):(Gx q (s.data.toList.drop i)).map (fun p=>(T++p.1,p.2+i))=(Gx q (s.data.toList.drop (i+2))).map (fun p=>((T++[q])++p.1,p.2+(i+2))):=by
 rw[f8 s i (by omega),un,if_pos hc,f8 s (i+1) h]
 simp only[hd,if_true]
 cases Gx q (s.data.toList.drop (i+1+1))with
 |none=>rfl
 |some p=>simp;omega
theorem qaP(s:ByteArray)(q:UInt8)(i:Nat)(h:i<s.size)(T:Tx)(hc:s[i]=q)(hd:∀h2:i+1<s.size,s[i+1]≠q):(Gx q (s.data.toList.drop i)).map (fun p=>(T++p.1,p.2+i))=some (T,i+1):=by
 rw[f8 s i h,un,if_pos hc]
 by_cases h2:i+1<s.size
 ·rw[f8 s (i+1) h2]
  simp only[hd h2,if_false];simp;omega
 ·rw[Jm s (i+1) h2]
  simp;omega
theorem QV(s:ByteArray)(a:Nat)(ha:a<s.size)(w:World)(hs:s.size≤1048000):
  Calls Tryz.prog 148 #[.string s,.int .i64 (a:Int)] w fun e w'=>e=.returned (qaN (Ge s a s[a]))∧w'=w:=by
 obtain⟨q,hq⟩:∃q,s[a]=q:=⟨_,rfl⟩;rw[hq];obtain⟨qi,zo⟩:∃z:Int,(q.toNat:Int)=z:=⟨_,rfl⟩;have jh:((s[a]'ha).toNat:Int)=qi:=by rw[hq,zo]
 have l0:(0:Int)≤(a:Int):=by omega
 have l1:(a:Int)<(s.size:Int):=by omega
 obtain⟨R,hR⟩:∃R,Ge s a q=R:=⟨_,rfl⟩;rw[hR];obtain⟨a1,ee⟩:∃a1,a+1=a1:=⟨_,rfl⟩;have cw:IntKind.i64.wrap ((a:Int)+1)=(a1:Int):=by rw[show(a:Int)+1=(a1:Int) by omega];exact IntWalk.i64_in _ (by omega)
 have h0:R=(Gx q (s.data.toList.drop a1)).map (fun p=>([]++p.1,p.2+a1)):=by rw[←hR,←ee];rfl
 obtain⟨H0,fJ,xY⟩:=hZ3 h0 ee zo;clear hR h0 ee hq zo;go_enter Tryz.func148,Tryz.ntmps148;go_wp2
 go_loop [7,8] (fun u7 rm=>∃(i:Nat) (T:Tx),i≤s.size∧T.length≤i∧u7=.string (bb T)∧rm=.int .i64 i∧R=(Gx q (s.data.toList.drop i)).map (fun p=>(T++p.1,p.2+i))) (fun _ rm=>s.size-(intOf rm).toNat)
 case atStart=>exact⟨a1,[],by have:=fJ.out;omega,Nat.zero_le _,rfl,rfl,H0.out⟩
 case round=>
  obtain⟨i,T,hi,hT,rfl,rfl,hv⟩:=hrel;clear jh l0 l1 cw H0 fJ;have Gk:(bb T).size≤1048000:=by rw[I3];omega
  by_cases aD:i<s.size
  ·have l0:(0:Int)≤(i:Int):=by omega
   have l1:(i:Int)<(s.size:Int):=by omega
   obtain⟨c,hc⟩:∃c,s[i]'aD=c:=⟨_,rfl⟩;obtain⟨z,hz⟩:∃z:Int,(c.toNat:Int)=z:=⟨_,rfl⟩;have jh:((s[i]'aD).toNat:Int)=z:=by rw[hc,hz]
   obtain⟨i1,aN⟩:∃i1,i+1=i1:=⟨_,rfl⟩;have cw:IntKind.i64.wrap ((i:Int)+1)=(i1:Int):=by rw[show(i:Int)+1=(i1:Int) by omega];exact IntWalk.i64_in _ (by omega)
   have m1:(i:Int)≤(i1:Int):=by omega
   have m2:(i1:Int)≤(s.size:Int):=by omega
   have eL:s.extract i i1=bb [c]:=by rw[←aN,←hc];exact T7 s i aD
   have vj:(s.extract i i1).size=1:=by rw[eL];rfl
   by_cases nY:c=q
   ·have zq:z=qi:=by have:=xY.out;rw[←hz,nY];exact this
    by_cases h2:i1<s.size∧∀h:i1<s.size,s[i1]=q
    ·obtain⟨h2,CU⟩:=h2
     have h3:=CU h2;clear CU;have FP:((s[i1]'h2).toNat:Int)=qi:=by rw[h3];exact xY.out
     have n0:(0:Int)≤(i1:Int):=by omega
     have n1:(i1:Int)<(s.size:Int):=by omega
     obtain⟨i2,gi⟩:∃i2,i1+1=i2:=⟨_,rfl⟩;have zk:IntKind.i64.wrap ((i1:Int)+1)=(i2:Int):=by rw[show(i1:Int)+1=(i2:Int) by omega];exact IntWalk.i64_in _ (by omega)
     have hn:R=(Gx q (s.data.toList.drop i2)).map (fun p=>((T++[q])++p.1,p.2+i2)):=by
      have e:i2=i+2:=by omega
      rw[hv,e];subst aN;exact qaO s q i h2 T (by rw[hc,nY]) h3
     have HN:=qid hn;have HE:=qid (show bb T++s.extract i i1=bb (T++[q]) by rw[eL,YJ,nY])
     have HI:=qid (show i2=i+2∧i2≤s.size by omega)
     subst zq;clear hn hv eL aN gi nY hc hz h3
     generalize bb T=TT at*
     go_wp2
     go_round
     case rel=>exact⟨i2,T++[q],by have:=HI.out;omega,by have:=HI.out;rw[List.length_append,List.length_singleton];omega,by rw[HE.out],rfl,HN.out⟩
     case measure=>have:=HI.out;simp[intOf];omega
    ·have hn:R=some (T,i1):=by
      rw[hv,←aN];refine qaP s q i aD T (by rw[hc,nY]) fun h4 h5=>h2 ⟨by omega,fun h=>?_⟩
      subst aN;exact h5
     have HN:=qid hn;subst zq
     by_cases h4:i1<s.size
     ·obtain⟨y,hy⟩:∃y:Int,((s[i1]'h4).toNat:Int)=y:=⟨_,rfl⟩
      have Gl:(y==z)=false:=by
       rw[beq_eq_false_iff_ne];intro h;exact h2 ⟨h4,fun _=>UInt8.toNat_inj.1 (by have:=xY.out;omega)⟩
      have n0:(0:Int)≤(i1:Int):=by omega
      have n1:(i1:Int)<(s.size:Int):=by omega
      clear hn hv eL aN nY hc hz h2;go_wp2
      go_ret2
      exact⟨by rw[HN.out];rfl,rfl⟩
     ·have n1:¬((i1:Int)<(s.size:Int)):=by omega
      clear hn hv eL aN nY hc hz h2;go_wp2
      go_ret2
      exact⟨by rw[HN.out];rfl,rfl⟩
   ·have zq:(z != qi)=true:=by
     rw[bne_iff_ne];intro h;exact nY (UInt8.toNat_inj.1 (by have:=xY.out;omega))
    have hn:R=(Gx q (s.data.toList.drop i1)).map (fun p=>((T++[c])++p.1,p.2+i1)):=by
     rw[hv,←aN,qcd s q i aD T (by rw[hc];exact nY),hc]
    have HN:=qid hn;have HE:=qid (show bb T++s.extract i i1=bb (T++[c]) by rw[eL,YJ])
    have HI:=qid (show i1=i+1 by omega)
    clear hn hv eL aN nY hc hz
    generalize bb T=TT at*
    go_wp2
    go_round
    case rel=>exact⟨i1,T++[c],by have:=HI.out;omega,by have:=HI.out;rw[List.length_append,List.length_singleton];omega,by rw[HE.out],rfl,HN.out⟩
    case measure=>have:=HI.out;simp[intOf];omega
  ·have l1:¬((i:Int)<(s.size:Int)):=by omega
   have hn:R=none:=by rw[hv,Jm s i aD];rfl
   have HN:=qid hn;clear hn hv;go_wp2
   go_ret2
   exact⟨by rw[HN.out];rfl,rfl⟩
def Gt(l:Tx):Nat:=if aT n8 l=0 then 0 else aT Jh l
def n7(s:ByteArray)(a:Nat):Int:=
 if(s.data.toList.drop (a+1+Gt (s.data.toList.drop (a+1)))).take 1=[36]then((a+1+Gt (s.data.toList.drop (a+1))+1:Nat):Int)else -1
theorem qaQ(c:UInt8)(h:n8 c=true):Jh c=true:=by
 show O0 (c.toNat:Int)=true;have:Hu (c.toNat:Int)=true:=h;unfold O0;rw[this];rfl
theorem qaR(c:UInt8):Jh c=(Hu (c.toNat:Int)||Hh (c.toNat:Int)):=rfl
theorem Jn(c:UInt8)(r:Tx):Gt (c::r)=if n8 c=true then aT Jh r+1 else 0:=by
 unfold Gt;rw[ii n8]
 by_cases h:n8 c=true
 ·rw[if_pos h,if_pos h,if_neg (by omega),ii,if_pos (qaQ c h)]
 ·rw[if_neg h,if_neg h,if_pos rfl]
theorem T9(l:Tx):Gt l≤l.length:=by
 unfold Gt
 split
 ·omega
 ·exact Iw _ _
theorem YM(s:ByteArray)(a:Nat)(ha:a<s.size)(w:World)(hs:s.size≤1048000):
  Calls Tryz.prog 149 #[.string s,.int .i64 (a:Int)] w fun e w'=>e=.returned (.int .i64 (n7 s a))∧w'=w:=by
 have l0:(0:Int)≤(a:Int):=by omega
 obtain⟨a1,ee⟩:∃a1,a+1=a1:=⟨_,rfl⟩;have cw:IntKind.i64.wrap ((a:Int)+1)=(a1:Int):=by rw[show(a:Int)+1=(a1:Int) by omega];exact IntWalk.i64_in _ (by omega)
 obtain⟨R,hR⟩:∃R,n7 s a=R:=⟨_,rfl⟩;rw[hR];obtain⟨E,hE⟩:∃E,a1+Gt (s.data.toList.drop a1)=E:=⟨_,rfl⟩;have dC:R=if(s.data.toList.drop E).take 1=[36]then((E+1:Nat):Int)else -1:=by rw[←hR];unfold n7;rw[ee,hE]
 have Gm:E≤s.size:=by
  have h1:=T9 (s.data.toList.drop a1);rw[List.length_drop]at h1;have:s.size=s.data.toList.length:=rfl;omega
 obtain⟨HR,HE,fJ⟩:=hZ3 dC hE ee;clear hR hE dC ee;go_enter Tryz.func149,Tryz.ntmps149;go_wp2
 go_loop [5] (fun u5=>∃i:Nat,i≤s.size∧u5=.int .i64 i∧((i=a1∧E=i+Gt (s.data.toList.drop i))∨(a1<i∧E=i+aT Jh (s.data.toList.drop i)))) (fun u5=>s.size-(intOf u5).toNat)
 case atStart=>exact⟨a1,by have:=fJ.out;omega,rfl,.inl ⟨rfl,HE.out.symm⟩⟩
 case round=>
  obtain⟨i,hi,rfl,hv⟩:=hrel;have HV:=qid hv;clear hv HE;have mq:∀(h:E=i),Hid (E=i):=fun h=>qid h
  by_cases aD:i<s.size
  ·have m0:(0:Int)≤(i:Int):=by omega
   have m1:(i:Int)<(s.size:Int):=by omega
   obtain⟨c,hc⟩:∃c,s[i]'aD=c:=⟨_,rfl⟩;obtain⟨z,hz⟩:∃z:Int,(c.toNat:Int)=z:=⟨_,rfl⟩;have jh:((s[i]'aD).toNat:Int)=z:=by rw[hc,hz]
   obtain⟨i1,aN⟩:∃i1,i+1=i1:=⟨_,rfl⟩;have Gn:IntKind.i64.wrap ((i:Int)+1)=(i1:Int):=by rw[show(i:Int)+1=(i1:Int) by omega];exact IntWalk.i64_in _ (by omega)
   have aQ:=qid aN;have jS:=fun w=>K8 z w
   have ml:=fun w=>MQ z w
   have hd:=f8 s i aD;rw[hc]at hd;have lS:n8 c=Hu z:=by rw[←hz];rfl
   have CV:Jh c=(Hu z||Hh z):=by rw[qaR,hz]
   obtain⟨HD,bz,CW,bI,bM⟩:=hZ5 hd lS CV jS ml;have fA:(s.data.toList.drop i).take 1=[c]:=by rw[hd];rfl
   obtain⟨j2,HZ⟩:=hZ2 fA hz;clear jS ml hd lS CV aN hc hz fA
   generalize cr:Hu z=bl at*
   generalize iH:Hh z=bd at*
   clear cr iH
   cases bl with
   |true=>
    have hn:i1≤s.size∧a1<i1∧E=i1+aT Jh (s.data.toList.drop i1):=by
     have h1:=aQ.out;rcases HV.out with⟨e,h⟩|⟨e,h⟩
     ·rw[HD.out,Jn,if_pos bz.out,h1]at h
      exact⟨by omega,by omega,by omega⟩
     ·rw[HD.out,ii,if_pos (by rw[CW.out];rfl),h1]at h
      exact⟨by omega,by omega,by omega⟩
    have HN:=qid hn;clear hn;go_wp2_with (first
     |(go_at_call 144;(with_reducible refine(bI.out _).mono ?_);rintro e w1 ⟨rfl,aJ⟩;obtain rfl:=aJ.symm)
     |(go_at_call 147;(with_reducible refine(bM.out _).mono ?_);rintro e w1 ⟨rfl,aJ⟩;obtain rfl:=aJ.symm))
    go_round
    case rel=>exact⟨i1,HN.out.1,rfl,.inr HN.out.2⟩
    case measure=>have:=aQ.out;simp[intOf];omega
   |false=>
    have jz:(i=a1∧E=i)∨(((a1:Int)<(i:Int))∧bd=false∧E=i)∨(((a1:Int)<(i:Int))∧bd=true∧i1≤s.size∧a1<i1∧E=i1+aT Jh (s.data.toList.drop i1)):=by
     have h1:=aQ.out;rcases HV.out with⟨e,h⟩|⟨e,h⟩
     ·left
      rw[HD.out,Jn,if_neg (by rw[bz.out];decide)]at h
      exact⟨e,by omega⟩
     ·right
      rw[HD.out,ii,CW.out,h1]at h
      cases bd with
      |false=>left;rw[if_neg (by decide)]at h;exact⟨by omega,rfl,by omega⟩
      |true=>right;rw[if_pos (by decide)]at h;exact⟨by omega,rfl,by omega,by omega,by omega⟩
    rcases jz with⟨rfl,h⟩|⟨CX,rfl,h⟩|⟨CX,rfl,h⟩
    ·have CX:¬((i:Int)<(i:Int)):=by omega
     have he:R=if z=36 then(i1:Int)else -1:=by
      rw[HR.out,h,j2.out];have h1:=aQ.out;have h2:=HZ.out
      by_cases cA:c=36
      ·rw[if_pos (by rw[cA]),if_pos (by rw[←h2,cA];rfl)];omega
      ·rw[if_neg (by intro hh;injection hh with hh;exact cA hh),if_neg (by intro hh;exact cA (UInt8.toNat_inj.1 (by show _=36;omega)))]
     have wR:=qid he;clear he h mq
     by_cases cA:z=36
     ·subst cA
      go_wp2_with (first
       |(go_at_call 144;(with_reducible refine(bI.out _).mono ?_);rintro e w1 ⟨rfl,aJ⟩;obtain rfl:=aJ.symm)
       |(go_at_call 147;(with_reducible refine(bM.out _).mono ?_);rintro e w1 ⟨rfl,aJ⟩;obtain rfl:=aJ.symm))
      go_ret;exact⟨by rw[wR.out];rfl,rfl⟩
     ·have wP:(z==(36:Int))=false:=by rw[beq_eq_false_iff_ne];exact cA
      have oB:=qid cA;clear cA;go_wp2_with (first
       |(go_at_call 144;(with_reducible refine(bI.out _).mono ?_);rintro e w1 ⟨rfl,aJ⟩;obtain rfl:=aJ.symm)
       |(go_at_call 147;(with_reducible refine(bM.out _).mono ?_);rintro e w1 ⟨rfl,aJ⟩;obtain rfl:=aJ.symm))
      go_ret;exact⟨by rw[wR.out,if_neg oB.out];rfl,rfl⟩
    ·have he:R=if z=36 then(i1:Int)else -1:=by
      rw[HR.out,h,j2.out];have h1:=aQ.out;have h2:=HZ.out
      by_cases cA:c=36
      ·rw[if_pos (by rw[cA]),if_pos (by rw[←h2,cA];rfl)];omega
      ·rw[if_neg (by intro hh;injection hh with hh;exact cA hh),if_neg (by intro hh;exact cA (UInt8.toNat_inj.1 (by show _=36;omega)))]
     have wR:=qid he;clear he h mq
     by_cases cA:z=36
     ·subst cA
      go_wp2_with (first
       |(go_at_call 144;(with_reducible refine(bI.out _).mono ?_);rintro e w1 ⟨rfl,aJ⟩;obtain rfl:=aJ.symm)
       |(go_at_call 147;(with_reducible refine(bM.out _).mono ?_);rintro e w1 ⟨rfl,aJ⟩;obtain rfl:=aJ.symm))
      go_ret;exact⟨by rw[wR.out];rfl,rfl⟩
     ·have wP:(z==(36:Int))=false:=by rw[beq_eq_false_iff_ne];exact cA
      have oB:=qid cA;clear cA;go_wp2_with (first
       |(go_at_call 144;(with_reducible refine(bI.out _).mono ?_);rintro e w1 ⟨rfl,aJ⟩;obtain rfl:=aJ.symm)
       |(go_at_call 147;(with_reducible refine(bM.out _).mono ?_);rintro e w1 ⟨rfl,aJ⟩;obtain rfl:=aJ.symm))
      go_ret;exact⟨by rw[wR.out,if_neg oB.out];rfl,rfl⟩
    ·have HN:=qid h
     clear h;go_wp2_with (first
      |(go_at_call 144;(with_reducible refine(bI.out _).mono ?_);rintro e w1 ⟨rfl,aJ⟩;obtain rfl:=aJ.symm)
      |(go_at_call 147;(with_reducible refine(bM.out _).mono ?_);rintro e w1 ⟨rfl,aJ⟩;obtain rfl:=aJ.symm))
     go_round
     case rel=>exact⟨i1,HN.out.1,rfl,.inr HN.out.2⟩
     case measure=>have:=aQ.out;simp[intOf];omega
  ·have m1:¬((i:Int)<(s.size:Int)):=by omega
   have hd:=Jm s i aD;have hn:R= -1:=by
    have he:E=i:=by
     rcases HV.out with⟨e,h⟩|⟨e,h⟩
     ·rw[hd]at h;exact h
     ·rw[hd]at h;exact h
    rw[HR.out,he,hd];rfl
   have HN:=qid hn;clear hn hd mq;go_wp2;go_ret;exact⟨by rw[HN.out];rfl,rfl⟩
end Go.Proofs.YtpgddamhdfmdjaaGreatDoor
