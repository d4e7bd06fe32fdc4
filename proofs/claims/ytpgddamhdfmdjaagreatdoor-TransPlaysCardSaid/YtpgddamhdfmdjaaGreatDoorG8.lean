/- Lzg Lzh Lzi Lxz Lyb Lzj Lzk Lzl Lzm Lzn Lzp Lyc Lzq Lzr Lzs Lzt Nma Nmp Nmb Nmc Nmd Nme Nmf Nmg Nmh Nmi -/
import Derived.Test.YtpgddamhdfmdjaaGreatDoorG7
import Derived.Test.YtpgddamhdfmdjaaGreatDoorG6
import Derived.KernelRfl
import Derived.WalkMore
import Derived.BigQuiet
import Derived.RegionTactic
import Derived.Lib.SliceRun
import Derived.Test.YtpgddamhdfmdjaaGreatDoorG1
set_option linter.unusedSimpArgs false
set_option linter.unusedVariables false
set_option maxRecDepth 100000
set_option maxHeartbeats 16000000
namespace Go.Proofs.YtpgddamhdfmdjaaGreatDoor
open Go.ChangeShapes Go.WideShapes Go.ChangeAt Go.RowKit
def IN(s:ByteArray)(a t:Nat):Option (Tx×Nat):=
 if 0≤Lib.index (s.data.toList.drop t) (s.extract a t).data.toList then
  some ((s.data.toList.drop t).take (Lib.index (s.data.toList.drop t) (s.extract a t).data.toList).toNat,t+(Lib.index (s.data.toList.drop t) (s.extract a t).data.toList).toNat+(t-a))else none
theorem Jo(b:UInt8)(l m:Tx):Lib.index (b::l) m=if m.isPrefixOf (b::l)=true then 0 else if Lib.index l m= -1 then -1 else Lib.index l m+1:=by
 rw[Lib.index]
 by_cases h:m.isPrefixOf (b::l)=true
 ·rw[if_pos h,if_pos h]
 ·rw[if_neg h,if_neg h]
  by_cases h2:Lib.index l m= -1
  ·rw[if_pos h2,if_pos (by rw[h2];rfl)]
  ·rw[if_neg h2,if_neg (by rw[beq_iff_eq];exact h2)]
theorem Pi(m:Tx)(h:m≠[]):Lib.index [] m= -1:=by
 rw[Lib.index,if_neg]
 cases m with
 |nil=>exact absurd rfl h
 |cons=>simp
theorem Sy(s:ByteArray)(t i:Nat)(h:i≤s.size):s.extract t i=bb ((s.data.toList.drop t).take (i-t)):=by
 apply ByteArray.ext
 apply Array.ext'
 rw[ByteArray.data_extract,Array.toList_extract,List.extract_eq_take_drop]
theorem QW(s:ByteArray)(a t:Nat)(al:a<t)(ht:t≤s.size)(w:World)(hs:s.size≤1048000):
  Calls Tryz.prog 150 #[.string s,.int .i64 (a:Int),.int .i64 (t:Int)] w fun e w'=>e=.returned (qaN (IN s a t))∧w'=w:=by
 have ub:(s.extract a t).size≤1048000:=by rw[ByteArray.size_extract];omega
 have CY:(s.extract a t).data.toList≠[]:=by
  intro h;have:=congrArg List.length h;have e:(s.extract a t).data.toList.length=(s.extract a t).size:=rfl;rw[e,ByteArray.size_extract]at this;simp at this;omega
 have ah:=fun i hi w=>KK s (s.extract a t) i w (by omega) (by omega) hi
 obtain⟨D,hD⟩:∃D,Lib.index (s.data.toList.drop t) (s.extract a t).data.toList=D:=⟨_,rfl⟩;have hR:IN s a t=if 0≤D then some ((s.data.toList.drop t).take D.toNat,t+D.toNat+(t-a))else none:=by rw[←hD];rfl
 obtain⟨R,pS⟩:∃R,IN s a t=R:=⟨_,rfl⟩;rw[pS]at hR;rw[pS];have l0:(0:Int)≤(a:Int):=by omega
 have l1:(a:Int)≤(t:Int):=by omega
 have l2:(t:Int)≤(s.size:Int):=by omega
 have hge:=Lib.index_ge;obtain⟨HR,HD,aY,CZ⟩:=hZ4 hR hD ah CY;clear hR pS hD ah CY hge;go_enter Tryz.func150,Tryz.ntmps150;go_wp2
 go_loop [8] (fun rm=>∃i:Nat,t≤i∧i≤s.size+1∧rm=.int .i64 i∧((i≤s.size∧D=if Lib.index (s.data.toList.drop i) (s.extract a t).data.toList= -1 then -1 else((i-t:Nat):Int)+Lib.index (s.data.toList.drop i) (s.extract a t).data.toList)∨(s.size<i∧D= -1))) (fun rm=>s.size+1-(intOf rm).toNat)
 case atStart=>
  refine⟨t,Nat.le_refl _,by omega,rfl,.inl ⟨ht,?_⟩⟩
  rw[HD.out,Nat.sub_self]
  by_cases h:D= -1
  ·rw[if_pos h];exact h
  ·rw[if_neg h];omega
 case round=>
  obtain⟨i,vK,hi,rfl,hv⟩:=hrel;have HV:=qid hv;clear hv HD
  by_cases hle:i≤s.size
  ·have m1:(i:Int)≤(s.size:Int):=by omega
   have m2:(t:Int)≤(i:Int):=by omega
   have m0:(0:Int)≤(i:Int):=by omega
   have e8:=aY.out i hle;have hv:D=if Lib.index (s.data.toList.drop i) (s.extract a t).data.toList= -1 then -1 else((i-t:Nat):Int)+Lib.index (s.data.toList.drop i) (s.extract a t).data.toList:=by
    rcases HV.out with⟨_,h⟩|⟨h,_⟩
    ·exact h
    ·omega
   cases hb:(s.extract a t).data.toList.isPrefixOf (s.data.toList.drop i)with
   |true=>
    rw[hb]at e8;have aD:i<s.size:=by
     rcases Nat.lt_or_ge i s.size with h|h
     ·exact h
     ·rw[Jm s i (by omega)]at hb
      have:=(List.isPrefixOf_iff_prefix.1 hb).length_le;exact absurd (List.eq_nil_of_length_eq_zero (by simpa using this)) CZ.out
    have wS:Lib.index (s.data.toList.drop i) (s.extract a t).data.toList=0:=by
     rw[f8 s i aD]at hb⊢;rw[Jo,if_pos hb]
    rw[wS,if_neg (by omega)]at hv
    have hn:R=some ((s.data.toList.drop t).take (i-t),i+(t-a)):=by
     have FQ:D.toNat=i-t:=by omega
     rw[HR.out,if_pos (by omega),FQ]
     congr 2
     omega
    have eL:=Sy s t i hle;obtain⟨b,je⟩:∃b,i+t=b:=⟨_,rfl⟩;obtain⟨c,pH⟩:∃c,i+(t-a)=c:=⟨_,rfl⟩;have zn:IntKind.i64.wrap ((i:Int)+(t:Int))=(b:Int):=by rw[show(i:Int)+(t:Int)=(b:Int) by omega];exact IntWalk.i64_in _ (by omega)
    have zk:IntKind.i64.wrap ((b:Int)-(a:Int))=(c:Int):=by rw[show(b:Int)-(a:Int)=(c:Int) by omega];exact IntWalk.i64_in _ (by omega)
    rw[pH]at hn;obtain⟨HN,FR,HC⟩:=hZ3 hn eL e8;clear hv hb wS hn eL je pH e8 HV;go_wp2_with (go_at_call 142;(with_reducible refine(HC.out _).mono ?_);rintro e w1 ⟨rfl,aJ⟩;obtain rfl:=aJ.symm)
    go_ret2
    exact⟨by rw[HN.out,FR.out];rfl,rfl⟩
   |false=>
    rw[hb]at e8;have hn:((i+1≤s.size∧D=if Lib.index (s.data.toList.drop (i+1)) (s.extract a t).data.toList= -1 then -1 else((i+1-t:Nat):Int)+Lib.index (s.data.toList.drop (i+1)) (s.extract a t).data.toList)∨(s.size<i+1∧D= -1)):=by
     by_cases aD:i<s.size
     ·left
      refine⟨aD,?_⟩;have sX:Lib.index (s.data.toList.drop i) (s.extract a t).data.toList=if Lib.index (s.data.toList.drop (i+1)) (s.extract a t).data.toList= -1 then -1 else Lib.index (s.data.toList.drop (i+1)) (s.extract a t).data.toList+1:=by
       rw[f8 s i aD]at hb⊢;rw[Jo,if_neg];rw[hb];simp
      rw[sX]at hv
      by_cases h1:Lib.index (s.data.toList.drop (i+1)) (s.extract a t).data.toList= -1
      ·rw[if_pos h1,if_pos rfl]at hv;rw[if_pos h1];exact hv
      ·have hge:=Lib.index_ge (s.data.toList.drop (i+1)) (s.extract a t).data.toList
       rw[if_neg h1,if_neg (by omega)]at hv
       rw[if_neg h1];omega
     ·right
      rw[Jm s i aD,Pi _ CZ.out,if_pos rfl]at hv;exact⟨by omega,hv⟩
    obtain⟨HN,HC⟩:=hZ2 hn e8;clear hv hb hn e8 HV;go_wp2_with (go_at_call 142;(with_reducible refine(HC.out _).mono ?_);rintro e w1 ⟨rfl,aJ⟩;obtain rfl:=aJ.symm)
    go_round
    case rel=>exact⟨i+1,by omega,by omega,by go_num,HN.out⟩
    case measure=>simp[intOf];omega
  ·have m1:¬((i:Int)≤(s.size:Int)):=by omega
   have hn:R=none:=by
    rcases HV.out with⟨h,_⟩|⟨_,h⟩
    ·omega
    ·rw[HR.out,if_neg (by omega)]
   have HN:=qid hn;clear hn HV;go_wp2
   go_ret2
   exact⟨by rw[HN.out];rfl,rfl⟩
def LM(w:World)(r:Tok×Nat×Int)(e:Ending)(w':World):Prop:=
 e=.returned (.tuple #[.agg #[.int .i64 r.1.1,.string r.1.2.1,.int .i64 r.1.2.2],.int .i64 (r.2.1:Int),.int .i64 r.2.2])∧Below w.heap.size w w'
theorem Hm.tok(w:World):Hm w (w.alloc (.cells #[.int .i64 0,.string ⟨#[]⟩,.int .i64 0] 120)):=
 ⟨(Below.refl _ _).alloc (Nat.le_refl _) _,by simp,by simp[go_sem],by simp[go_sem],by simp[go_sem],by simp[go_sem],by simp[go_sem],by simp[go_sem]⟩
theorem I4(s:ByteArray)(p:UInt8→Bool)(a:Nat)(ha:a≤s.size):a+aT p (s.data.toList.drop a)≤s.size:=by
 have:=Iw p (s.data.toList.drop a);rw[List.length_drop]at this;have e:s.size=s.data.toList.length:=rfl;omega
theorem YN(s:ByteArray)(a:Nat)(ha:a<s.size)(w:World)(hs:s.size≤1048000)(hl:n8 s[a]=true)(E:Nat)(hE:a+aT i8 (s.data.toList.drop a)=E):
  Calls Tryz.prog 103 #[.string s,.int .i64 (a:Int)] w (LM w ((1,Hn (s.extract a E),(a:Int)),E,0)):=by
 have l0:(0:Int)≤(a:Int):=by omega
 have l1:(a:Int)<(s.size:Int):=by omega
 obtain⟨z,hz⟩:∃z:Int,((s[a]'ha).toNat:Int)=z:=⟨_,rfl⟩;have jS:∀w,Calls Tryz.prog 144 #[.int .u8 z] w fun e w'=>e=.returned (.bool true)∧w'=w:=by
  intro w;have:=K8 z w;rw[show Hu z=true by rw[←hz];exact hl]at this
  exact this
 have fg:∀w,Calls Tryz.prog 145 #[.string s,.int .i64 (a:Int),.int .i64 1] w fun e w'=>e=.returned (.int .i64 (E:Int))∧w'=w:=by
  intro w;have:=QS s a 1 (.inl rfl) w (by omega) (by omega)
  rw[show Ku 1=i8 from rfl,hE]at this;exact this
 have e1:(a:Int)≤(E:Int):=by omega
 have e2:(E:Int)≤(s.size:Int):=by have:=I4 s i8 a (by omega);omega
 have sW:=fun w=>Sx (s.extract a E) (by rw[ByteArray.size_extract];omega) w
 obtain⟨bI,gq,FT⟩:=hZ3 jS fg sW;have HO:=qid (Hm.tok w);clear jS fg sW hE hl;go_enter Tryz.func103,Tryz.ntmps103;go_wp2_with (first
  |(go_at_call 144;(with_reducible refine(bI.out _).mono ?_);rintro e w1 ⟨rfl,aJ⟩;obtain rfl:=aJ.symm)
  |(go_at_call 145;(with_reducible refine(gq.out _).mono ?_);rintro e w1 ⟨rfl,aJ⟩;obtain rfl:=aJ.symm)
  |(go_at_call 146;(with_reducible refine(FT.out _).mono ?_);rintro e w2 ⟨rfl,aA⟩;have F1:=HO.out.step aA;obtain⟨hB,hL,k0,k1,k2,f0,f1,f2⟩:=id F1))
 refine bodyPost_ret (v:=.tuple #[.agg #[.int .i64 1,.string (Hn (s.extract a E)),.int .i64 (a:Int)],.int .i64 (E:Int),.int .i64 0]) (by simp[results,Tryz.results103,go_sem,k0,k1,k2]) rfl ?_
 refine⟨rfl,((hB.setCell ?_ _).setCell ?_ _).setCell ?_ _⟩<;>exact Nat.le_refl _
theorem Hx(z:Int)(b:Bool)(h:Hu z=b):∀w,Calls Tryz.prog 144 #[.int .u8 z] w fun e w'=>e=.returned (.bool b)∧w'=w:=by
 subst h;exact K8 z
theorem Hy(z:Int)(b:Bool)(h:Hh z=b):∀w,Calls Tryz.prog 147 #[.int .u8 z] w fun e w'=>e=.returned (.bool b)∧w'=w:=by
 subst h;exact MQ z
theorem Pj(s:ByteArray)(a:Nat)(k:Int)(hk:k=1∨k=4∨k=0)(hs:s.size≤1048576)(ha:a≤s.size)(E:Nat)(hE:a+aT (Ku k) (s.data.toList.drop a)=E):
  ∀w,Calls Tryz.prog 145 #[.string s,.int .i64 (a:Int),.int .i64 k] w fun e w'=>e=.returned (.int .i64 (E:Int))∧w'=w:=by
 subst hE;exact fun w=>QS s a k hk w hs ha
theorem Me(s:ByteArray)(a:Nat)(ha:a<s.size)(hs:s.size≤1048000)(v:Value)(h:qaN (Ge s a s[a])=v):
  ∀w,Calls Tryz.prog 148 #[.string s,.int .i64 (a:Int)] w fun e w'=>e=.returned v∧w'=w:=by
 subst h;exact fun w=>QV s a ha w hs
theorem Mf(s:ByteArray)(a:Nat)(ha:a<s.size)(hs:s.size≤1048000)(t:Int)(h:n7 s a=t):
  ∀w,Calls Tryz.prog 149 #[.string s,.int .i64 (a:Int)] w fun e w'=>e=.returned (.int .i64 t)∧w'=w:=by
 subst h;exact fun w=>YM s a ha w hs
theorem Ua(s:ByteArray)(a t:Nat)(al:a<t)(ht:t≤s.size)(hs:s.size≤1048000)(v:Value)(h:qaN (IN s a t)=v):
  ∀w,Calls Tryz.prog 150 #[.string s,.int .i64 (a:Int),.int .i64 (t:Int)] w fun e w'=>e=.returned v∧w'=w:=by
 subst h;exact fun w=>QW s a t al ht w hs
theorem Nh(c:UInt8)(z:Int)(hz:(c.toNat:Int)=z)(b:Bool)(h:decide (0≤Hi c)=b):∀w,Calls Tryz.prog 151 #[.int .u8 z] w fun e w'=>e=.returned (.bool b)∧w'=w:=by
 subst hz h;exact V2 c
theorem qaS(s:ByteArray)(a:Nat)(ha:a<s.size)(w:World)(hs:s.size≤1048000)(hl:n8 s[a]=false)(hd:a9 s[a]=true)(E:Nat)(hE:a+aT He (s.data.toList.drop a)=E):
  Calls Tryz.prog 103 #[.string s,.int .i64 (a:Int)] w (LM w ((4,s.extract a E,(a:Int)),E,0)):=by
 have l0:(0:Int)≤(a:Int):=by omega
 have l1:(a:Int)<(s.size:Int):=by omega
 obtain⟨z,hz⟩:∃z:Int,((s[a]'ha).toNat:Int)=z:=⟨_,rfl⟩;have bI:=qid (Hx z false (by first|rfl|(rw[←hz];exact hl)))
 have bM:=qid (Hy z true (by rw[←hz];exact hd))
 have gq:=qid (Pj s a 4 (.inr (.inl rfl)) (by omega) (by omega) E hE)
 have e1:(a:Int)≤(E:Int):=by omega
 have e2:(E:Int)≤(s.size:Int):=by have:=I4 s He a (by omega);omega
 clear hl hd hE;go_enter Tryz.func103,Tryz.ntmps103;go_wp2_with (first
  |(go_at_call 144;(with_reducible refine(bI.out _).mono ?_);rintro e w1 ⟨rfl,aJ⟩;obtain rfl:=aJ.symm)
  |(go_at_call 147;(with_reducible refine(bM.out _).mono ?_);rintro e w1 ⟨rfl,aJ⟩;obtain rfl:=aJ.symm)
  |(go_at_call 145;(with_reducible refine(gq.out _).mono ?_);rintro e w1 ⟨rfl,aJ⟩;obtain rfl:=aJ.symm))
 refine bodyPost_ret (v:=.tuple #[.agg #[.int .i64 4,.string (s.extract a E),.int .i64 (a:Int)],.int .i64 ((E:Nat):Int),.int .i64 0]) (by simp[results,Tryz.results103,go_sem]) rfl ?_
 exact⟨rfl,(Below.refl _ _).alloc (Nat.le_refl _) _⟩
theorem Pk(s:ByteArray)(a:Nat)(ha:a<s.size)(w:World)(hs:s.size≤1048000)(hc:s[a]=34)(hq:Ge s a 34=none):
  Calls Tryz.prog 103 #[.string s,.int .i64 (a:Int)] w (LM w ((0,⟨#[]⟩,0),0,6)):=by
 have l0:(0:Int)≤(a:Int):=by omega
 have l1:(a:Int)<(s.size:Int):=by omega
 have jh:((s[a]'ha).toNat:Int)=34:=by rw[hc];rfl
 have bI:=qid (Hx 34 false (by decide))
 have bM:=qid (Hy 34 false (by decide))
 have kG:=qid (Me s a ha hs (.tuple #[.string ⟨#[]⟩,.int .i64 (-1)]) (by rw[hc,hq];rfl))
 clear hc hq;go_enter Tryz.func103,Tryz.ntmps103;go_wp2_with (first
  |(go_at_call 144;(with_reducible refine(bI.out _).mono ?_);rintro e w1 ⟨rfl,aJ⟩;obtain rfl:=aJ.symm)
  |(go_at_call 147;(with_reducible refine(bM.out _).mono ?_);rintro e w1 ⟨rfl,aJ⟩;obtain rfl:=aJ.symm)
  |(go_at_call 148;(with_reducible refine(kG.out _).mono ?_);rintro e w1 ⟨rfl,aJ⟩;obtain rfl:=aJ.symm))
 refine bodyPost_ret (v:=.tuple #[.agg #[.int .i64 0,.string ⟨#[]⟩,.int .i64 0],.int .i64 ((0:Nat):Int),.int .i64 6]) (by simp[results,Tryz.results103,go_sem]) rfl ?_
 exact⟨rfl,(Below.refl _ _).alloc (Nat.le_refl _) _⟩
theorem NC(s:ByteArray)(a:Nat)(ha:a<s.size)(w:World)(hs:s.size≤1048000)(hc:s[a]=34)(t:Tx)(n:Nat)(hq:Ge s a 34=some (t,n)):
  Calls Tryz.prog 103 #[.string s,.int .i64 (a:Int)] w (LM w ((2,bb t,(a:Int)),n,0)):=by
 have l0:(0:Int)≤(a:Int):=by omega
 have l1:(a:Int)<(s.size:Int):=by omega
 have jh:((s[a]'ha).toNat:Int)=34:=by rw[hc];rfl
 have bI:=qid (Hx 34 false (by decide))
 have bM:=qid (Hy 34 false (by decide))
 have kG:=qid (Me s a ha hs (.tuple #[.string (bb t),.int .i64 (n:Int)]) (by rw[hc,hq];rfl))
 have hn:¬((n:Int)<0):=by omega
 clear hc hq;go_enter Tryz.func103,Tryz.ntmps103;go_wp2_with (first
  |(go_at_call 144;(with_reducible refine(bI.out _).mono ?_);rintro e w1 ⟨rfl,aJ⟩;obtain rfl:=aJ.symm)
  |(go_at_call 147;(with_reducible refine(bM.out _).mono ?_);rintro e w1 ⟨rfl,aJ⟩;obtain rfl:=aJ.symm)
  |(go_at_call 148;(with_reducible refine(kG.out _).mono ?_);rintro e w1 ⟨rfl,aJ⟩;obtain rfl:=aJ.symm))
 refine bodyPost_ret (v:=.tuple #[.agg #[.int .i64 2,.string (bb t),.int .i64 (a:Int)],.int .i64 ((n:Nat):Int),.int .i64 0]) (by simp[results,Tryz.results103,go_sem]) rfl ?_
 exact⟨rfl,(Below.refl _ _).alloc (Nat.le_refl _) _⟩
theorem Pm(s:ByteArray)(a:Nat)(ha:a<s.size)(w:World)(hs:s.size≤1048000)(hc:s[a]=39)(hq:Ge s a 39=none):
  Calls Tryz.prog 103 #[.string s,.int .i64 (a:Int)] w (LM w ((0,⟨#[]⟩,0),0,6)):=by
 have l0:(0:Int)≤(a:Int):=by omega
 have l1:(a:Int)<(s.size:Int):=by omega
 have jh:((s[a]'ha).toNat:Int)=39:=by rw[hc];rfl
 have bI:=qid (Hx 39 false (by decide))
 have bM:=qid (Hy 39 false (by decide))
 have kG:=qid (Me s a ha hs (.tuple #[.string ⟨#[]⟩,.int .i64 (-1)]) (by rw[hc,hq];rfl))
 clear hc hq;go_enter Tryz.func103,Tryz.ntmps103;go_wp2_with (first
  |(go_at_call 144;(with_reducible refine(bI.out _).mono ?_);rintro e w1 ⟨rfl,aJ⟩;obtain rfl:=aJ.symm)
  |(go_at_call 147;(with_reducible refine(bM.out _).mono ?_);rintro e w1 ⟨rfl,aJ⟩;obtain rfl:=aJ.symm)
  |(go_at_call 148;(with_reducible refine(kG.out _).mono ?_);rintro e w1 ⟨rfl,aJ⟩;obtain rfl:=aJ.symm))
 refine bodyPost_ret (v:=.tuple #[.agg #[.int .i64 0,.string ⟨#[]⟩,.int .i64 0],.int .i64 ((0:Nat):Int),.int .i64 6]) (by simp[results,Tryz.results103,go_sem]) rfl ?_
 exact⟨rfl,(Below.refl _ _).alloc (Nat.le_refl _) _⟩
theorem NE(s:ByteArray)(a:Nat)(ha:a<s.size)(w:World)(hs:s.size≤1048000)(hc:s[a]=39)(t:Tx)(n:Nat)(hq:Ge s a 39=some (t,n)):
  Calls Tryz.prog 103 #[.string s,.int .i64 (a:Int)] w (LM w ((3,bb t,(a:Int)),n,0)):=by
 have l0:(0:Int)≤(a:Int):=by omega
 have l1:(a:Int)<(s.size:Int):=by omega
 have jh:((s[a]'ha).toNat:Int)=39:=by rw[hc];rfl
 have bI:=qid (Hx 39 false (by decide))
 have bM:=qid (Hy 39 false (by decide))
 have kG:=qid (Me s a ha hs (.tuple #[.string (bb t),.int .i64 (n:Int)]) (by rw[hc,hq];rfl))
 have hn:¬((n:Int)<0):=by omega
 clear hc hq;go_enter Tryz.func103,Tryz.ntmps103;go_wp2_with (first
  |(go_at_call 144;(with_reducible refine(bI.out _).mono ?_);rintro e w1 ⟨rfl,aJ⟩;obtain rfl:=aJ.symm)
  |(go_at_call 147;(with_reducible refine(bM.out _).mono ?_);rintro e w1 ⟨rfl,aJ⟩;obtain rfl:=aJ.symm)
  |(go_at_call 148;(with_reducible refine(kG.out _).mono ?_);rintro e w1 ⟨rfl,aJ⟩;obtain rfl:=aJ.symm))
 refine bodyPost_ret (v:=.tuple #[.agg #[.int .i64 3,.string (bb t),.int .i64 (a:Int)],.int .i64 ((n:Nat):Int),.int .i64 0]) (by simp[results,Tryz.results103,go_sem]) rfl ?_
 exact⟨rfl,(Below.refl _ _).alloc (Nat.le_refl _) _⟩
theorem Sz(s:ByteArray)(a:Nat)(ha:a<s.size)(w:World)(hs:s.size≤1048000)(hc:s[a]=36)(t:Nat)(al:a<t)(dq:t≤s.size)(ht:n7 s a=(t:Int))(hq:IN s a t=none):
  Calls Tryz.prog 103 #[.string s,.int .i64 (a:Int)] w (LM w ((0,⟨#[]⟩,0),0,6)):=by
 have l0:(0:Int)≤(a:Int):=by omega
 have l1:(a:Int)<(s.size:Int):=by omega
 have jh:((s[a]'ha).toNat:Int)=36:=by rw[hc];rfl
 have bI:=qid (Hx 36 false (by decide))
 have bM:=qid (Hy 36 false (by decide))
 have kH:=qid (Mf s a ha hs (t:Int) ht);have ru:=qid (Ua s a t al dq hs (.tuple #[.string ⟨#[]⟩,.int .i64 (-1)]) (by rw[hq];rfl))
 have uA:(0:Int)<(t:Int):=by omega
 clear hc hq ht al dq;go_enter Tryz.func103,Tryz.ntmps103;go_wp2_with (first
  |(go_at_call 144;(with_reducible refine(bI.out _).mono ?_);rintro e w1 ⟨rfl,aJ⟩;obtain rfl:=aJ.symm)
  |(go_at_call 147;(with_reducible refine(bM.out _).mono ?_);rintro e w1 ⟨rfl,aJ⟩;obtain rfl:=aJ.symm)
  |(go_at_call 149;(with_reducible refine(kH.out _).mono ?_);rintro e w1 ⟨rfl,aJ⟩;obtain rfl:=aJ.symm)
  |(go_at_call 150;(with_reducible refine(ru.out _).mono ?_);rintro e w1 ⟨rfl,aJ⟩;obtain rfl:=aJ.symm))
 refine bodyPost_ret (v:=.tuple #[.agg #[.int .i64 0,.string ⟨#[]⟩,.int .i64 0],.int .i64 ((0:Nat):Int),.int .i64 6]) (by simp[results,Tryz.results103,go_sem]) rfl ?_
 exact⟨rfl,(Below.refl _ _).alloc (Nat.le_refl _) _⟩
theorem QX(s:ByteArray)(a:Nat)(ha:a<s.size)(w:World)(hs:s.size≤1048000)(hc:s[a]=36)(t:Nat)(al:a<t)(dq:t≤s.size)(ht:n7 s a=(t:Int))(x:Tx)(n:Nat)(hq:IN s a t=some (x,n)):
  Calls Tryz.prog 103 #[.string s,.int .i64 (a:Int)] w (LM w ((3,bb x,(a:Int)),n,0)):=by
 have l0:(0:Int)≤(a:Int):=by omega
 have l1:(a:Int)<(s.size:Int):=by omega
 have jh:((s[a]'ha).toNat:Int)=36:=by rw[hc];rfl
 have bI:=qid (Hx 36 false (by decide))
 have bM:=qid (Hy 36 false (by decide))
 have kH:=qid (Mf s a ha hs (t:Int) ht);have ru:=qid (Ua s a t al dq hs (.tuple #[.string (bb x),.int .i64 (n:Int)]) (by rw[hq];rfl))
 have uA:(0:Int)<(t:Int):=by omega
 have hn:¬((n:Int)<0):=by omega
 clear hc hq ht al dq;go_enter Tryz.func103,Tryz.ntmps103;go_wp2_with (first
  |(go_at_call 144;(with_reducible refine(bI.out _).mono ?_);rintro e w1 ⟨rfl,aJ⟩;obtain rfl:=aJ.symm)
  |(go_at_call 147;(with_reducible refine(bM.out _).mono ?_);rintro e w1 ⟨rfl,aJ⟩;obtain rfl:=aJ.symm)
  |(go_at_call 149;(with_reducible refine(kH.out _).mono ?_);rintro e w1 ⟨rfl,aJ⟩;obtain rfl:=aJ.symm)
  |(go_at_call 150;(with_reducible refine(ru.out _).mono ?_);rintro e w1 ⟨rfl,aJ⟩;obtain rfl:=aJ.symm))
 refine bodyPost_ret (v:=.tuple #[.agg #[.int .i64 3,.string (bb x),.int .i64 (a:Int)],.int .i64 ((n:Nat):Int),.int .i64 0]) (by simp[results,Tryz.results103,go_sem]) rfl ?_
 exact⟨rfl,(Below.refl _ _).alloc (Nat.le_refl _) _⟩
theorem qaT(s:ByteArray)(a:Nat)(ha:a<s.size)(w:World)(hs:s.size≤1048000)(hc:s[a]=36)(ht:n7 s a= -1)(E:Nat)(hE:a+1+aT a9 (s.data.toList.drop (a+1))=E)(hp:a+1<E):
  Calls Tryz.prog 103 #[.string s,.int .i64 (a:Int)] w (LM w ((5,s.extract a E,(a:Int)),E,0)):=by
 have l0:(0:Int)≤(a:Int):=by omega
 have l1:(a:Int)<(s.size:Int):=by omega
 have jh:((s[a]'ha).toNat:Int)=36:=by rw[hc];rfl
 have bI:=qid (Hx 36 false (by decide))
 have bM:=qid (Hy 36 false (by decide))
 obtain⟨a1,ee⟩:∃a1,a+1=a1:=⟨_,rfl⟩;have cw:IntKind.i64.wrap ((a:Int)+1)=(a1:Int):=by rw[show(a:Int)+1=(a1:Int) by omega];exact IntWalk.i64_in _ (by omega)
 rw[ee]at hE hp;have kH:=qid (Mf s a ha hs (-1) ht);have gq:=qid (Pj s a1 0 (.inr (.inr rfl)) (by omega) (by omega) E hE)
 have sD:(a1:Int)<(E:Int):=by omega
 have e1:(a:Int)≤(E:Int):=by omega
 have e2:(E:Int)≤(s.size:Int):=by have:=I4 s a9 a1 (by omega);omega
 have fJ:=qid ee;clear hc ht hE hp ee;go_enter Tryz.func103,Tryz.ntmps103;go_wp2_with (first
  |(go_at_call 144;(with_reducible refine(bI.out _).mono ?_);rintro e w1 ⟨rfl,aJ⟩;obtain rfl:=aJ.symm)
  |(go_at_call 147;(with_reducible refine(bM.out _).mono ?_);rintro e w1 ⟨rfl,aJ⟩;obtain rfl:=aJ.symm)
  |(go_at_call 149;(with_reducible refine(kH.out _).mono ?_);rintro e w1 ⟨rfl,aJ⟩;obtain rfl:=aJ.symm)
  |(go_at_call 145;(with_reducible refine(gq.out _).mono ?_);rintro e w1 ⟨rfl,aJ⟩;obtain rfl:=aJ.symm))
 refine bodyPost_ret (v:=.tuple #[.agg #[.int .i64 5,.string (s.extract a E),.int .i64 (a:Int)],.int .i64 ((E:Nat):Int),.int .i64 0]) (by simp[results,Tryz.results103,go_sem]) rfl ?_
 exact⟨rfl,(Below.refl _ _).alloc (Nat.le_refl _) _⟩
theorem Pn(s:ByteArray)(a:Nat)(ha:a<s.size)(w:World)(hs:s.size≤1048000)(hc:s[a]=36)(ht:n7 s a= -1)(hp:aT a9 (s.data.toList.drop (a+1))=0):
  Calls Tryz.prog 103 #[.string s,.int .i64 (a:Int)] w (LM w ((0,⟨#[]⟩,0),0,7)):=by
 have l0:(0:Int)≤(a:Int):=by omega
 have l1:(a:Int)<(s.size:Int):=by omega
 have jh:((s[a]'ha).toNat:Int)=36:=by rw[hc];rfl
 have bI:=qid (Hx 36 false (by decide))
 have bM:=qid (Hy 36 false (by decide))
 obtain⟨a1,ee⟩:∃a1,a+1=a1:=⟨_,rfl⟩;have cw:IntKind.i64.wrap ((a:Int)+1)=(a1:Int):=by rw[show(a:Int)+1=(a1:Int) by omega];exact IntWalk.i64_in _ (by omega)
 rw[ee]at hp;have kH:=qid (Mf s a ha hs (-1) ht);have gq:=qid (Pj s a1 0 (.inr (.inr rfl)) (by omega) (by omega) a1 (by rw[show Ku 0=a9 from rfl,hp];rfl))
 have mr:=qid (Nh s[a] 36 jh false (by rw[hc];decide))
 have sD:¬((a1:Int)<(a1:Int)):=by omega
 have fJ:=qid ee;clear hc ht hp ee;go_enter Tryz.func103,Tryz.ntmps103;go_wp2_with (first
  |(go_at_call 144;(with_reducible refine(bI.out _).mono ?_);rintro e w1 ⟨rfl,aJ⟩;obtain rfl:=aJ.symm)
  |(go_at_call 147;(with_reducible refine(bM.out _).mono ?_);rintro e w1 ⟨rfl,aJ⟩;obtain rfl:=aJ.symm)
  |(go_at_call 149;(with_reducible refine(kH.out _).mono ?_);rintro e w1 ⟨rfl,aJ⟩;obtain rfl:=aJ.symm)
  |(go_at_call 145;(with_reducible refine(gq.out _).mono ?_);rintro e w1 ⟨rfl,aJ⟩;obtain rfl:=aJ.symm)
  |(go_at_call 151;(with_reducible refine(mr.out _).mono ?_);rintro e w1 ⟨rfl,aJ⟩;obtain rfl:=aJ.symm))
 refine bodyPost_ret (v:=.tuple #[.agg #[.int .i64 0,.string ⟨#[]⟩,.int .i64 0],.int .i64 ((0:Nat):Int),.int .i64 7]) (by simp[results,Tryz.results103,go_sem]) rfl ?_
 exact⟨rfl,(Below.refl _ _).alloc (Nat.le_refl _) _⟩
theorem QY(s:ByteArray)(a:Nat)(ha:a<s.size)(w:World)(hs:s.size≤1048000)(hl:n8 s[a]=false)(hd:a9 s[a]=false)(iL:s[a]≠34)(iM:s[a]≠39)(cA:s[a]≠36)(hg:0≤Hi s[a])(a1:Nat)(ee:a+1=a1):
  Calls Tryz.prog 103 #[.string s,.int .i64 (a:Int)] w (LM w ((5,s.extract a a1,(a:Int)),a1,0)):=by
 have l0:(0:Int)≤(a:Int):=by omega
 have l1:(a:Int)<(s.size:Int):=by omega
 obtain⟨z,hz⟩:∃z:Int,((s[a]'ha).toNat:Int)=z:=⟨_,rfl⟩;have bI:=qid (Hx z false (by first|rfl|(rw[←hz];exact hl)))
 have bM:=qid (Hy z false (by first|rfl|(rw[←hz];exact hd)))
 have FU:(z==(34:Int))=false:=by rw[beq_eq_false_iff_ne];intro h;exact iL (UInt8.toNat_inj.1 (by show _=34;omega))
 have FV:(z==(39:Int))=false:=by rw[beq_eq_false_iff_ne];intro h;exact iM (UInt8.toNat_inj.1 (by show _=39;omega))
 have wP:(z==(36:Int))=false:=by rw[beq_eq_false_iff_ne];intro h;exact cA (UInt8.toNat_inj.1 (by show _=36;omega))
 have cw:IntKind.i64.wrap ((a:Int)+1)=(a1:Int):=by rw[show(a:Int)+1=(a1:Int) by omega];exact IntWalk.i64_in _ (by omega)
 have mr:=qid (Nh s[a] z hz true (decide_eq_true hg));have e1:(a:Int)≤(a1:Int):=by omega
 have e2:(a1:Int)≤(s.size:Int):=by omega
 have fJ:=qid ee;clear hl hd iL iM cA hg ee;go_enter Tryz.func103,Tryz.ntmps103;go_wp2_with (first
  |(go_at_call 144;(with_reducible refine(bI.out _).mono ?_);rintro e w1 ⟨rfl,aJ⟩;obtain rfl:=aJ.symm)
  |(go_at_call 147;(with_reducible refine(bM.out _).mono ?_);rintro e w1 ⟨rfl,aJ⟩;obtain rfl:=aJ.symm)
  |(go_at_call 151;(with_reducible refine(mr.out _).mono ?_);rintro e w1 ⟨rfl,aJ⟩;obtain rfl:=aJ.symm))
 refine bodyPost_ret (v:=.tuple #[.agg #[.int .i64 5,.string (s.extract a a1),.int .i64 (a:Int)],.int .i64 ((a1:Nat):Int),.int .i64 0]) (by simp[results,Tryz.results103,go_sem]) rfl ?_
 exact⟨rfl,(Below.refl _ _).alloc (Nat.le_refl _) _⟩
theorem SA(s:ByteArray)(a:Nat)(ha:a<s.size)(w:World)(hs:s.size≤1048000)(hl:n8 s[a]=false)(hd:a9 s[a]=false)(iL:s[a]≠34)(iM:s[a]≠39)(cA:s[a]≠36)(hg:Hi s[a]<0):
  Calls Tryz.prog 103 #[.string s,.int .i64 (a:Int)] w (LM w ((0,⟨#[]⟩,0),0,7)):=by
 have l0:(0:Int)≤(a:Int):=by omega
 have l1:(a:Int)<(s.size:Int):=by omega
 obtain⟨z,hz⟩:∃z:Int,((s[a]'ha).toNat:Int)=z:=⟨_,rfl⟩;have bI:=qid (Hx z false (by first|rfl|(rw[←hz];exact hl)))
 have bM:=qid (Hy z false (by first|rfl|(rw[←hz];exact hd)))
 have FU:(z==(34:Int))=false:=by rw[beq_eq_false_iff_ne];intro h;exact iL (UInt8.toNat_inj.1 (by show _=34;omega))
 have FV:(z==(39:Int))=false:=by rw[beq_eq_false_iff_ne];intro h;exact iM (UInt8.toNat_inj.1 (by show _=39;omega))
 have wP:(z==(36:Int))=false:=by rw[beq_eq_false_iff_ne];intro h;exact cA (UInt8.toNat_inj.1 (by show _=36;omega))
 have mr:=qid (Nh s[a] z hz false (decide_eq_false (by omega)))
 clear hl hd iL iM cA hg;go_enter Tryz.func103,Tryz.ntmps103;go_wp2_with (first
  |(go_at_call 144;(with_reducible refine(bI.out _).mono ?_);rintro e w1 ⟨rfl,aJ⟩;obtain rfl:=aJ.symm)
  |(go_at_call 147;(with_reducible refine(bM.out _).mono ?_);rintro e w1 ⟨rfl,aJ⟩;obtain rfl:=aJ.symm)
  |(go_at_call 151;(with_reducible refine(mr.out _).mono ?_);rintro e w1 ⟨rfl,aJ⟩;obtain rfl:=aJ.symm))
 refine bodyPost_ret (v:=.tuple #[.agg #[.int .i64 0,.string ⟨#[]⟩,.int .i64 0],.int .i64 ((0:Nat):Int),.int .i64 7]) (by simp[results,Tryz.results103,go_sem]) rfl ?_
 exact⟨rfl,(Below.refl _ _).alloc (Nat.le_refl _) _⟩
def io(s:ByteArray):List Tok×Int×Int:=if 2000<s.size then([],2,2000)else Hw (s.size+1) s 0 []
theorem YO(s:ByteArray)(m:Int)(w:World)(hm:Wd m w):
  Calls Tryz.prog 72 #[.string s] w (qbi w (io s)):=by
 by_cases h:2000<s.size
 ·have e:io s=([],2,2000):=if_pos h
  rw[e];have hl:(2000:Int)<(s.size:Int):=by omega
  clear e;go_enter Tryz.func72,Tryz.ntmps72;go_wp2
  go_step3
  go_wp2
  try rw[Exit.noGoto_ret]
  go_ret3
  exact⟨_,rfl,World.ownsRow_nil _ _ _ _,Below.refl _ _⟩
 ·exact Su s m w (by omega) hm _ (if_neg h)
theorem QZ(x p:ByteArray):hpB x p=p.data.toList.isPrefixOf x.data.toList:=by
 unfold hpB
 by_cases h:p.size≤x.size
 ·rw[decide_eq_true h,Bool.true_and]
  have:=Om x p 0 (by omega)
  rw[Nat.zero_add,List.drop_zero]at this;exact this
 ·rw[decide_eq_false h,Bool.false_and]
  have:=Lj x p 0 (by omega) (by omega)
  rw[List.drop_zero]at this;exact this.symm
theorem Ni(k:Nat)(hk:k≤10)(r:ByteArray)(hr:0<r.size)(p:Pc)(h:At k r=some p):p.2.2= -1∨(1≤p.2.2∧p.2.2≤(r.size:Int)):=by
 induction k with
 |zero=>cases h
 |succ k ih=>
  rw[At]at h
  by_cases h0:(rdP (9-k) r).2.2=0
  ·rw[if_pos h0]at h
   exact ih (by omega) h
  ·rw[if_neg h0]at h
   cases h
   rcases QP (9-k) r hr with h1|h1|h1
   ·exact absurd h1 h0
   ·exact .inl h1
   ·exact .inr h1
theorem V3(s:ByteArray):∀(n f g a:Nat) (acc:List Tok),s.size-a≤n→n<f→n<g→Hw f s a acc=Hw g s a acc:=by
 intro n
 induction n with
 |zero=>
  intro f g a acc hn hf hg;obtain⟨f,rfl⟩:∃x,f=x+1:=⟨f-1,by omega⟩
  obtain⟨g,rfl⟩:∃x,g=x+1:=⟨g-1,by omega⟩
  rw[Hw,Hw,if_pos (by omega),if_pos (by omega)]
 |succ n ih=>
  intro f g a acc hn hf hg;obtain⟨f,rfl⟩:∃x,f=x+1:=⟨f-1,by omega⟩
  obtain⟨g,rfl⟩:∃x,g=x+1:=⟨g-1,by omega⟩
  rw[Hw,Hw]
  by_cases h:s.size≤a
  ·rw[if_pos h,if_pos h]
  ·rw[if_neg h,if_neg h]
   cases iT:At 10 (s.extract a s.size)with
   |none=>rfl
   |some p=>
    have bH:=Ni 10 (Nat.le_refl _) _ (by rw[ByteArray.size_extract];omega) p iT
    by_cases hp:p.2.2= -1
    ·simp only[hp,if_true]
    ·simp only[hp,if_false]
     exact ih f g _ _ (by omega) (by omega) (by omega)
def iF(s:ByteArray)(a:Nat)(acc:List Tok):List Tok×Int×Int:=Hw (s.size+1) s a acc
theorem Jp(s:ByteArray)(a:Nat)(acc:List Tok)(h:s.size≤a):iF s a acc=(acc,0,0):=by
 unfold iF;rw[Hw,if_pos h]
theorem SB(s:ByteArray)(a:Nat)(acc:List Tok)(h:a<s.size)(hf:At 10 (s.extract a s.size)=none):iF s a acc=([],7,(a:Int)):=by
 unfold iF;rw[Hw,if_neg (by omega),hf]
theorem On(s:ByteArray)(a:Nat)(acc:List Tok)(h:a<s.size)(p:Pc)(hf:At 10 (s.extract a s.size)=some p)(hp:p.2.2= -1):iF s a acc=([],6,(a:Int)):=by
 unfold iF;rw[Hw,if_neg (by omega),hf];simp only[hp,if_true]
theorem JI(s:ByteArray)(a:Nat)(acc:List Tok)(h:a<s.size)(k:Int)(t:ByteArray)(n:Nat)(hn:0<n)(hf:At 10 (s.extract a s.size)=some (k,t,(n:Int))):
  iF s a acc=iF s (a+n) (if k=0 then acc else acc++[(k,t,(a:Int))]):=by
 unfold iF;rw[Hw,if_neg (by omega),hf]
 have:¬((n:Int)= -1):=by omega
 simp only[this,if_false,Int.toNat_natCast];exact V3 s (s.size-(a+n)) _ _ _ _ (Nat.le_refl _) (by omega) (by omega)
theorem iN(i:Nat)(hi:i<10)(r:ByteArray)(h0:∀j,j<i→(rdP j r).2.2=0)(h1:(rdP i r).2.2≠0):At 10 r=some (rdP i r):=by
 have key:∀d j,j+d=i→At (10-j) r=some (rdP i r):=by
  intro d
  induction d with
  |zero=>intro j hj;have:j=i:=by omega
         subst this;rw[Li j hi,if_neg h1]
  |succ d ih=>
   intro j hj;rw[Li j (by omega),if_pos (h0 j (by omega))]
   exact ih (j+1) (by omega)
 exact key i 0 (by omega)
theorem Oo(r:ByteArray)(h0:∀j,j<10→(rdP j r).2.2=0):At 10 r=none:=by
 have key:∀d j,j+d=10→At (10-j) r=none:=by
  intro d
  induction d with
  |zero=>intro j hj;have:j=10:=by omega
         subst this;rfl
  |succ d ih=>
   intro j hj;rw[Li j (by omega),if_pos (h0 j (by omega))]
   exact ih (j+1) (by omega)
 exact key 10 0 (by omega)
theorem YP(l:Tx):(Lib.cut l [10]).1=l.takeWhile J6:=by
 unfold Lib.cut
 induction l with
 |nil=>rw[Pi _ (by simp)];rfl
 |cons c r ih=>
  rw[List.takeWhile_cons]
  by_cases h:c=10
  ·subst h
   have e:Lib.index (10::r) [10]=0:=by rw[Jo,if_pos];simp
   rw[e]
   rfl
  ·have h1:¬([10]:Tx).isPrefixOf (c::r)=true:=by
    simp[List.isPrefixOf];exact fun h2=>h h2.symm
   have h2:J6 c=true:=by unfold J6;rw[bne_iff_ne];exact h
   rw[Jo,if_neg h1,if_pos h2,←ih];have hge:=Lib.index_ge r [10]
   by_cases h3:Lib.index r [10]= -1
   ·rw[if_pos h3,if_neg (by omega),if_neg (by omega)]
   ·rw[if_neg h3,if_pos (by omega),if_pos (by omega)]
    obtain⟨n,hn⟩:∃n:Nat,Lib.index r [10]=(n:Int):=⟨(Lib.index r [10]).toNat,by omega⟩
    rw[hn];show(c::r).take (n+1)=c::r.take n
    rfl
theorem V5(r:ByteArray):(J3 r).size=aT J6 r.data.toList:=by
 unfold J3;show(Lib.cut r.data.toList [10]).1.toArray.size=_;rw[YP,List.size_toArray];rfl
theorem z0(s:ByteArray)(a:Nat):(rdP 0 (s.extract a s.size)).2.2=((aT n6 (s.data.toList.drop a):Nat):Int):=by
 show((aT n6 (s.extract a s.size).data.toList:Nat):Int)=_;rw[eQ]
theorem qbj(s:ByteArray)(a:Nat)(h:(s.data.toList.drop a).take 2≠[45,45]):(rdP 1 (s.extract a s.size)).2.2=0:=by
 show(if hpB (s.extract a s.size) Og=true then((J3 (s.extract a s.size)).size:Int)else 0)=0
 rw[QZ,eQ,if_neg];exact fun h2=>h ((Ph _ _ _).1 h2)
theorem YQ(s:ByteArray)(a:Nat)(h:(s.data.toList.drop a).take 2=[45,45]):rdP 1 (s.extract a s.size)=(0,⟨#[]⟩,((aT J6 (s.data.toList.drop a):Nat):Int)):=by
 show((0:Int),(⟨#[]⟩:ByteArray),(if hpB (s.extract a s.size) Og=true then((J3 (s.extract a s.size)).size:Int)else 0))=_
 rw[QZ,eQ,if_pos ((Ph _ _ _).2 h),V5,eQ]
theorem qcV(s:ByteArray)(a:Nat)(h:(s.data.toList.drop a).take 2≠[47,42]):(rdP 2 (s.extract a s.size)).2.2=0:=by
 show(if hpB (s.extract a s.size) Pa=true then _ else pc0).2.2=0
 rw[QZ,eQ,if_neg]
 ·rfl
 ·exact fun h2=>h ((Ph _ _ _).1 h2)
theorem qce(s:ByteArray)(a:Nat)(h:(s.data.toList.drop a).take 2=[47,42]):rdP 2 (s.extract a s.size)=(0,⟨#[]⟩,O9 ((GE 1 (s.data.toList.drop (a+2))).map (· +2))):=by
 show(if hpB (s.extract a s.size) Pa=true then((0:Int),(⟨#[]⟩:ByteArray),O9 ((GE 1 ((s.extract a s.size).data.toList.drop 2)).map (· +2)))else pc0)=_
 rw[QZ,eQ,if_pos ((Ph _ _ _).2 h),List.drop_drop]
structure LW(s:ByteArray)(a:Nat):Prop where
 lt:a<s.size
 blank:n6 ((s.data.toList.drop a).headD 0)=false
 line:(s.data.toList.drop a).take 2≠[45,45]
 rem:(s.data.toList.drop a).take 2≠[47,42]
theorem Lk(s:ByteArray)(a:Nat)(h:a<s.size):aT n6 (s.data.toList.drop a)=if n6 ((s.data.toList.drop a).headD 0)=true then aT n6 (s.data.toList.drop (a+1))+1 else 0:=by
 rw[f8 s a h,ii];rfl
theorem Nj(s:ByteArray)(a:Nat)(acc:List Tok)(h:a<s.size)(hb:n6 ((s.data.toList.drop a).headD 0)=true):iF s a acc=iF s (a+1) acc:=by
 have h0:=Lk s a h;rw[if_pos hb]at h0;have one:∀b,b<s.size→0<aT n6 (s.data.toList.drop b)→iF s b acc=iF s (b+aT n6 (s.data.toList.drop b)) acc:=by
  intro b aA hp;have hf:=iN 0 (by omega) (s.extract b s.size) (fun j hj=>by omega) (by rw[z0];omega)
  have e:rdP 0 (s.extract b s.size)=(0,⟨#[]⟩,((aT n6 (s.data.toList.drop b):Nat):Int)):=by
   show((0:Int),(⟨#[]⟩:ByteArray),((aT n6 (s.extract b s.size).data.toList:Nat):Int))=_;rw[eQ]
  rw[e]at hf;have:=JI s b acc aA 0 ⟨#[]⟩ _ hp hf
  rwa[if_pos rfl]at this
 rw[one a h (by omega),h0]
 by_cases hn:aT n6 (s.data.toList.drop (a+1))=0
 ·rw[hn]
 ·have h1:a+1<s.size:=by
   rcases Nat.lt_or_ge (a+1) s.size with h2|h2
   ·exact h2
   ·rw[Jm s (a+1) (by omega)]at hn;exact absurd rfl hn
  rw[one (a+1) h1 (by omega),show a+1+aT n6 (s.data.toList.drop (a+1))=a+(aT n6 (s.data.toList.drop (a+1))+1) by omega]
theorem V6(s:ByteArray)(a:Nat)(acc:List Tok)(h:a<s.size)(hb:n6 ((s.data.toList.drop a).headD 0)=false)(hl:(s.data.toList.drop a).take 2=[45,45]):iF s a acc=iF s (Hj s a) acc:=by
 have hg:=KL s a hl;unfold Hj at hg⊢;have h0:=Lk s a h;rw[hb,if_neg (by decide)]at h0
 have hj:∀j,j<1→(rdP j (s.extract a s.size)).2.2=0:=by
  intro j hj;obtain rfl:j=0:=by omega
  rw[z0,h0];rfl
 have hf:=iN 1 (by omega) (s.extract a s.size) hj (by rw[YQ s a hl];show((aT J6 (s.data.toList.drop a):Nat):Int)≠0;omega)
 rw[YQ s a hl]at hf;have:=JI s a acc h 0 ⟨#[]⟩ _ (by omega) hf
 rwa[if_pos rfl]at this
theorem YR(s:ByteArray)(a:Nat)(acc:List Tok)(h:a<s.size)(hb:n6 ((s.data.toList.drop a).headD 0)=false)(hl:(s.data.toList.drop a).take 2=[47,42]):
  iF s a acc=(match Jl s a with|none=>([],6,(a:Int))|some n=>iF s n acc):=by
 have h0:=Lk s a h;rw[hb,if_neg (by decide)]at h0
 have hz:=qce s a hl;have h1:(s.data.toList.drop a).take 2≠[45,45]:=by rw[hl];decide
 have hj:∀j,j<2→(rdP j (s.extract a s.size)).2.2=0:=by
  intro j hj;have:j=0∨j=1:=by omega
  rcases this with rfl|rfl
  ·rw[z0,h0];rfl
  ·exact qbj s a h1
 unfold Jl
 cases hr:GE 1 (s.data.toList.drop (a+2))with
 |none=>
  rw[hr]at hz;have hf:=iN 2 (by omega) (s.extract a s.size) hj (by rw[hz];show(-1:Int)≠0;decide)
  rw[hz]at hf;exact On s a acc h _ hf rfl
 |some n=>
  rw[hr]at hz;have bg:rdP 2 (s.extract a s.size)=(0,⟨#[]⟩,((n+2:Nat):Int)):=hz;have hf:=iN 2 (by omega) (s.extract a s.size) hj (by rw[bg];show((n+2:Nat):Int)≠0;omega)
  rw[bg]at hf;have:=JI s a acc h 0 ⟨#[]⟩ (n+2) (by omega) hf
  rw[if_pos rfl]at this;rw[this];show iF s (a+(n+2)) acc=iF s (n+(a+2)) acc;rw[show a+(n+2)=n+(a+2) by omega]
theorem Q0(f:Nat)(s:ByteArray)(a:Nat)(h:s.size≤a):ww (f+1) s a=(a,false):=by rw[ww,if_pos h]
theorem SC(f:Nat)(s:ByteArray)(a:Nat)(h:¬s.size≤a)(hb:n6 ((s.data.toList.drop a).headD 0)=true):ww (f+1) s a=ww f s (a+1):=by rw[ww,if_neg h,if_pos hb]
theorem V7(f:Nat)(s:ByteArray)(a:Nat)(h:¬s.size≤a)(hb:n6 ((s.data.toList.drop a).headD 0)=false)(hl:(s.data.toList.drop a).take 2=[45,45]):ww (f+1) s a=ww f s (Hj s a):=by
 rw[ww,if_neg h,hb,if_neg (by simp),if_pos hl]
theorem YS(f:Nat)(s:ByteArray)(a:Nat)(h:¬s.size≤a)(hb:n6 ((s.data.toList.drop a).headD 0)=false)(hl:(s.data.toList.drop a).take 2≠[45,45])(hr:(s.data.toList.drop a).take 2=[47,42]):
  ww (f+1) s a=(match Jl s a with|none=>(a,true)|some n=>ww f s n):=by
 rw[ww,if_neg h,hb,if_neg (by simp),if_neg hl,if_pos hr]
 all_goals(cases Jl s a<;>rfl)
theorem V8(f:Nat)(s:ByteArray)(a:Nat)(h:¬s.size≤a)(hb:n6 ((s.data.toList.drop a).headD 0)=false)(hl:(s.data.toList.drop a).take 2≠[45,45])(hr:(s.data.toList.drop a).take 2≠[47,42]):
  ww (f+1) s a=(a,false):=by
 rw[ww,if_neg h,hb,if_neg (by simp),if_neg hl,if_neg hr]
theorem Q1(s:ByteArray)(acc:List Tok):∀(n f a:Nat),s.size-a≤n→n<f→a≤s.size→
  iF s a acc=(if(ww f s a).2=true then([],6,((ww f s a).1:Int))else iF s (ww f s a).1 acc)∧a≤(ww f s a).1∧(ww f s a).1≤s.size∧
   ((ww f s a).2=false→(ww f s a).1<s.size→LW s (ww f s a).1):=by
 intro n
 induction n with
 |zero=>
  intro f a hn hf ha;obtain⟨f,rfl⟩:∃x,f=x+1:=⟨f-1,by omega⟩
  rw[Q0 f s a (by omega)]
  exact⟨by simp,Nat.le_refl _,ha,fun _ h=>by simp only at h;omega⟩
 |succ n ih=>
  intro f a hn hf ha;obtain⟨f,rfl⟩:∃x,f=x+1:=⟨f-1,by omega⟩
  by_cases h:s.size≤a
  ·rw[Q0 f s a h]
   exact⟨by simp,Nat.le_refl _,ha,fun _ h2=>by simp only at h2;omega⟩
  ·cases hb:n6 ((s.data.toList.drop a).headD 0)with
   |true=>
    rw[SC f s a h hb];obtain⟨i1,i2,i3,i4⟩:=ih f (a+1) (by omega) (by omega) (by omega)
    exact⟨by rw[Nj s a acc (by omega) hb];exact i1,by omega,i3,i4⟩
   |false=>
    by_cases hl:(s.data.toList.drop a).take 2=[45,45]
    ·rw[V7 f s a h hb hl]
     have hg:=KL s a hl;obtain⟨i1,i2,i3,i4⟩:=ih f (Hj s a) (by omega) (by omega) (Ng s a ha)
     exact⟨by rw[V6 s a acc (by omega) hb hl];exact i1,by omega,i3,i4⟩
    ·by_cases hr:(s.data.toList.drop a).take 2=[47,42]
     ·rw[YS f s a h hb hl hr]
      have o6:=YR s a acc (by omega) hb hr
      cases fq:Jl s a with
      |none=>
       rw[fq]at o6;simp only at o6⊢;exact⟨by simpa using o6,Nat.le_refl _,ha,fun h=>by cases h⟩
      |some m=>
       rw[fq]at o6;simp only at o6⊢;obtain⟨m1,m2⟩:=QU s a m fq hr;obtain⟨i1,i2,i3,i4⟩:=ih f m (by omega) (by omega) m2
       exact⟨by rw[o6];exact i1,by omega,i3,i4⟩
     ·rw[V8 f s a h hb hl hr]
      exact⟨by simp,Nat.le_refl _,ha,fun _ _=>⟨by omega,hb,hl,hr⟩⟩
def SD:Tok:=(0,⟨#[]⟩,0)
def Ip(s:ByteArray)(a:Nat):Tok×Nat×Int:=
 let c:=(s.data.toList.drop a).headD 0
 if n8 c=true then((1,Hn (s.extract a (a+aT i8 (s.data.toList.drop a))),(a:Int)),a+aT i8 (s.data.toList.drop a),0)
 else if a9 c=true then((4,s.extract a (a+aT He (s.data.toList.drop a)),(a:Int)),a+aT He (s.data.toList.drop a),0)
 else if c=34 then(match Ge s a 34 with|none=>(SD,0,6)|some p=>((2,bb p.1,(a:Int)),p.2,0))
 else if c=39 then(match Ge s a 39 with|none=>(SD,0,6)|some p=>((3,bb p.1,(a:Int)),p.2,0))
 else if c=36 then(if 0<n7 s a then(match IN s a (n7 s a).toNat with|none=>(SD,0,6)|some p=>((3,bb p.1,(a:Int)),p.2,0))
  else if aT a9 (s.data.toList.drop (a+1))=0 then(SD,0,7)else((5,s.extract a (a+1+aT a9 (s.data.toList.drop (a+1))),(a:Int)),a+1+aT a9 (s.data.toList.drop (a+1)),0))
 else if Hi c<0 then(SD,0,7)else((5,s.extract a (a+1),(a:Int)),a+1,0)
theorem Po(s:ByteArray)(a:Nat)(h:a<s.size):(s.data.toList.drop a).headD 0=s[a]:=by rw[f8 s a h];rfl
theorem LX(s:ByteArray)(a:Nat)(h:a<s.size):n7 s a= -1∨(a+1<(n7 s a).toNat∧(n7 s a).toNat≤s.size∧n7 s a=((n7 s a).toNat:Int)):=by
 unfold n7
 split
 ·rename_i h1
  right
  have h2:=congrArg List.length h1;rw[List.length_take,List.length_drop]at h2;simp only[List.length_singleton]at h2;have e:s.size=s.data.toList.length:=rfl;omega
 ·exact .inl rfl
theorem YT(s:ByteArray)(a:Nat)(ha:a<s.size)(w:World)(hs:s.size≤1048000):
  Calls Tryz.prog 103 #[.string s,.int .i64 (a:Int)] w (LM w (Ip s a)):=by
 have hh:=Po s a ha;unfold Ip;simp only[hh]
 by_cases hl:n8 s[a]=true
 ·rw[if_pos hl];exact YN s a ha w hs hl _ rfl
 ·have gy:n8 s[a]=false:=by simpa using hl
  rw[if_neg hl]
  by_cases hd:a9 s[a]=true
  ·rw[if_pos hd];exact qaS s a ha w hs gy hd _ rfl
  ·have df:a9 s[a]=false:=by simpa using hd
   rw[if_neg hd]
   by_cases iL:s[a]=34
   ·rw[if_pos iL]
    cases hq:Ge s a 34 with
    |none=>exact Pk s a ha w hs iL hq
    |some p=>obtain⟨t,n⟩:=p;exact NC s a ha w hs iL t n hq
   ·rw[if_neg iL]
    by_cases iM:s[a]=39
    ·rw[if_pos iM]
     cases hq:Ge s a 39 with
     |none=>exact Pm s a ha w hs iM hq
     |some p=>obtain⟨t,n⟩:=p;exact NE s a ha w hs iM t n hq
    ·rw[if_neg iM]
     by_cases cA:s[a]=36
     ·rw[if_pos cA]
      rcases LX s a ha with ht|⟨t1,t2,t3⟩
      ·rw[if_neg (by omega)]
       by_cases hp:aT a9 (s.data.toList.drop (a+1))=0
       ·rw[if_pos hp];exact Pn s a ha w hs cA ht hp
       ·rw[if_neg hp];exact qaT s a ha w hs cA ht _ rfl (by omega)
      ·rw[if_pos (by omega)]
       cases hq:IN s a (n7 s a).toNat with
       |none=>exact Sz s a ha w hs cA _ (by omega) t2 t3 hq
       |some p=>obtain⟨t,n⟩:=p;exact QX s a ha w hs cA _ (by omega) t2 t3 t n hq
     ·rw[if_neg cA]
      by_cases hg:Hi s[a]<0
      ·rw[if_pos hg];exact SA s a ha w hs gy df iL iM cA hg
      ·rw[if_neg hg];exact QY s a ha w hs gy df iL iM cA (by omega) _ rfl
abbrev rst(s:ByteArray)(a:Nat):ByteArray:=s.extract a s.size
theorem Ll(s:ByteArray)(a n:Nat)(h:a+n≤s.size):(rst s a).extract 0 n=s.extract a (a+n):=by
 apply ByteArray.ext
 apply Array.ext'
 rw[ByteArray.data_extract,Array.toList_extract,List.extract_eq_take_drop,eQ,ByteArray.data_extract,Array.toList_extract,List.extract_eq_take_drop];rw[List.drop_zero,Nat.sub_zero,show a+n-a=n by omega]
theorem Ko(p:UInt8→Bool)(s:ByteArray)(a:Nat)(h:a<s.size)(hp:p s[a]=true):aT p (s.data.toList.drop a)=aT p (s.data.toList.drop (a+1))+1:=by
 rw[f8 s a h,ii,if_pos hp]
theorem Q2(p:UInt8→Bool)(s:ByteArray)(a:Nat)(h:a<s.size)(hp:p s[a]=false):aT p (s.data.toList.drop a)=0:=by
 rw[f8 s a h,ii,hp];rfl
theorem Q3(c:UInt8)(h:n8 c=true):i8 c=true:=by
 show JY (c.toNat:Int)=true;have:Hu (c.toNat:Int)=true:=h;unfold JY;rw[this];rfl
theorem Ub(c:UInt8)(h:a9 c=true):He c=true:=by
 show MP (c.toNat:Int)=true;have:Hh (c.toNat:Int)=true:=h;unfold MP;rw[this];rfl
theorem qcW(s:ByteArray)(a:Nat)(h:a<s.size)(hl:n8 s[a]=false):(rdP 3 (rst s a)).2.2=0:=by
 show(Lg (rst s a)).2.2=0;unfold Lg;rw[eQ,if_pos (Q2 n8 s a h hl)];rfl
theorem qcf(s:ByteArray)(a:Nat)(h:a<s.size)(hl:n8 s[a]=true):rdP 3 (rst s a)=(1,Hn (s.extract a (a+aT i8 (s.data.toList.drop a))),((aT i8 (s.data.toList.drop a):Nat):Int)):=by
 show Lg (rst s a)=_;unfold Lg;rw[eQ,if_neg (by rw[Ko n8 s a h hl];omega),Ll s a _ (I4 s i8 a (by omega))]
theorem Pp(q:UInt8)(k:Int)(s:ByteArray)(a:Nat)(h:a<s.size)(hc:s[a]≠q):(L3 q k (rst s a)).2.2=0:=by
 unfold L3;rw[eQ,f8 s a h];simp only[hc,if_false];rfl
theorem Uc(q:UInt8)(k:Int)(s:ByteArray)(a:Nat)(h:a<s.size)(hc:s[a]=q):L3 q k (rst s a)=(match Ge s a q with|none=>(0,⟨#[]⟩,-1)|some p=>(k,bb p.1,((p.2-a:Nat):Int))):=by
 unfold L3;rw[eQ,f8 s a h];simp only[hc,if_true];unfold Ge
 cases Gx q (s.data.toList.drop (a+1))with
 |none=>rfl
 |some p=>
  show(k,bb p.1,((p.2+1:Nat):Int))=(k,bb p.1,((p.2+(a+1)-a:Nat):Int));rw[show p.2+(a+1)-a=p.2+1 by omega]
theorem Pq(s:ByteArray)(a:Nat)(h:a<s.size):hpB (rst s a) JO=decide (s[a]=36):=by
 rw[QZ,eQ,f8 s a h];show(([36]:Tx).isPrefixOf (s[a]::s.data.toList.drop (a+1)))=_;simp only[List.isPrefixOf,Bool.and_true];rw[Bool.eq_iff_iff,beq_iff_eq,decide_eq_true_iff];exact⟨fun h=>h.symm,fun h=>h.symm⟩
theorem Nk(s:ByteArray)(a:Nat)(h:a<s.size)(hc:s[a]=36):(JP (rst s a)).data.toList=s.data.toList.drop (a+1):=by
 unfold JP;rw[Pq s a h,if_pos (decide_eq_true hc),eQ,eQ,List.drop_drop]
theorem qbk(s:ByteArray)(a:Nat)(h:a<s.size)(hl:a9 s[a]=false):(rdP 7 (rst s a)).2.2=0:=by
 show(Pf (rst s a)).2.2=0;unfold Pf;rw[eQ,if_pos (Q2 a9 s a h hl)];rfl
theorem qcg(s:ByteArray)(a:Nat)(h:a<s.size)(hl:a9 s[a]=true):rdP 7 (rst s a)=(4,s.extract a (a+aT He (s.data.toList.drop a)),((aT He (s.data.toList.drop a):Nat):Int)):=by
 show Pf (rst s a)=_;unfold Pf;rw[eQ,if_neg (by rw[Ko a9 s a h hl];omega),Ll s a _ (I4 s He a (by omega))]
theorem qbl(s:ByteArray)(a:Nat)(h:a<s.size)(hc:s[a]≠36∨aT a9 (s.data.toList.drop (a+1))=0):(rdP 8 (rst s a)).2.2=0:=by
 show(Pg (rst s a)).2.2=0;unfold Pg;rw[Pq s a h]
 by_cases cA:s[a]=36
 ·have hz:aT a9 (s.data.toList.drop (a+1))=0:=hc.resolve_left (fun hh=>hh cA)
  have:JQ (rst s a)=0:=by unfold JQ;rw[Nk s a h cA];exact hz
  rw[if_pos (.inr this)];rfl
 ·rw[if_pos (.inl (decide_eq_false cA))];rfl
theorem qch(s:ByteArray)(a:Nat)(h:a<s.size)(hc:s[a]=36)(hp:aT a9 (s.data.toList.drop (a+1))≠0):rdP 8 (rst s a)=(5,s.extract a (a+1+aT a9 (s.data.toList.drop (a+1))),((1+aT a9 (s.data.toList.drop (a+1)):Nat):Int)):=by
 show Pg (rst s a)=_;unfold Pg;have e:JQ (rst s a)=aT a9 (s.data.toList.drop (a+1)):=by unfold JQ;rw[Nk s a h hc]
 have hle:=I4 s a9 (a+1) (by omega)
 rw[e,Pq s a h,decide_eq_true hc,if_neg (by rintro(h1|h1);· cases h1
                                            ·exact hp h1)]
 rw[Ll s a _ (by omega)]
 rw[show a+(aT a9 (s.data.toList.drop (a+1))+1)=a+1+aT a9 (s.data.toList.drop (a+1)) by omega,Nat.add_comm 1]
theorem qbm(s:ByteArray)(a:Nat)(h:a<s.size)(hg:Hi s[a]<0):(rdP 9 (rst s a)).2.2=0:=by
 show(Lh (rst s a)).2.2=0;unfold Lh;rw[eQ,f8 s a h];simp only[hg,if_true];rfl
theorem qci(s:ByteArray)(a:Nat)(h:a<s.size)(hg:¬Hi s[a]<0):rdP 9 (rst s a)=(5,s.extract a (a+1),1):=by
 show Lh (rst s a)=_;unfold Lh;rw[eQ,f8 s a h];simp only[hg,if_false];rw[Ll s a 1 (by omega)]
theorem qcX(q:UInt8)(l:Tx):(Lib.cut l [q]).1=l.takeWhile (· != q)∧((Lib.cut l [q]).2.2=true↔q∈l):=by
 unfold Lib.cut
 induction l with
 |nil=>rw[Pi _ (by simp)];simp
 |cons c r ih=>
  rw[List.takeWhile_cons]
  by_cases h:c=q
  ·subst h
   have e:Lib.index (c::r) [c]=0:=by rw[Jo,if_pos];simp
   rw[e];simp
  ·have h1:¬([q]:Tx).isPrefixOf (c::r)=true:=by
    simp[List.isPrefixOf];exact fun h2=>h h2.symm
   have h2:(c != q)=true:=by rw[bne_iff_ne];exact h
   rw[Jo,if_neg h1,if_pos h2,←ih.1];have hge:=Lib.index_ge r [q]
   by_cases h3:Lib.index r [q]= -1
   ·rw[if_pos h3,if_neg (by omega),if_neg (by omega)]
    refine⟨rfl,?_⟩;have:=ih.2;rw[if_neg (by omega)]at this
    simp only[List.mem_cons];constructor
    ·intro hh;cases hh
    ·rintro(hh|hh)
     ·exact absurd hh.symm h
     ·exact this.2 hh
   ·rw[if_neg h3,if_pos (by omega),if_pos (by omega)]
    obtain⟨n,hn⟩:∃n:Nat,Lib.index r [q]=(n:Int):=⟨(Lib.index r [q]).toNat,by omega⟩
    rw[hn];refine⟨rfl,?_⟩;have:=ih.2;rw[if_pos (by omega)]at this
    simp only[List.mem_cons];exact⟨fun _=>.inr (this.1 rfl),fun _=>by first|rfl|trivial⟩
theorem SE(c:UInt8)(h:Jh c=true):c≠36:=by
 intro h2;subst h2;exact absurd h (by decide)
theorem qaU(p:UInt8→Bool):∀(l:Tx),aT p l=l.length→∀c∈l,p c=true:=by
 intro l
 induction l with
 |nil=>intro _ c hc;cases hc
 |cons x r ih=>
  intro h c hc;rw[ii]at h
  by_cases hx:p x=true
  ·rw[if_pos hx]at h
   rcases List.mem_cons.1 hc with rfl|hc
   ·exact hx
   ·exact ih (by simpa using h) c hc
  ·rw[if_neg hx]at h;simp at h
theorem Ud(p:UInt8→Bool)(x:Tx)(d:UInt8)(y:Tx)(h:∀c∈x,p c=true)(hd:p d=false):aT p (x++d::y)=x.length:=by
 induction x with
 |nil=>rw[List.nil_append,ii,hd];rfl
 |cons c r ih=>
  rw[List.cons_append,ii,if_pos (h c (by simp)),ih (fun c hc=>h c (by simp[hc]))]
  rfl
theorem Q4(p:UInt8→Bool)(x:Tx)(h:∀c∈x,p c=true):aT p x=x.length:=by
 induction x with
 |nil=>rfl
 |cons c r ih=>rw[ii,if_pos (h c (by simp)),ih (fun c hc=>h c (by simp[hc]))];rfl
theorem Lm(p:UInt8→Bool)(l:Tx):∀c∈l.take (aT p l),p c=true:=by
 induction l with
 |nil=>intro c hc;simp at hc
 |cons x r ih=>
  intro c hc;rw[ii]at hc
  by_cases hx:p x=true
  ·rw[if_pos hx,List.take_succ_cons]at hc
   rcases List.mem_cons.1 hc with rfl|hc
   ·exact hx
   ·exact ih c hc
  ·rw[if_neg hx]at hc;simp at hc
theorem qcj(x:Tx)(d:UInt8)(y:Tx)(h:∀c∈x,c≠d):(x++d::y).takeWhile (· != d)=x:=by
 induction x with
 |nil=>simp
 |cons c r ih=>
  have hc:(c != d)=true:=by rw[bne_iff_ne];exact h c (by simp)
  rw[List.cons_append,List.takeWhile_cons,if_pos hc,ih (fun c hc=>h c (by simp[hc]))]
theorem qck(d:UInt8)(l:Tx)(h:d∈l):∃y,l=l.takeWhile (· != d)++d::y:=by
 induction l with
 |nil=>cases h
 |cons c r ih=>
  by_cases hc:c=d
  ·subst hc;exact⟨r,by simp⟩
  ·have h2:(c != d)=true:=by rw[bne_iff_ne];exact hc
   obtain⟨y,hy⟩:=ih ((List.mem_cons.1 h).resolve_left (fun e=>hc e.symm))
   refine⟨y,?_⟩;rw[List.takeWhile_cons,if_pos h2,List.cons_append]
   congr 1
theorem qaV(M:Tx):((Lib.cut M [36]).2.2&&Jb (Lib.cut M [36]).1)=decide ((M.drop (Gt M)).take 1=[36])∧((M.drop (Gt M)).take 1=[36]→(Lib.cut M [36]).1.length=Gt M):=by
 obtain⟨fe,ey⟩:=qcX 36 M;have fwd:(Lib.cut M [36]).2.2=true→Jb (Lib.cut M [36]).1=true→(M.drop (Gt M)).take 1=[36]:=by
  intro h1 h2;obtain⟨y,hy⟩:=qck 36 M (ey.1 h1);rw[fe]at h2
  generalize M.takeWhile (· != 36)=U at*
  subst hy;have ht:Gt (U++36::y)=U.length:=by
   unfold Jb at h2
   cases U with
   |nil=>rw[List.nil_append,Jn,if_neg (by decide)];rfl
   |cons c r=>
    simp only[List.isEmpty_cons,Bool.false_or,Bool.and_eq_true,decide_eq_true_iff]at h2;obtain⟨h3,h4⟩:=h2;have hl:n8 c=true:=by
     rw[ii]at h3
     by_cases hx:n8 c=true
     ·exact hx
     ·rw[if_neg hx]at h3;omega
    have ha:=qaU Jh (c::r) h4;rw[List.cons_append,Jn,if_pos hl,Ud Jh r 36 y (fun x hx=>ha x (by simp[hx])) (by decide)]
    rfl
  rw[ht,List.drop_left]
  rfl
 have bwd:(M.drop (Gt M)).take 1=[36]→(Lib.cut M [36]).2.2=true∧Jb (Lib.cut M [36]).1=true∧(Lib.cut M [36]).1.length=Gt M:=by
  intro h;have hle:=T9 M;obtain⟨y,hy⟩:∃y,M.drop (Gt M)=36::y:=by
   cases hd:M.drop (Gt M)with
   |nil=>rw[hd]at h;cases h
   |cons c r=>rw[hd]at h;simp at h;subst h;exact⟨r,rfl⟩
  have hM:M=M.take (Gt M)++36::y:=by rw[←hy,List.take_append_drop]
  have cU:∀c∈M.take (Gt M),Jh c=true:=by
   intro c hc;unfold Gt at hc
   split at hc
   ·simp at hc
   ·exact Lm Jh M c hc
  have hlen:(M.take (Gt M)).length=Gt M:=by rw[List.length_take];omega
  have hU:M.takeWhile (· != 36)=M.take (Gt M):=by
   have:=qcj (M.take (Gt M)) 36 y (fun c hc=>SE c (cU c hc))
   rw[←hM]at this;exact this
  have fZ:(36:UInt8)∈M:=by rw[hM];simp
  refine⟨ey.2 fZ,?_,by rw[fe,hU,hlen]⟩
  rw[fe,hU];unfold Jb
  by_cases h0:Gt M=0
  ·rw[h0,List.take_zero];rfl
  ·have hr:aT n8 M≠0:=by
    intro hz;apply h0;unfold Gt;rw[if_pos hz]
   have b7:M≠[]:=by rintro rfl;exact hr rfl
   obtain⟨c,r,rfl⟩:∃c r,M=c::r:=by
    cases M with
    |nil=>exact absurd rfl b7
    |cons c r=>exact⟨c,r,rfl⟩
   have hl:n8 c=true:=by
    rw[ii]at hr
    by_cases hx:n8 c=true
    ·exact hx
    ·rw[if_neg hx]at hr;exact absurd rfl hr
   obtain⟨t,ht⟩:∃t,Gt (c::r)=t+1:=⟨Gt (c::r)-1,by omega⟩
   have FW:=Q4 Jh _ cU;rw[FW];have h3:0<aT n8 ((c::r).take (Gt (c::r))):=by
    rw[ht,List.take_succ_cons,ii,if_pos hl];omega
   simp[h3]
 constructor
 ·rw[Bool.eq_iff_iff,Bool.and_eq_true,decide_eq_true_iff]
  exact⟨fun h=>fwd h.1 h.2,fun h=>⟨(bwd h).1,(bwd h).2.1⟩⟩
 ·exact fun h=>(bwd h).2.2
theorem Ue(s:ByteArray)(a:Nat)(h:a<s.size):rg (rst s a)=if s[a]=36∧0<n7 s a then s.extract a (n7 s a).toNat else⟨#[]⟩:=by
 unfold rg;rw[Pq s a h]
 by_cases hc:s[a]=36
 ·have gb:Nc (rst s a)=Lib.cut (s.data.toList.drop (a+1)) [36]:=by unfold Nc;rw[Nk s a h hc]
  obtain⟨h1,h2⟩:=qaV (s.data.toList.drop (a+1));rw[decide_eq_true hc,Bool.true_and,gb,h1];have e:s.data.toList.drop (a+1+Gt (s.data.toList.drop (a+1)))=(s.data.toList.drop (a+1)).drop (Gt (s.data.toList.drop (a+1))):=by rw[List.drop_drop]
  by_cases ht:((s.data.toList.drop (a+1)).drop (Gt (s.data.toList.drop (a+1)))).take 1=[36]
  ·have rI:n7 s a=((a+1+Gt (s.data.toList.drop (a+1))+1:Nat):Int):=by unfold n7;rw[e,if_pos ht]
   have hlen:a+1+Gt (s.data.toList.drop (a+1))+1≤s.size:=by
    have:=congrArg List.length ht;rw[List.length_take,List.length_drop,List.length_drop]at this;simp only[List.length_singleton]at this;have e2:s.size=s.data.toList.length:=rfl;omega
   rw[decide_eq_true ht,if_pos rfl,if_pos ⟨hc,by rw[rI];omega⟩,h2 ht,rI,Int.toNat_natCast,Ll s a _ (by omega)]
   rw[show a+(Gt (s.data.toList.drop (a+1))+2)=a+1+Gt (s.data.toList.drop (a+1))+1 by omega]
  ·have rI:n7 s a= -1:=by unfold n7;rw[e,if_neg ht]
   rw[decide_eq_false ht,if_neg (by decide),if_neg (by rw[rI];omega)]
 ·rw[decide_eq_false hc,if_neg (by simp),if_neg (fun hh=>hc hh.1)]
theorem YU(s:ByteArray)(a:Nat)(h:a<s.size)(hc:s[a]≠36∨n7 s a= -1):(rdP 6 (rst s a)).2.2=0:=by
 show(Pe (rst s a)).2.2=0;have hm:=Ue s a h;have hn:¬(s[a]=36∧0<n7 s a):=by
  rintro⟨h1,h2⟩;rcases hc with hc|hc
  ·exact hc h1
  ·omega
 rw[if_neg hn]at hm;unfold Pe;rw[hm,if_pos (by rw[ByteArray.toList_eq];rfl)]
 rfl
theorem qcl(s:ByteArray)(a:Nat)(h:a<s.size)(hc:s[a]=36)(t:Nat)(ht:n7 s a=(t:Int))(al:a<t)(dq:t≤s.size):
  rdP 6 (rst s a)=(match IN s a t with|none=>(0,⟨#[]⟩,-1)|some p=>(3,bb p.1,((p.2-a:Nat):Int))):=by
 show Pe (rst s a)=_;have hm:=Ue s a h;rw[if_pos ⟨hc,by omega⟩,ht,Int.toNat_natCast]at hm
 have ub:(rg (rst s a)).size=t-a:=by rw[hm,ByteArray.size_extract];omega
 have kO:Iy (rst s a)=Lib.cut (s.data.toList.drop t) (s.extract a t).data.toList:=by
  unfold Iy;rw[ub,hm]
  congr 1
  have e:(rst s a).size=s.size-a:=by rw[ByteArray.size_extract];omega
  rw[e];have e2:((rst s a).extract (t-a) (s.size-a))=(rst s a).extract (t-a) (rst s a).size:=by rw[e]
  rw[e2,eQ,eQ,List.drop_drop]
  congr 1;omega
 unfold Pe;have b7:¬((rg (rst s a)).toList.isEmpty=true):=by
  rw[ByteArray.toList_eq];intro hh;have:(rg (rst s a)).data.toList.length=0:=by rw[List.isEmpty_iff.1 hh];rfl
  have e:(rg (rst s a)).data.toList.length=(rg (rst s a)).size:=rfl;omega
 rw[if_neg b7,kO,ub];unfold Lib.cut IN
 by_cases hi:0≤Lib.index (s.data.toList.drop t) (s.extract a t).data.toList
 ·rw[if_pos hi,if_pos hi,if_neg (by simp)]
  simp only;obtain⟨n,hn⟩:∃n:Nat,Lib.index (s.data.toList.drop t) (s.extract a t).data.toList=(n:Int):=⟨_,(Int.toNat_of_nonneg hi).symm⟩;have nu:n≤(s.data.toList.drop t).length:=by
   rcases Lib.index_spec (s.data.toList.drop t) (s.extract a t).data.toList with⟨h1,_⟩|⟨i,h1,h2,_⟩
   ·rw[hn]at h1;omega
   ·rw[hn]at h1;have:n=i:=by omega
    rw[this];exact h2
  rw[hn,Int.toNat_natCast];have hx:(bb ((s.data.toList.drop t).take n)).size=n:=by rw[I3,List.length_take];omega
  have hz:((t-a:Nat):Int)+(((bb ((s.data.toList.drop t).take n)).size:Nat):Int)+((t-a:Nat):Int)=((t+n+(t-a)-a:Nat):Int):=by rw[hx];omega
  exact congrArg (fun z=>((3:Int),bb ((s.data.toList.drop t).take n),z)) hz
 ·rw[if_neg hi,if_neg hi,if_pos rfl]
def Pr(s:ByteArray)(a:Nat)(acc:List Tok)(r:Tok×Nat×Int):Prop:=
 iF s a acc=(if r.2.2=0 then iF s r.2.1 (acc++[r.1])else([],r.2.2,(a:Int)))∧(r.2.2=0→a<r.2.1∧r.2.1≤s.size)
theorem Nl(s:ByteArray)(a:Nat)(acc:List Tok)(h:a<s.size)(k:Int)(t:ByteArray)(b n:Nat)(hn:a+n=b)(hk:k≠0)(hf:At 10 (rst s a)=some (k,t,(n:Int))):Pr s a acc ((k,t,(a:Int)),b,0):=by
 have bH:=Ni 10 (Nat.le_refl _) _ (by rw[ByteArray.size_extract];omega) _ hf
 rw[ByteArray.size_extract]at bH;simp only at bH;have:=JI s a acc h k t n (by omega) hf
 rw[if_neg hk,hn]at this;exact⟨by rw[if_pos rfl];exact this,fun _=>⟨by simp only;omega,by simp only;omega⟩⟩
theorem SF(s:ByteArray)(a:Nat)(acc:List Tok)(h:a<s.size)(k:Int)(t:ByteArray)(hf:At 10 (rst s a)=some (k,t,-1)):Pr s a acc (SD,0,6):=
 ⟨by rw[if_neg (by decide)];exact On s a acc h _ hf rfl,fun h=>absurd h (by decide)⟩
theorem Uf(s:ByteArray)(a:Nat)(acc:List Tok)(h:a<s.size)(hf:At 10 (rst s a)=none):Pr s a acc (SD,0,7):=
 ⟨by rw[if_neg (by decide)];exact SB s a acc h hf,fun h=>absurd h (by decide)⟩
theorem qcm{P:Nat→Prop}(h0:P 0)(h1:P 1)(h2:P 2):∀j,j<3→P j:=by
 intro j hj;have:j=0∨j=1∨j=2:=by omega
 rcases this with rfl|rfl|rfl
 ·exact h0
 ·exact h1
 ·exact h2
theorem m4{P:Nat→Prop}{n:Nat}(h:∀j,j<n→P j)(hn:P n):∀j,j<n+1→P j:=by
 intro j hj
 by_cases e:j=n
 ·subst e;exact hn
 ·exact h j (by omega)
theorem qaW(c:UInt8)(h:a9 c=true):c≠34∧c≠39∧c≠36:=by
 refine⟨?_,?_,?_⟩<;>(rintro rfl;exact absurd h (by decide))
theorem Nm(s:ByteArray)(a:Nat)(acc:List Tok)(hS:LW s a):Pr s a acc (Ip s a):=by
 have h:=hS.lt;have hh:=Po s a h;have hb:=hS.blank;rw[hh]at hb;have FX:(rdP 0 (rst s a)).2.2=0:=by
  rw[z0,Lk s a h,hh,hb];rfl
 have z3:=qcm (P:=fun j=>(rdP j (rst s a)).2.2=0) FX (qbj s a hS.line) (qcV s a hS.rem)
 unfold Ip;simp only[hh]
 by_cases hl:n8 s[a]=true
 ·rw[if_pos hl]
  have e:=qcf s a h hl;have hf:=iN 3 (by omega) (rst s a) z3 (by rw[e];have:=Ko i8 s a h (Q3 _ hl);show((aT i8 (s.data.toList.drop a):Nat):Int)≠0;omega)
  rw[e]at hf;exact Nl s a acc h 1 _ _ _ rfl (by decide) hf
 ·have gy:n8 s[a]=false:=by simpa using hl
  rw[if_neg hl];have z4:=m4 z3 (qcW s a h gy)
  by_cases hd:a9 s[a]=true
  ·rw[if_pos hd]
   obtain⟨n1,n2,n3⟩:=qaW _ hd;have z7:=m4 (m4 (m4 z4 (Pp 34 2 s a h n1)) (Pp 39 3 s a h n2)) (YU s a h (.inl n3));have e:=qcg s a h hd;have hf:=iN 7 (by omega) (rst s a) z7 (by rw[e];have:=Ko He s a h (Ub _ hd);show((aT He (s.data.toList.drop a):Nat):Int)≠0;omega)
   rw[e]at hf;exact Nl s a acc h 4 _ _ _ rfl (by decide) hf
  ·have df:a9 s[a]=false:=by simpa using hd
   rw[if_neg hd]
   by_cases iL:s[a]=34
   ·rw[if_pos iL]
    have e:rdP 4 (rst s a)=_:=Uc 34 2 s a h iL
    cases hq:Ge s a 34 with
    |none=>
     rw[hq]at e;have hf:=iN 4 (by omega) (rst s a) z4 (by rw[e];show(-1:Int)≠0;decide)
     rw[e]at hf;exact SF s a acc h _ _ hf
    |some p=>
     rw[hq]at e;have hp:a<p.2:=by
      unfold Ge at hq;obtain⟨r,_,rfl⟩:=Option.map_eq_some_iff.1 hq;simp only;omega
     have hf:=iN 4 (by omega) (rst s a) z4 (by rw[e];show((p.2-a:Nat):Int)≠0;omega)
     rw[e]at hf;exact Nl s a acc h 2 _ _ _ (by omega) (by decide) hf
   ·rw[if_neg iL]
    have z5:=m4 z4 (Pp 34 2 s a h iL)
    by_cases iM:s[a]=39
    ·rw[if_pos iM]
     have e:rdP 5 (rst s a)=_:=Uc 39 3 s a h iM
     cases hq:Ge s a 39 with
     |none=>
      rw[hq]at e;have hf:=iN 5 (by omega) (rst s a) z5 (by rw[e];show(-1:Int)≠0;decide)
      rw[e]at hf;exact SF s a acc h _ _ hf
     |some p=>
      rw[hq]at e;have hp:a<p.2:=by
       unfold Ge at hq;obtain⟨r,_,rfl⟩:=Option.map_eq_some_iff.1 hq;simp only;omega
      have hf:=iN 5 (by omega) (rst s a) z5 (by rw[e];show((p.2-a:Nat):Int)≠0;omega)
      rw[e]at hf;exact Nl s a acc h 3 _ _ _ (by omega) (by decide) hf
    ·rw[if_neg iM]
     have z6:=m4 z5 (Pp 39 3 s a h iM)
     by_cases cA:s[a]=36
     ·rw[if_pos cA]
      rcases LX s a h with ht|⟨t1,t2,t3⟩
      ·rw[if_neg (by omega)]
       have z8:=m4 (m4 z6 (YU s a h (.inr ht))) (qbk s a h df)
       by_cases hp:aT a9 (s.data.toList.drop (a+1))=0
       ·rw[if_pos hp]
        have FY:=m4 (m4 z8 (qbl s a h (.inr hp))) (qbm s a h (by rw[cA];decide))
        exact Uf s a acc h (Oo _ FY)
       ·rw[if_neg hp]
        have e:=qch s a h cA hp;have hf:=iN 8 (by omega) (rst s a) z8 (by rw[e];show((1+aT a9 (s.data.toList.drop (a+1)):Nat):Int)≠0;omega)
        rw[e]at hf;exact Nl s a acc h 5 _ _ _ (by omega) (by decide) hf
      ·rw[if_pos (by omega)]
       have e:=qcl s a h cA _ t3 (by omega) t2
       cases hq:IN s a (n7 s a).toNat with
       |none=>
        rw[hq]at e;have hf:=iN 6 (by omega) (rst s a) z6 (by rw[e];show(-1:Int)≠0;decide)
        rw[e]at hf;exact SF s a acc h _ _ hf
       |some p=>
        rw[hq]at e;have hp:a<p.2:=by
         unfold IN at hq
         split at hq
         ·cases hq;simp only;omega
         ·cases hq
        have hf:=iN 6 (by omega) (rst s a) z6 (by rw[e];show((p.2-a:Nat):Int)≠0;omega)
        rw[e]at hf;exact Nl s a acc h 3 _ _ _ (by omega) (by decide) hf
     ·rw[if_neg cA]
      have z9:=m4 (m4 (m4 z6 (YU s a h (.inl cA))) (qbk s a h df)) (qbl s a h (.inl cA))
      by_cases hg:Hi s[a]<0
      ·rw[if_pos hg]
       exact Uf s a acc h (Oo _ (m4 z9 (qbm s a h hg)))
      ·rw[if_neg hg]
       have e:=qci s a h hg;have hf:=iN 9 (by omega) (rst s a) z9 (by rw[e];show(1:Int)≠0;decide)
       rw[e]at hf;exact Nl s a acc h 5 _ _ 1 rfl (by decide) hf
theorem TR.block{w:World}{h:Nat}{l:List Tok}{T:TypeId}(hb:w.heap[h]? =some (.cells (sm l).toArray T (0,0))):TR w (.slice (some ⟨h,0,none⟩) l.length l.length) l:=by
 refine .inr ⟨h,0,l.length,rfl,Nat.le_refl _,fun i t hi=>?_⟩
 obtain⟨a,b,c⟩:=Nd l i t hi;simp only[Nat.zero_add];refine⟨?_,?_,?_⟩<;>rw[Lib.cell_of_heap hb]<;>simpa using(by assumption)
theorem TR.inv{w:World}{v:Value}{l:List Tok}(h:TR w v l)(n:Nat)(hn:l.length=n)(hp:0<n):∃g off cap,v=.slice (some ⟨g,off,none⟩) n cap∧n≤cap∧∀(i:Nat) (t:Tok),l[i]? =some t→
  w.cell? ⟨g,off+i*3,none⟩=some (.int .i64 t.1)∧w.cell? ⟨g,off+i*3+1,none⟩=some (.string t.2.1)∧w.cell? ⟨g,off+i*3+2,none⟩=some (.int .i64 t.2.2):=by
 subst hn;rcases h with⟨A,cap,_,rfl⟩|⟨g,off,cap,e,hc,hx⟩
 ·simp at hp
 ·exact⟨g,off,cap,e,hc,hx⟩
def qbn(w:World)(v:Value)(r:List Tok)(w':World):Prop:=TR w' v r∧Below w.heap.size w w'
theorem Nn(s:ByteArray)(r:List Tok×Int×Int)(e:io s=r)(m:Int)(w:World)(hm:Wd m w):
  Calls Tryz.prog 72 #[.string s] w fun e w'=>∃v,e=.returned (.tuple #[v,.int .i64 r.2.1,.int .i64 r.2.2])∧qbn w v r.1 w':=by
 subst e;exact(YO s m w hm).mono fun e w' ⟨v,h1,h2,h3⟩=>⟨v,h1,TR.own h2,h3⟩
structure RsI(w:World)(l:List Tok)(v:Value)(wr:World):Prop where
 bel:Below w.heap.size w wr
 row:wr.ownsRow w.heap.size 120 3 v l.length (sm l)
theorem RsI.step{w wr w2:World}{l:List Tok}{v:Value}(h:RsI w l v wr)(b:Below wr.heap.size wr w2):RsI w l v w2:=
 ⟨h.bel.trans (b.mono h.bel.size),Gq h.row b⟩
theorem RsI.more{w wr w2:World}{l:List Tok}{v v2:Value}(h:RsI w l v wr)(t:Tok)(g:wr.grownBy w2 v.ownBlock)(r:w2.ownsRow w.heap.size 120 3 v2 (l.length+1) (sm l++pP t)):RsI w (l++[t]) v2 w2:=
 ⟨h.bel.grown g h.bel.size (fun k hk=>(World.ownsRow.lt h.row k hk).1),by rw[List.length_append,show sm (l++[t])=sm l++pP t by simp[sm]];exact r⟩
def qbo(w:World)(r:List Tok×Int×Int)(e:Ending)(w':World):Prop:=∃v,e=.returned (.tuple #[v,.int .i64 r.2.1,.int .i64 r.2.2])∧qbn w v r.1 w'
theorem Q5(s:ByteArray)(w:World)(hs:s.size≤2000)(R:List Tok×Int×Int)(hR:R=iF s 0 []):
  Calls Tryz.prog 82 #[.string s] w (qbo w R):=by
 have hl:¬((2000:Int)<(s.size:Int)):=by omega
 obtain⟨i30,bQ,cS,bR,cY⟩:=Ok;have mu:=fun a (ha:a≤s.size) w=>YL s a w (by omega) ha _ rfl
 have ry:=fun a acc (ha:a≤s.size)=>Q1 s acc (s.size-a) (s.size+1) a (Nat.le_refl _) (by omega) ha
 have FZ:=qid ry;have gh:=mu 0 (Nat.zero_le _);have h0:=ry 0 [] (Nat.zero_le _);rw[←hR]at h0
 generalize ww (s.size+1) s 0=G at*
 obtain⟨a0,b0⟩:=G;obtain⟨Ca,H0,zr⟩:=hZ3 gh h0 mu;clear mu ry gh h0 hR;go_enter Tryz.func82,Tryz.ntmps82;have wT:∀w,Calls Tryz.prog 102 #[.string s,.int .i64 0] w fun e w'=>e=.returned (.tuple #[.int .i64 (a0:Int),.bool b0])∧w'=w:=Ca.out
 have sL:=qid wT;clear wT;go_wp2_with (go_at_call 102;(with_reducible refine(sL.out _).mono ?_);rintro e w1 ⟨rfl,aJ⟩;obtain rfl:=aJ.symm)
 go_loopg [5,6,7] s.size (fun g u5 u6 u7 wx=>∃(a:Nat) (bd:Bool) (l:List Tok),u6=.int .i64 (a:Int)∧u7=.bool bd∧a≤s.size∧s.size-a≤g∧l.length≤a∧RsI w l u5 wx∧
  R=(if bd=true then([],6,(a:Int))else iF s a l)∧(bd=false→a<s.size→LW s a))
 case atStart=>
  obtain⟨q1,q2,q3,q4⟩:=H0.out;exact⟨a0,b0,[],rfl,rfl,q3,by omega,Nat.zero_le _,⟨Below.refl _ _,World.ownsRow_nil _ _ _ _⟩,q1,q4⟩
 case round=>
  obtain⟨a,bd,l,rfl,rfl,ha,hg,FH,hI,hv,lA⟩:=hrel;clear Ca sL H0;have HI:=qid hI;clear hI
  cases bd with
  |true=>
   have ax:R=([],6,(a:Int)):=by rw[hv,if_pos rfl]
   have HV:=qid ax;clear hv lA ax
   by_cases aD:(a:Int)<(s.size:Int)
   ·go_wp2
    go_ret3
    rw[HV.out];exact⟨_,rfl,.inl ⟨_,_,rfl,rfl⟩,HI.out.bel⟩
   ·go_wp2
    go_ret3
    rw[HV.out];exact⟨_,rfl,.inl ⟨_,_,rfl,rfl⟩,HI.out.bel⟩
  |false=>
   have ax:R=iF s a l:=by rw[hv,if_neg (by decide)]
   by_cases aD:a<s.size
   ·obtain⟨g,rfl⟩:∃g,gk=g+1:=⟨gk-1,by omega⟩
    have l1:(a:Int)<(s.size:Int):=by omega
    obtain⟨o1,o2⟩:=Nm s a l (lA rfl aD);rw[←ax]at o1;have fD:=fun w=>YT s a aD w (by omega)
    generalize Ip s a=r at*
    obtain⟨⟨k,t,p⟩,b,er⟩:=r;simp only at o1 o2;have fR:∀w,Calls Tryz.prog 103 #[.string s,.int .i64 (a:Int)] w fun e w'=>e=.returned (.tuple #[.agg #[.int .i64 k,.string t,.int .i64 p],.int .i64 (b:Int),.int .i64 er])∧Below w.heap.size w w':=fD
    have fj:=qid fR;clear fD fR hv ax lA
    by_cases he:er=0
    ·subst he
     rw[if_pos rfl]at o1;obtain⟨Cb,xZ⟩:=o2 rfl;have Cd:=zr.out b xZ;have ry:=FZ.out b (l++[(k,t,p)]) xZ;rw[←o1]at ry
     generalize ww (s.size+1) s b=G at*
     obtain⟨a2,b2⟩:=G;have wU:∀w,Calls Tryz.prog 102 #[.string s,.int .i64 (b:Int)] w fun e w'=>e=.returned (.tuple #[.int .i64 (a2:Int),.bool b2])∧w'=w:=Cd
     obtain⟨Fa,Fb⟩:=hZ2 wU ry;have wY:=qid (And.intro Cb xZ);clear o1 o2 Cd wU ry Cb xZ;go_wp2_with (first
      |(go_at_call 103;(with_reducible refine(fj.out _).mono ?_);rintro e w2 ⟨rfl,aA⟩;have iu:=qid (HI.out.step aA);clear aA)
      |(go_at_call 102;(with_reducible refine(Fa.out _).mono ?_);rintro e w1 ⟨rfl,aJ⟩;obtain rfl:=aJ.symm)
      |(at_builtin;go_must (
        refine wpList_append_own_wide _ rfl _ _ 104 rfl w.heap.size 120 i30 (.agg #[.int .i64 0,.string ByteArray.empty,.int .i64 0]) 3 32 qbh bQ cS bR cY rfl (by decide) u5 l.length (sm l) rfl ((iu.out.row.alloc _).alloc _) ⟨w2.heap.size+1,0,none⟩ 1 1 (pP (k,t,p)) rfl rfl ?c1 ?c2 ?c3 ?c4 ?c5 ?_
        case c1=>exact Nf w2 _ (k,t,p)
        case c2=>exact T6 _
        case c3=>unfold maxLen;omega
        case c4=>omega
        case c5=>have:=iu.out.bel.size;simp;omega
        intro v9 w9 aB aM _)))
     have wO:=iu.out.step (Ol w2 (.cells #[.int .i64 k,.string t,.int .i64 p] 120) (.cells #[.int .i64 k,.string t,.int .i64 p] 120));have zl:=qid (wO.more (k,t,p) aM aB);clear wO;go_roundg g
     case measure=>omega
     case rel=>
      obtain⟨q1,q2,q3,q4⟩:=Fb.out;exact⟨a2,b2,l++[(k,t,p)],rfl,rfl,q3,by have:=wY.out;have q5:b≤a2:=q2;omega,by rw[List.length_append,List.length_singleton];have:=wY.out;have q5:b≤a2:=q2;omega,zl.out,q1,q4⟩
    ·rw[if_neg he]at o1
     have np:(er != (0:Int))=true:=by rw[bne_iff_ne];exact he
     have HV:=qid o1;clear o1 o2 he;go_wp2_with (go_at_call 103;(with_reducible refine(fj.out _).mono ?_);rintro e w2 ⟨rfl,aA⟩;have iu:=qid (HI.out.step aA);clear aA)
     go_ret3
     rw[HV.out];exact⟨_,rfl,.inl ⟨_,_,rfl,rfl⟩,iu.out.bel.trans (((Below.refl _ _).alloc (Nat.le_refl _) _).mono iu.out.bel.size)⟩
   ·have l1:¬((a:Int)<(s.size:Int)):=by omega
    have ix:R=(l,0,0):=by rw[ax,Jp s a l (by omega)]
    have HV:=qid ix;clear hv ax ix lA;go_wp2
    go_ret3
    rw[HV.out];exact⟨_,rfl,TR.own HI.out.row,HI.out.bel⟩
theorem Ln(s:ByteArray)(h:s.size≤2000):io s=iF s 0 []:=if_neg (by omega)
theorem V9(s:ByteArray)(w:World):
  Calls Tryz.prog 82 #[.string s] w (qbo w (io s)):=by
 by_cases h:2000<s.size
 ·have e:io s=([],2,2000):=if_pos h
  rw[e];have hl:(2000:Int)<(s.size:Int):=by omega
  clear e;go_enter Tryz.func82,Tryz.ntmps82;go_wp2
  go_ret3
  exact⟨_,rfl,.inl ⟨_,_,rfl,rfl⟩,Below.refl _ _⟩
 ·exact Q5 s w (by omega) _ (Ln s (by omega))
theorem No(s:ByteArray)(P:Nat→List Tok→(List Tok×Int×Int)→Prop)(nv:∀a acc,s.size≤a→P a acc (acc,0,0))(mu:∀a b acc r,a≤b→b≤s.size→P b acc r→P a acc r)(wV:∀(a:Nat) acc (e:Int),a≤s.size→e≠0→P a acc ([],e,(a:Int)))(zt:∀a acc r,LW s a→(Ip s a).2.2=0→a<(Ip s a).2.1→(Ip s a).2.1≤s.size→P (Ip s a).2.1 (acc++[(Ip s a).1]) r→P a acc r):
  ∀a acc,a≤s.size→P a acc (iF s a acc):=by
 have key:∀n a acc,s.size-a≤n→a≤s.size→P a acc (iF s a acc):=by
  intro n
  induction n with
  |zero=>
   intro a acc hn ha;rw[Jp s a acc (by omega)]
   exact nv a acc (by omega)
  |succ n ih=>
   intro a acc hn ha;obtain⟨g1,g2,g3,g4⟩:=Q1 s acc (s.size-a) (s.size+1) a (Nat.le_refl _) (by omega) ha
   rw[g1];refine mu a _ acc _ g2 g3 ?_
   cases hb:(ww (s.size+1) s a).2 with
   |true=>rw[if_pos rfl];exact wV _ acc 6 g3 (by decide)
   |false=>
    rw[if_neg (by decide)]
    by_cases aD:(ww (s.size+1) s a).1<s.size
    ·have hS:=g4 hb aD
     obtain⟨o1,o2⟩:=Nm s _ acc hS;rw[o1]
     by_cases he:(Ip s (ww (s.size+1) s a).1).2.2=0
     ·rw[if_pos he]
      obtain⟨o3,o4⟩:=o2 he;exact zt _ acc _ hS he o3 o4 (ih _ _ (by omega) o4)
     ·rw[if_neg he];exact wV _ acc _ g3 he
    ·rw[Jp s _ acc (by omega)]
     exact nv _ acc (by omega)
 exact fun a acc ha=>key (s.size-a) a acc (Nat.le_refl _) ha
theorem YV(q:UInt8)(l:Tx):∀p,Gx q l=some p→p.1.length≤p.2:=by
 intro p
 induction hn:l.length using Nat.strongRecOn generalizing l p with
 |_ n ih=>
  intro h
  cases l with
  |nil=>cases h
  |cons c r=>
   rw[un]at h
   split at h
   ·cases r with
    |nil=>simp at h;subst h;simp
    |cons d r2=>
     simp only at h
     split at h
     ·rw[Option.map_eq_some_iff]at h
      obtain⟨k,hk,rfl⟩:=h;have:=ih r2.length (by simp at hn;omega) r2 k rfl hk
      simp;omega
     ·simp at h;subst h;simp
   ·rw[Option.map_eq_some_iff]at h
    obtain⟨k,hk,rfl⟩:=h;have:=ih r.length (by simp at hn;omega) r k rfl hk
    simp;omega
theorem I5(s:ByteArray)(a b:Nat):(s.extract a b).size≤s.size:=by rw[ByteArray.size_extract];omega
theorem SG(s:ByteArray):(Hn s).size=s.size:=by
 unfold Hn;show(s.data.toList.map Ix).toArray.size=_;rw[List.size_toArray,List.length_map];rfl
theorem Ug(s:ByteArray)(a:Nat)(q:UInt8)(p:Tx×Nat)(h:Ge s a q=some p):(bb p.1).size≤s.size:=by
 unfold Ge at h;obtain⟨r,hr,rfl⟩:=Option.map_eq_some_iff.1 h;have h1:=YV q _ r hr;have h2:=T5 q _ r hr;rw[List.length_drop]at h2;rw[I3];have e:s.size=s.data.toList.length:=rfl;simp only;omega
theorem qaX(s:ByteArray)(a:Nat):(Ip s a).1.2.1.size≤s.size:=by
 unfold Ip;simp only;have h0:(⟨#[]⟩:ByteArray).size≤s.size:=Nat.zero_le _
 split
 ·simp only;rw[SG];exact I5 _ _ _
 ·split
  ·exact I5 _ _ _
  ·split
   ·cases hq:Ge s a 34 with
    |none=>exact h0
    |some p=>exact Ug s a 34 p hq
   ·split
    ·cases hq:Ge s a 39 with
     |none=>exact h0
     |some p=>exact Ug s a 39 p hq
    ·split
     ·split
      ·cases hq:IN s a (n7 s a).toNat with
       |none=>exact h0
       |some p=>
        unfold IN at hq
        split at hq
        ·cases hq
         simp only;rw[I3,List.length_take,List.length_drop];have e:s.size=s.data.toList.length:=rfl;omega
        ·cases hq
      ·split
       ·exact h0
       ·exact I5 _ _ _
     ·split
      ·exact h0
      ·exact I5 _ _ _
theorem YW(s:ByteArray)(a:Nat)(acc:List Tok)(ha:a≤s.size)(h:∀t∈acc,t.2.1.size≤s.size):∀t∈(iF s a acc).1,t.2.1.size≤s.size:=
 No s (fun a acc r=>(∀t∈acc,t.2.1.size≤s.size)→∀t∈r.1,t.2.1.size≤s.size) (fun a acc h h2=>h2) (fun a b acc r h1 h2 h3=>h3) (fun a acc e h1 h2 h3 t ht=>by cases ht)
  (fun a acc r hS he h1 h2 h3 h4=>h3 fun t ht=>by
   rcases List.mem_append.1 ht with ht|ht
   ·exact h4 t ht
   ·simp at ht;subst ht;exact qaX s a) a acc ha h
theorem Wa(s:ByteArray):∀t∈(io s).1,t.2.1.size≤2000:=by
 by_cases h:2000<s.size
 ·have e:io s=([],2,2000):=if_pos h
  rw[e];intro t ht;cases ht
 ·rw[Ln s (by omega)]
  intro t ht;have:=YW s 0 [] (Nat.zero_le _) (fun t ht=>by cases ht) t ht
  omega
def Gap(l:Tx):Prop:=l=[]∨∃r,l=32::r
def IT(k:Int)(t:ByteArray):Prop:=∀(x:ByteArray) (a:Nat) (rest:Tx) (p:Int),x.data.toList.drop a=DO (k,t,p)++rest→Gap rest→LW x a∧Ip x a=((k,t,(a:Int)),a+(DO (k,t,p)).length,0)
theorem Ps(p:UInt8→Bool)(l rest:Tx)(hp:∀c∈l,p c=true)(Fc:p 32=false)(hg:Gap rest):aT p (l++rest)=l.length:=by
 rcases hg with rfl|⟨r,rfl⟩
 ·rw[List.append_nil];exact Q4 p l hp
 ·exact Ud p l 32 r hp Fc
theorem Iz(x:ByteArray)(a:Nat)(c:UInt8)(r:Tx)(h:x.data.toList.drop a=c::r):a<x.size∧(x.data.toList.drop a).headD 0=c∧x.data.toList.drop (a+1)=r:=by
 have h1:=congrArg List.length h;rw[List.length_drop,List.length_cons]at h1
 refine⟨by have e:x.size=x.data.toList.length:=rfl
           omega,by rw[h];rfl,?_⟩
 rw[←List.drop_drop,h];rfl
theorem Pt(x:ByteArray)(a n:Nat)(l rest:Tx)(h:x.data.toList.drop a=l++rest)(hn:n=l.length):x.extract a (a+n)=bb l:=by
 apply ByteArray.ext
 apply Array.ext'
 rw[ByteArray.data_extract,Array.toList_extract,List.extract_eq_take_drop,h,show a+n-a=n by omega,hn]
 simp
def J7(c:UInt8):Bool:= !(n6 c)||(!(i8 c)&& !(He c)&&decide (Hi c<0)&&(c != 34)&&(c != 39)&&(c != 36)&&(c != 45)&&(c != 47))
theorem SH:((List.range 256).all fun n=>J7 (UInt8.ofNat n))=true:=by kernel_rfl
theorem IP{f:UInt8→Bool}(h:((List.range 256).all fun n=>f (UInt8.ofNat n))=true)(c:UInt8):f c=true:=by
 have:=List.all_eq_true.1 h c.toNat (List.mem_range.2 c.toNat_lt)
 simpa using this
theorem Np(c:UInt8)(h:i8 c=true∨He c=true∨0≤Hi c∨c=34∨c=39∨c=36):n6 c=false:=by
 have h0:=IP (f:=J7) SH c;unfold J7 at h0
 cases hf:n6 c with
 |false=>rfl
 |true=>
  rw[hf]at h0;simp only[Bool.not_true,Bool.false_or,Bool.and_eq_true,Bool.not_eq_true',decide_eq_true_iff,bne_iff_ne]at h0;obtain⟨⟨⟨⟨⟨⟨⟨h1,h2⟩,h3⟩,h4⟩,h5⟩,h6⟩,h7⟩,h8⟩:=h0;rcases h with h|h|h|h|h|h
  ·rw[h1]at h;cases h
  ·rw[h2]at h;cases h
  ·omega
  ·exact absurd h h4
  ·exact absurd h h5
  ·exact absurd h h6
theorem Jq(x:ByteArray)(a:Nat)(c:UInt8)(r:Tx)(h:x.data.toList.drop a=c::r)(hc:n6 c=false)(xe:c≠45∨r.take 1≠[45])(Fe:c≠47∨r.take 1≠[42]):LW x a:=by
 obtain⟨h1,h2,h3⟩:=Iz x a c r h;refine⟨h1,by rw[h2];exact hc,?_,?_⟩
 ·rw[h,List.take_succ_cons]
  intro hh;injection hh with h4 h5;rcases xe with h6|h6
  ·exact h6 h4
  ·exact h6 h5
 ·rw[h,List.take_succ_cons]
  intro hh;injection hh with h4 h5;rcases Fe with h6|h6
  ·exact h6 h4
  ·exact h6 h5
def J8(c:UInt8):Bool:= !(i8 c)||((c != 45)&&(c != 47))
theorem SI:((List.range 256).all fun n=>J8 (UInt8.ofNat n))=true:=by kernel_rfl
def KM(c:UInt8):Bool:= !(He c)||((c != 45)&&(c != 47))
theorem Wb:((List.range 256).all fun n=>KM (UInt8.ofNat n))=true:=by kernel_rfl
def KN(c:UInt8):Bool:=(Ix (Ix c)==Ix c)&&(i8 (Ix c)==i8 c)&&(n8 (Ix c)==n8 c)
theorem Wc:((List.range 256).all fun n=>KN (UInt8.ofNat n))=true:=by kernel_rfl
theorem LN(c:UInt8):Ix (Ix c)=Ix c∧i8 (Ix c)=i8 c∧n8 (Ix c)=n8 c:=by
 have h0:=IP (f:=KN) Wc c;unfold KN at h0;simp only[Bool.and_eq_true,beq_iff_eq]at h0;exact⟨h0.1.1,h0.1.2,h0.2⟩
def LO(c:UInt8):Bool:= !(a9 c)|| !(n8 c)
theorem YX:((List.range 256).all fun n=>LO (UInt8.ofNat n))=true:=by kernel_rfl
theorem Uh(c:UInt8)(h:a9 c=true):n8 c=false:=by
 have:=IP (f:=LO) YX c;unfold LO at this;rw[h]at this
 simpa using this
theorem Oq(l:Tx)(c:UInt8)(r:Tx)(hl:l=c::r)(hc:n8 c=true)(ha:∀d∈l,i8 d=true)(au:∀d∈l,Ix d=d):IT 1 (bb l):=by
 intro x a rest p hd hg;have l':DO (1,bb l,p)=l:=rfl;rw[l']at hd⊢;have df:=hd;rw[hl,List.cons_append]at df;obtain⟨h1,h2,h3⟩:=Iz x a c _ df;have hw:i8 c=true:=ha c (by rw[hl];simp)
 have hb:=IP (f:=J8) SI c;unfold J8 at hb;rw[hw]at hb;simp only[Bool.not_true,Bool.false_or,Bool.and_eq_true,bne_iff_ne]at hb;refine⟨Jq x a c _ df (Np c (.inl hw)) (.inl hb.1) (.inl hb.2),?_⟩;unfold Ip;simp only[h2];rw[if_pos hc,hd,Ps i8 l rest ha (by decide) hg,Pt x a l.length l rest hd rfl]
 have:Hn (bb l)=bb l:=by
  unfold Hn;have hm:l.map Ix=l:=by
   conv=>rhs;rw[←List.map_id l]
   exact List.map_congr_left fun d hd=>au d hd
  show bb (l.map Ix)=bb l;rw[hm]
 rw[this]
theorem Nq(l:Tx)(c:UInt8)(r:Tx)(hl:l=c::r)(hc:a9 c=true)(ha:∀d∈l,He d=true):IT 4 (bb l):=by
 intro x a rest p hd hg;have l':DO (4,bb l,p)=l:=rfl;rw[l']at hd⊢;have df:=hd;rw[hl,List.cons_append]at df;obtain⟨h1,h2,h3⟩:=Iz x a c _ df;have hw:He c=true:=ha c (by rw[hl];simp)
 have hb:=IP (f:=KM) Wb c;unfold KM at hb;rw[hw]at hb;simp only[Bool.not_true,Bool.false_or,Bool.and_eq_true,bne_iff_ne]at hb;refine⟨Jq x a c _ df (Np c (.inr (.inl hw))) (.inl hb.1) (.inl hb.2),?_⟩;unfold Ip;simp only[h2];rw[if_neg (by rw[Uh c hc];decide),if_pos hc,hd,Ps He l rest ha (by decide) hg,Pt x a l.length l rest hd rfl]
theorem qaY(q:UInt8)(l rest:Tx)(hr:∀r,rest≠q::r):Gx q (Ks q l++q::rest)=some (l,(Ks q l).length+1):=by
 induction l with
 |nil=>
  show Gx q (q::rest)=_;rw[un,if_pos rfl]
  cases rest with
  |nil=>rfl
  |cons d r=>
   have:d≠q:=fun h=>hr r (by rw[h])
   simp only[this,if_false];rfl
 |cons c r ih=>
  have e:Ks q (c::r)=(if c=q then [q,q]else [c])++Ks q r:=by simp[Ks]
  rw[e]
  by_cases hc:c=q
  ·subst hc
   rw[if_pos rfl];show Gx c (c::c::(Ks c r++c::rest))=_;rw[un,if_pos rfl];simp only[if_true];rw[ih];simp
  ·rw[if_neg hc]
   show Gx q (c::(Ks q r++q::rest))=_;rw[un,if_neg hc,ih];simp
theorem Ui(q:UInt8)(hq:q≠32)(t:ByteArray)(x:ByteArray)(a:Nat)(rest:Tx)(hd:x.data.toList.drop a=L4 q t.data.toList++rest)(hg:Gap rest):Ge x a q=some (t.data.toList,a+(L4 q t.data.toList).length):=by
 have df:x.data.toList.drop a=q::(Ks q t.data.toList++q::rest):=by rw[hd];simp[L4]
 obtain⟨h1,h2,h3⟩:=Iz x a q _ df;unfold Ge;rw[h3,qaY q _ rest]
 ·simp[L4];omega
 ·intro r hr
  rcases hg with rfl|⟨r2,rfl⟩
  ·cases hr
  ·injection hr with h4;exact hq h4.symm
theorem Q6(t:ByteArray):IT 3 t:=by
 intro x a rest p hd hg;have l':DO (3,t,p)=L4 39 t.data.toList:=rfl;rw[l']at hd⊢;have df:x.data.toList.drop a=39::(Ks 39 t.data.toList++39::rest):=by rw[hd];simp[L4]
 obtain⟨h1,h2,h3⟩:=Iz x a 39 _ df;refine⟨Jq x a 39 _ df (by decide) (.inl (by decide)) (.inl (by decide)),?_⟩
 unfold Ip;simp only[h2];rw[if_neg (by decide),if_neg (by decide),if_neg (by decide),if_pos trivial,Ui 39 (by decide) t x a rest hd hg]
theorem Q7(t:ByteArray):IT 2 t:=by
 intro x a rest p hd hg;have l':DO (2,t,p)=L4 34 t.data.toList:=rfl;rw[l']at hd⊢;have df:x.data.toList.drop a=34::(Ks 34 t.data.toList++34::rest):=by rw[hd];simp[L4]
 obtain⟨h1,h2,h3⟩:=Iz x a 34 _ df;refine⟨Jq x a 34 _ df (by decide) (.inl (by decide)) (.inl (by decide)),?_⟩
 unfold Ip;simp only[h2];rw[if_neg (by decide),if_neg (by decide),if_pos trivial,Ui 34 (by decide) t x a rest hd hg]
def J9(c:UInt8):Bool:=decide (Hi c<0)||(!(n8 c)&& !(a9 c)&&(c != 34)&&(c != 39)&&(c != 36))
theorem SJ:((List.range 256).all fun n=>J9 (UInt8.ofNat n))=true:=by kernel_rfl
theorem Q8(rest:Tx)(hg:Gap rest)(c:UInt8)(hc:c≠32):rest.take 1≠[c]:=by
 rcases hg with rfl|⟨r,rfl⟩
 ·simp
 ·simp;exact fun h=>hc h.symm
theorem Ot(c:UInt8)(hc:0≤Hi c):IT 5 (bb [c]):=by
 intro x a rest p hd hg;have l':DO (5,bb [c],p)=[c]:=rfl;rw[l']at hd⊢;have df:x.data.toList.drop a=c::rest:=hd;obtain⟨h1,h2,h3⟩:=Iz x a c _ df;refine⟨Jq x a c _ df (Np c (.inr (.inr (.inl hc)))) (.inr (Q8 rest hg 45 (by decide))) (.inr (Q8 rest hg 42 (by decide))),?_⟩
 have hb:=IP (f:=J9) SJ c;unfold J9 at hb;have hn:¬Hi c<0:=by omega
 rw[decide_eq_false hn]at hb;simp only[Bool.false_or,Bool.and_eq_true,Bool.not_eq_true',bne_iff_ne]at hb;obtain⟨⟨⟨⟨b1,b2⟩,b3⟩,b4⟩,b5⟩:=hb;unfold Ip;simp only[h2];rw[if_neg (by rw[b1];decide),if_neg (by rw[b2];decide),if_neg b3,if_neg b4,if_neg b5,if_neg hn,Pt x a 1 [c] rest hd rfl]
 rfl
theorem SK(l:Tx)(b7:l≠[])(ha:∀d∈l,a9 d=true):IT 5 (bb (36::l)):=by
 intro x a rest p hd hg;have l':DO (5,bb (36::l),p)=36::l:=rfl;rw[l']at hd⊢;have df:x.data.toList.drop a=36::(l++rest):=hd;obtain⟨h1,h2,h3⟩:=Iz x a 36 _ df;refine⟨Jq x a 36 _ df (by decide) (.inl (by decide)) (.inl (by decide)),?_⟩
 obtain⟨d,r,rfl⟩:∃d r,l=d::r:=by
  cases l with
  |nil=>exact absurd rfl b7
  |cons d r=>exact⟨d,r,rfl⟩
 have tD:=ha d (by simp)
 have nZ:Gt (x.data.toList.drop (a+1))=0:=by rw[h3,List.cons_append,Jn,if_neg (by rw[Uh d tD];decide)]
 have rI:n7 x a= -1:=by
  unfold n7;rw[nZ,Nat.add_zero,h3,if_neg];rw[List.cons_append,List.take_succ_cons];intro hh;injection hh with h4;subst h4;exact absurd tD (by decide)
 have fg:aT a9 (x.data.toList.drop (a+1))=(d::r).length:=by rw[h3];exact Ps a9 (d::r) rest ha (by decide) hg
 unfold Ip;simp only[h2];rw[if_neg (by decide),if_neg (by decide),if_neg (by decide),if_neg (by decide),if_pos trivial,rI,if_neg (by decide),fg,if_neg (by simp)]
 have e:a+1+(d::r).length=a+(36::d::r).length:=by simp;omega
 rw[e,Pt x a _ (36::d::r) rest hd rfl]
theorem Q9(s:ByteArray)(a:Nat)(p:UInt8→Bool)(ha:a≤s.size):s.extract a (a+aT p (s.data.toList.drop a))=bb ((s.data.toList.drop a).take (aT p (s.data.toList.drop a))):=by
 have:=Sy s a (a+aT p (s.data.toList.drop a)) (I4 s p a ha);rw[this]
 congr 2;omega
theorem YY(s:ByteArray)(a:Nat)(hS:LW s a)(he:(Ip s a).2.2=0):IT (Ip s a).1.1 (Ip s a).1.2.1:=by
 have h:=hS.lt;have hh:=Po s a h;unfold Ip at he⊢;simp only[hh]at he⊢
 by_cases hl:n8 s[a]=true
 ·rw[if_pos hl]at he⊢
  show IT 1 (Hn _);rw[Q9 s a i8 (by omega)]
  have e:Hn (bb ((s.data.toList.drop a).take (aT i8 (s.data.toList.drop a))))=bb (((s.data.toList.drop a).take (aT i8 (s.data.toList.drop a))).map Ix):=rfl;rw[e];have hn:=Ko i8 s a h (Q3 _ hl);refine Oq _ (Ix s[a]) (((s.data.toList.drop (a+1)).take (aT i8 (s.data.toList.drop (a+1)))).map Ix) ?_ (by rw[(LN _).2.2];exact hl) ?_ ?_
  ·rw[hn,f8 s a h,List.take_succ_cons,List.map_cons]
  ·intro d hd
   obtain⟨c,hc,rfl⟩:=List.mem_map.1 hd;rw[(LN c).2.1];exact Lm i8 _ c hc
  ·intro d hd
   obtain⟨c,hc,rfl⟩:=List.mem_map.1 hd;exact(LN c).1
 ·rw[if_neg hl]at he⊢
  by_cases hd:a9 s[a]=true
  ·rw[if_pos hd]at he⊢
   show IT 4 _;rw[Q9 s a He (by omega)]
   have hn:=Ko He s a h (Ub _ hd);refine Nq _ s[a] ((s.data.toList.drop (a+1)).take (aT He (s.data.toList.drop (a+1)))) ?_ hd ?_
   ·rw[hn,f8 s a h,List.take_succ_cons]
   ·intro d hd
    exact Lm He _ d hd
  ·rw[if_neg hd]at he⊢
   by_cases iL:s[a]=34
   ·rw[if_pos iL]at he⊢
    cases hq:Ge s a 34 with
    |none=>rw[hq]at he;exact absurd (show(6:Int)=0 from he) (by decide)
    |some p=>exact Q7 _
   ·rw[if_neg iL]at he⊢
    by_cases iM:s[a]=39
    ·rw[if_pos iM]at he⊢
     cases hq:Ge s a 39 with
     |none=>rw[hq]at he;exact absurd (show(6:Int)=0 from he) (by decide)
     |some p=>exact Q6 _
    ·rw[if_neg iM]at he⊢
     by_cases cA:s[a]=36
     ·rw[if_pos cA]at he⊢
      by_cases ht:0<n7 s a
      ·rw[if_pos ht]at he⊢
       cases hq:IN s a (n7 s a).toNat with
       |none=>rw[hq]at he;exact absurd (show(6:Int)=0 from he) (by decide)
       |some p=>exact Q6 _
      ·rw[if_neg ht]at he⊢
       by_cases hp:aT a9 (s.data.toList.drop (a+1))=0
       ·rw[if_pos hp]at he;exact absurd he (by decide)
       ·rw[if_neg hp]at he⊢
        show IT 5 _;have e:s.extract a (a+1+aT a9 (s.data.toList.drop (a+1)))=bb (36::(s.data.toList.drop (a+1)).take (aT a9 (s.data.toList.drop (a+1)))):=by
         rw[Sy s a _ (I4 s a9 (a+1) (by omega)),show a+1+aT a9 (s.data.toList.drop (a+1))-a=aT a9 (s.data.toList.drop (a+1))+1 by omega]
         congr 1
         have hb:=f8 s a h;rw[cA]at hb;rw[hb,List.take_succ_cons]
        rw[e];refine SK _ ?_ fun d hd=>Lm a9 _ d hd
        intro hz;have:=congrArg List.length hz;rw[List.length_take,List.length_nil]at this;have h2:=Iw a9 (s.data.toList.drop (a+1));omega
     ·rw[if_neg cA]at he⊢
      by_cases hg:Hi s[a]<0
      ·rw[if_pos hg]at he;exact absurd he (by decide)
      ·rw[if_neg hg]
       show IT 5 _;rw[T7 s a h];exact Ot s[a] (by omega)
theorem NF(s:ByteArray)(a:Nat)(acc:List Tok)(ha:a≤s.size)(h:∀t∈acc,IT t.1 t.2.1):∀t∈(iF s a acc).1,IT t.1 t.2.1:=
 No s (fun a acc r=>(∀t∈acc,IT t.1 t.2.1)→∀t∈r.1,IT t.1 t.2.1) (fun a acc h h2=>h2) (fun a b acc r h1 h2 h3=>h3) (fun a acc e h1 h2 h3 t ht=>by cases ht)
  (fun a acc r hS he h1 h2 h3 h4=>h3 fun t ht=>by
   rcases List.mem_append.1 ht with ht|ht
   ·exact h4 t ht
   ·simp at ht;subst ht;exact YY s a hS he) a acc ha h
theorem SM(s:ByteArray)(a:Nat)(acc:List Tok)(ha:a≤s.size):(iF s a acc).2.1≠0→(iF s a acc).1=[]∧0≤(iF s a acc).2.2∧(iF s a acc).2.2≤(s.size:Int):=
 No s (fun a acc r=>r.2.1≠0→r.1=[]∧0≤r.2.2∧r.2.2≤(s.size:Int)) (fun a acc h h2=>absurd rfl h2) (fun a b acc r h1 h2 h3=>h3) (fun a acc e h1 h2 h3=>⟨rfl,by simp only;omega,by simp only;omega⟩)
  (fun a acc r hS he h1 h2 h3=>h3) a acc ha
theorem Ou(x:ByteArray)(a:Nat)(acc:List Tok)(k:Int)(t:ByteArray)(b:Nat)(hS:LW x a)(e:Ip x a=((k,t,(a:Int)),b,0)):iF x a acc=iF x b (acc++[(k,t,(a:Int))]):=by
 have h:=(Nm x a acc hS).1;rw[e]at h;exact h
theorem Ra(x:ByteArray)(a:Nat)(l rest:Tx)(h:x.data.toList.drop a=l++rest):x.data.toList.drop (a+l.length)=rest:=by
 rw[←List.drop_drop,h,List.drop_left]
theorem Rb(l:List Tok):Gap (Ik l):=by
 cases l with
 |nil=>exact .inl rfl
 |cons t r=>exact .inr ⟨DO t++Ik r,by simp[Ik]⟩
theorem Nr(x y:Tok)(l m:List Tok)(h1:x.1=y.1)(h2:x.2.1=y.2.1)(h:Jk false l m):Jk false (x::l) (y::m):=by
 refine⟨by simp[h.1],fun i a b ha hb=>?_⟩
 cases i with
 |zero=>simp at ha hb;subst ha hb;exact⟨h1,h2,fun h=>by cases h⟩
 |succ i=>exact h.2 i a b (by simpa using ha) (by simpa using hb)
theorem We:∀(l:List Tok),(∀t∈l,IT t.1 t.2.1)→∀(x:ByteArray) (a:Nat) (acc:List Tok),x.data.toList.drop a=Ik l→∃m,iF x a acc=(acc++m,0,0)∧Jk false l m:=by
 intro l
 induction l with
 |nil=>
  intro _ x a acc hd;have:x.size≤a:=by
   have h1:=congrArg List.length hd;rw[List.length_drop]at h1;have e:x.size=x.data.toList.length:=rfl;simp[Ik]at h1;omega
  exact⟨[],by rw[Jp x a acc this,List.append_nil],Jk.refl _ _⟩
 |cons t r ih=>
  intro hg x a acc hd;have df:x.data.toList.drop a=32::(DO t++Ik r):=by rw[hd];simp[Ik]
  obtain⟨h1,h2,h3⟩:=Iz x a 32 _ df;obtain⟨hS,ho⟩:=hg t (by simp) x (a+1) (Ik r) t.2.2 h3 (Rb r)
  obtain⟨m,hm,ha⟩:=ih (fun u hu=>hg u (by simp[hu])) x (a+1+(DO t).length) (acc++[(t.1,t.2.1,((a+1:Nat):Int))]) (Ra x (a+1) _ _ h3)
  refine⟨(t.1,t.2.1,((a+1:Nat):Int))::m,?_,Nr _ _ _ _ rfl rfl ha⟩;rw[Nj x a acc h1 (by rw[h2];decide),Ou x (a+1) acc t.1 t.2.1 _ hS ho]
  rw[show(t.1,t.2.1,t.2.2)=t from rfl,hm,List.append_assoc];rfl
theorem back(l:List Tok)(hg:∀t∈l,IT t.1 t.2.1):∃m,iF (bb (J5 l)) 0 []=(m,0,0)∧Jk false l m:=by
 cases l with
 |nil=>exact⟨[],by rw[Jp _ _ _ (by show(J5 []).toArray.size≤0;exact Nat.le_refl _)],Jk.refl _ _⟩
 |cons t r=>
  have hd:(bb (J5 (t::r))).data.toList.drop 0=DO t++Ik r:=by simp[J5]
  obtain⟨hS,ho⟩:=hg t (by simp) (bb (J5 (t::r))) 0 (Ik r) t.2.2 hd (Rb r)
  obtain⟨m,hm,ha⟩:=We r (fun u hu=>hg u (by simp[hu])) (bb (J5 (t::r))) (0+(DO t).length) [(t.1,t.2.1,((0:Nat):Int))] (Ra _ 0 _ _ hd)
  refine⟨(t.1,t.2.1,((0:Nat):Int))::m,?_,Nr _ _ _ _ rfl rfl ha⟩;rw[Ou _ 0 [] t.1 t.2.1 _ hS ho];rw[show(t.1,t.2.1,t.2.2)=t from rfl];exact hm
def L5(l:Tx):Nat:=l.foldl (fun n c=>10*n+(c.toNat-48)) 0
theorem Mg(l:Tx):(bb l).data.toList=l:=by simp
theorem YZ(l:Tx)(c:UInt8):L5 (l++[c])=10*L5 l+(c.toNat-48):=by
 unfold L5;rw[List.foldl_append];rfl
theorem SN(c:UInt8)(h:a9 c=true):48≤c.toNat∧c.toNat≤57:=by
 unfold a9 Hh at h;rw[decide_eq_true_iff]at h;omega
theorem Y0:∀(l:Tx) (n:Nat),l.all a9=true→l.foldl (fun n c=>10*n+(c.toNat-48)) n<(n+1)*10 ^ l.length:=by
 intro l
 induction l with
 |nil=>intro n _;simp
 |cons c r ih=>
  intro n h;rw[List.all_cons,Bool.and_eq_true]at h;have h1:=ih (10*n+(c.toNat-48)) h.2;have h3:=SN c h.1;rw[List.foldl_cons,List.length_cons,Nat.pow_succ];have h4:(10*n+(c.toNat-48)+1)*10 ^ r.length≤((n+1)*10)*10 ^ r.length:=Nat.mul_le_mul_right _ (by omega)
  have h5:(n+1)*(10 ^ r.length*10)=((n+1)*10)*10 ^ r.length:=by rw[Nat.mul_comm (10 ^ r.length) 10,Nat.mul_assoc]
  omega
end Go.Proofs.YtpgddamhdfmdjaaGreatDoor
