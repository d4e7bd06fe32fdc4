/- Tea Teb -/
import Derived.Test.YtpgddamhdfmdjaaGreatDoorG8
import Derived.Test.YtpgddamhdfmdjaaGreatDoorG9
import Derived.Lib.ItoaMem
import Derived.KernelRfl
import Derived.Test.YtpgddamhdfmdjaaGreatDoorG4
import Derived.Test.YtpgddamhdfmdjaaGreatDoorG1
set_option linter.unusedSimpArgs false
set_option linter.unusedVariables false
set_option maxRecDepth 100000
set_option maxHeartbeats 16000000
namespace Go.Proofs.YtpgddamhdfmdjaaGreatDoor
open Go.ChangeShapes Go.WideShapes Go.ChangeAt Go.RowKit
abbrev Cm:Type:=Int×ByteArray×Int×Int×Bool
def Lp:Cm:=(0,⟨#[]⟩,0,0,false)
def kwB(s:ByteArray):Bool:=Is.contains s.data.toList
def IB:List Tx:=[[105,110,115,101,114,116],[117,112,100,97,116,101],[100,101,108,101,116,101],[109,101,114,103,101]]
def Kv(s:ByteArray):Bool:=match(io s).1 with| [t]=>t.1==1&&t.2.1.data.toList==s.data.toList|_=>false
def IU(s:ByteArray):Bool:=decide (s.size≤30)&&Kv s&& !kwB s&& !IB.contains s.data.toList
def Wi(t:Tok):Bool:=t.1==1&&IU t.2.1
def Kr(t:Tok):Option Nat:=if t.1=4∧t.2.1.size≤6∧t.2.1.size≠0∧t.2.1.data.toList.all a9=true then some (L5 t.2.1.data.toList)else none
def inN(n:Int):Bool:=decide (0≤n∧n≤999999)
def AS(c:Cm)(p t:Tok):Cm×Bool:=
 if p.2.1.data.toList=[36,49]then((c.1,t.2.1,c.2.2.1,c.2.2.2.1,c.2.2.2.2),Wi t)
 else if p.2.1.data.toList=[36,50]then((c.1,c.2.1,((Kr t).getD 0:Nat),c.2.2.2.1,c.2.2.2.2),(Kr t).isSome)
 else if p.2.1.data.toList=[36,51]then((c.1,c.2.1,c.2.2.1,((Kr t).getD 0:Nat),c.2.2.2.2),(Kr t).isSome)
 else(c,t.1==p.1&&t.2.1.data.toList==p.2.1.data.toList)
def m8:Cm→List Tok→List Tok→Cm×Bool
 |c,p::ps,t::ts=>if(AS c p t).2=true then m8 (AS c p t).1 ps ts else(Lp,false)
 |c,_,_=>(c,true)
abbrev Fm:Type:=Int×Bool×ByteArray
def dl:List Fm:=[(1,false,⟨#[115,101,108,101,99,116,32,42,32,102,114,111,109,32,36,49]⟩),(1,true,⟨#[115,101,108,101,99,116,32,42,32,102,114,111,109,32,36,49,32,119,104,101,114,101,32,107,32,61,32,36,50]⟩),(2,true,⟨#[105,110,115,101,114,116,32,105,110,116,111,32,36,49,32,118,97,108,117,101,115,32,40,32,36,50,32,44,32,36,51,32,41]⟩),(3,true,⟨#[117,112,100,97,116,101,32,36,49,32,115,101,116,32,118,32,61,32,118,32,43,32,49,32,119,104,101,114,101,32,107,32,61,32,36,50]⟩),(4,false,⟨#[100,101,108,101,116,101,32,102,114,111,109,32,36,49]⟩),(4,true,⟨#[100,101,108,101,116,101,32,102,114,111,109,32,36,49,32,119,104,101,114,101,32,107,32,61,32,36,50]⟩),(5,false,⟨#[99,114,101,97,116,101,32,116,97,98,108,101,32,36,49]⟩)]
def rx(f:Fm):List Tok:=(io f.2.2).1
def IC(f:Fm)(l:List Tok):Cm×Bool:=if l.length=(rx f).length then m8 (f.1,⟨#[]⟩,0,0,f.2.1) (rx f) l else(Lp,false)
def Ih(f:Fm)(c:Cm):Tx:=AT c.2.1.data.toList (Lib.itoa c.2.2.1) (Lib.itoa c.2.2.2.1) f.2.2.data.toList
def Ir:List Fm→Cm→Tx
 | [],_=>[]
 |f::r,c=>if f.1=c.1∧f.2.1=c.2.2.2.2∧IC f (io (bb (Ih f c))).1=(c,true)then Ih f c else Ir r c
def Ho(c:Cm):Tx:=Ir dl c
def okC(c:Cm):Bool:=IU c.2.1&&inN c.2.2.1&&inN c.2.2.2.1&&(c.2.2.2.2||c.2.2.1==0)&&(c.1==2||c.2.2.2.1==0)
def Nt(n:Int):Tx:=Lib.itoa n
def nl(c:Cm):Tx:=
 if okC c=false then []else
 if c.1=1 then [115,101,108,101,99,116,32,42,32,102,114,111,109,32]++c.2.1.data.toList++(if c.2.2.2.2=true then [32,119,104,101,114,101,32,107,32,61,32]++Nt c.2.2.1 else [])
 else if c.1=2 then(if c.2.2.2.2=true then [105,110,115,101,114,116,32,105,110,116,111,32]++c.2.1.data.toList++[32,118,97,108,117,101,115,32,40,32]++Nt c.2.2.1++[32,44,32]++Nt c.2.2.2.1++[32,41]else [])
 else if c.1=3 then(if c.2.2.2.2=true then [117,112,100,97,116,101,32]++c.2.1.data.toList++[32,115,101,116,32,118,32,61,32,118,32,43,32,49]++[32,119,104,101,114,101,32,107,32,61,32]++Nt c.2.2.1 else [])
 else if c.1=4 then [100,101,108,101,116,101,32,102,114,111,109,32]++c.2.1.data.toList++(if c.2.2.2.2=true then [32,119,104,101,114,101,32,107,32,61,32]++Nt c.2.2.1 else [])
 else if c.1=5 then(if c.2.2.2.2=true then []else [99,114,101,97,116,101,32,116,97,98,108,101,32]++c.2.1.data.toList)
 else []
def SU:List Tok:=[(1,⟨#[115,101,108,101,99,116]⟩,0),(5,⟨#[42]⟩,7),(1,⟨#[102,114,111,109]⟩,9),(5,⟨#[36,49]⟩,14)]
def Wj:List Tok:=SU++[(1,⟨#[119,104,101,114,101]⟩,17),(1,⟨#[107]⟩,23),(5,⟨#[61]⟩,25),(5,⟨#[36,50]⟩,27)]
def Wk:List Tok:=[(1,⟨#[105,110,115,101,114,116]⟩,0),(1,⟨#[105,110,116,111]⟩,7),(5,⟨#[36,49]⟩,12),(1,⟨#[118,97,108,117,101,115]⟩,15),(5,⟨#[40]⟩,22),(5,⟨#[36,50]⟩,24),(5,⟨#[44]⟩,27),(5,⟨#[36,51]⟩,29),(5,⟨#[41]⟩,32)]
def Wm:List Tok:=[(1,⟨#[117,112,100,97,116,101]⟩,0),(5,⟨#[36,49]⟩,7),(1,⟨#[115,101,116]⟩,10),(1,⟨#[118]⟩,14),(5,⟨#[61]⟩,16),(1,⟨#[118]⟩,18),(5,⟨#[43]⟩,20),(4,⟨#[49]⟩,22),(1,⟨#[119,104,101,114,101]⟩,24),(1,⟨#[107]⟩,30),(5,⟨#[61]⟩,32),(5,⟨#[36,50]⟩,34)]
def SV:List Tok:=[(1,⟨#[100,101,108,101,116,101]⟩,0),(1,⟨#[102,114,111,109]⟩,7),(5,⟨#[36,49]⟩,12)]
def Wn:List Tok:=SV++[(1,⟨#[119,104,101,114,101]⟩,15),(1,⟨#[107]⟩,21),(5,⟨#[61]⟩,23),(5,⟨#[36,50]⟩,25)]
def Wo:List Tok:=[(1,⟨#[99,114,101,97,116,101]⟩,0),(1,⟨#[116,97,98,108,101]⟩,7),(5,⟨#[36,49]⟩,13)]
theorem qa1:io ⟨#[115,101,108,101,99,116,32,42,32,102,114,111,109,32,36,49]⟩=(SU,0,0):=by kernel_rfl
theorem qa2:io ⟨#[115,101,108,101,99,116,32,42,32,102,114,111,109,32,36,49,32,119,104,101,114,101,32,107,32,61,32,36,50]⟩=(Wj,0,0):=by kernel_rfl
theorem qa3:io ⟨#[105,110,115,101,114,116,32,105,110,116,111,32,36,49,32,118,97,108,117,101,115,32,40,32,36,50,32,44,32,36,51,32,41]⟩=(Wk,0,0):=by kernel_rfl
theorem qa4:io ⟨#[117,112,100,97,116,101,32,36,49,32,115,101,116,32,118,32,61,32,118,32,43,32,49,32,119,104,101,114,101,32,107,32,61,32,36,50]⟩=(Wm,0,0):=by kernel_rfl
theorem qa5:io ⟨#[100,101,108,101,116,101,32,102,114,111,109,32,36,49]⟩=(SV,0,0):=by kernel_rfl
theorem qa6:io ⟨#[100,101,108,101,116,101,32,102,114,111,109,32,36,49,32,119,104,101,114,101,32,107,32,61,32,36,50]⟩=(Wn,0,0):=by kernel_rfl
theorem qa7:io ⟨#[99,114,101,97,116,101,32,116,97,98,108,101,32,36,49]⟩=(Wo,0,0):=by kernel_rfl
def i9:List (Int×Bool×ByteArray×List Tok):=[(1,false,⟨#[115,101,108,101,99,116,32,42,32,102,114,111,109,32,36,49]⟩,SU),(1,true,⟨#[115,101,108,101,99,116,32,42,32,102,114,111,109,32,36,49,32,119,104,101,114,101,32,107,32,61,32,36,50]⟩,Wj),(2,true,⟨#[105,110,115,101,114,116,32,105,110,116,111,32,36,49,32,118,97,108,117,101,115,32,40,32,36,50,32,44,32,36,51,32,41]⟩,Wk),(3,true,⟨#[117,112,100,97,116,101,32,36,49,32,115,101,116,32,118,32,61,32,118,32,43,32,49,32,119,104,101,114,101,32,107,32,61,32,36,50]⟩,Wm),(4,false,⟨#[100,101,108,101,116,101,32,102,114,111,109,32,36,49]⟩,SV),(4,true,⟨#[100,101,108,101,116,101,32,102,114,111,109,32,36,49,32,119,104,101,114,101,32,107,32,61,32,36,50]⟩,Wn),(5,false,⟨#[99,114,101,97,116,101,32,116,97,98,108,101,32,36,49]⟩,Wo)]
theorem LR:∀f∈dl,∃q∈i9,f=(q.1,q.2.1,q.2.2.1)∧rx f=q.2.2.2:=by
 intro f hf;simp only[dl,List.mem_cons,List.not_mem_nil,or_false]at hf;rcases hf with rfl|rfl|rfl|rfl|rfl|rfl|rfl
 ·exact⟨_,List.mem_cons_self,rfl,by unfold rx;rw[qa1]⟩
 ·exact⟨_,List.mem_cons_of_mem _ List.mem_cons_self,rfl,by unfold rx;rw[qa2]⟩
 ·exact⟨_,List.mem_cons_of_mem _ (List.mem_cons_of_mem _ List.mem_cons_self),rfl,by unfold rx;rw[qa3]⟩
 ·exact⟨_,List.mem_cons_of_mem _ (List.mem_cons_of_mem _ (List.mem_cons_of_mem _ List.mem_cons_self)),rfl,by unfold rx;rw[qa4]⟩
 ·exact⟨_,List.mem_cons_of_mem _ (List.mem_cons_of_mem _ (List.mem_cons_of_mem _ (List.mem_cons_of_mem _ List.mem_cons_self))),rfl,by unfold rx;rw[qa5]⟩
 ·exact⟨_,List.mem_cons_of_mem _ (List.mem_cons_of_mem _ (List.mem_cons_of_mem _ (List.mem_cons_of_mem _ (List.mem_cons_of_mem _ List.mem_cons_self)))),rfl,by unfold rx;rw[qa6]⟩
 ·exact⟨_,List.mem_cons_of_mem _ (List.mem_cons_of_mem _ (List.mem_cons_of_mem _ (List.mem_cons_of_mem _ (List.mem_cons_of_mem _ (List.mem_cons_of_mem _ List.mem_cons_self))))),rfl,by unfold rx;rw[qa7]⟩
theorem Wp(i:Nat)(h:i<10):a9 (UInt8.ofNat (48+i))=true∧He (UInt8.ofNat (48+i))=true∧(UInt8.ofNat (48+i)).toNat=48+i:=by
 have:((List.range 10).all fun i=>a9 (UInt8.ofNat (48+i))&&He (UInt8.ofNat (48+i))&&decide ((UInt8.ofNat (48+i)).toNat=48+i))=true:=by kernel_rfl
 have:=List.all_eq_true.1 this i (List.mem_range.2 h);simp only[Bool.and_eq_true,decide_eq_true_eq]at this;exact⟨this.1.1,this.1.2,this.2⟩
theorem Y4(u:Nat):(Lib.decDigits u).all a9=true∧(Lib.decDigits u).all He=true∧L5 (Lib.decDigits u)=u∧Lib.decDigits u≠[]:=by
 induction u using Nat.strongRecOn with
 |ind u ih=>
  rw[Lib.decDigits]
  split
  ·rename_i h
   obtain⟨h1,h2,h3⟩:=Wp u h;refine⟨by rw[List.all_cons,h1];rfl,by rw[List.all_cons,h2];rfl,?_,by simp⟩
   show 10*0+((UInt8.ofNat (48+u)).toNat-48)=u;rw[h3];omega
  ·rename_i h
   obtain⟨i1,i2,i3,i4⟩:=ih (u / 10) (by omega)
   obtain⟨h1,h2,h3⟩:=Wp (u % 10) (by omega)
   refine⟨by rw[List.all_append,i1,List.all_cons,h1];rfl,by rw[List.all_append,i2,List.all_cons,h2];rfl,?_,by simp⟩
   rw[YZ,i3,h3];omega
theorem SW(u k:Nat)(hk:1≤k)(h:u<10 ^ k):(Lib.decDigits u).length≤k:=by
 induction k using Nat.strongRecOn generalizing u with
 |ind k ih=>
  rw[Lib.decDigits]
  split
  ·simpa using hk
  ·rename_i oW
   have h2:2≤k:=by
    rcases Nat.lt_or_ge k 2 with hl|hl
    ·have:k=1:=by omega
     subst this;simp at h;omega
    ·exact hl
   have e:10 ^ k=10 ^ (k-1)*10:=by rw[←Nat.pow_succ];congr 1;omega
   have:=ih (k-1) (by omega) (u / 10) (by omega) (by rw[e]at h;omega)
   rw[List.length_append,List.length_singleton];omega
theorem If(n:Int)(h:inN n=true):∃(c:UInt8) (r:Tx),Lib.itoa n=c::r∧a9 c=true∧(∀d∈Lib.itoa n,He d=true)∧(∀p:Int,Kr (4,bb (Lib.itoa n),p)=some n.toNat)∧(Lib.itoa n).length≤6:=by
 obtain⟨h0,h1⟩:=of_decide_eq_true h;obtain⟨u,rfl⟩:∃u:Nat,n=u:=⟨n.toNat,by omega⟩
 rw[Lib.itoa_nonneg];obtain⟨i1,i2,i3,i4⟩:=Y4 u;have hl:=SW u 6 (by omega) (by omega)
 cases hd:Lib.decDigits u with
 |nil=>exact absurd hd i4
 |cons c r=>
  rw[hd]at i1 i2 i3 hl;refine⟨c,r,rfl,by rw[List.all_cons,Bool.and_eq_true]at i1;exact i1.1,fun d df=>List.all_eq_true.1 i2 d df,fun p=>?_,hl⟩
  have hs:(bb (c::r)).size=(c::r).length:=I3 _;have hc:(4:Int)=4∧(bb (c::r)).size≤6∧(bb (c::r)).size≠0∧(bb (c::r)).data.toList.all a9=true:=⟨rfl,by rw[hs];exact hl,by rw[hs];simp,by rw[Mg];exact i1⟩
  show(if(4:Int)=4∧(bb (c::r)).size≤6∧(bb (c::r)).size≠0∧(bb (c::r)).data.toList.all a9=true then some (L5 (bb (c::r)).data.toList)else none)=_
  rw[if_pos hc,Mg,i3];rfl
theorem SX(t:Tok)(n:Nat)(h:Kr t=some n):inN (n:Int)=true:=by
 unfold Kr at h
 split at h
 ·rename_i hc
  injection h with h;have hl:t.2.1.data.toList.length≤6:=hc.2.1;have:=Y0 t.2.1.data.toList 0 hc.2.2.2;have h2:10 ^ t.2.1.data.toList.length≤10 ^ 6:=Nat.pow_le_pow_right (by decide) hl
  have h3:L5 t.2.1.data.toList<1000000:=by unfold L5;omega
  exact decide_eq_true ⟨by omega,by omega⟩
 ·cases h
theorem Uj(c:Cm)(p t u:Tok)(h1:t.1=u.1)(h2:t.2.1=u.2.1):AS c p t=AS c p u:=by
 obtain⟨a,b,x⟩:=t;obtain⟨a',b',y⟩:=u
 cases h1;cases h2;rfl
theorem Uk{x y:Tok}{l m:List Tok}(h:Jk false (x::l) (y::m)):x.1=y.1∧x.2.1=y.2.1∧Jk false l m:=by
 obtain⟨h1,h2⟩:=h;obtain⟨a,b,_⟩:=h2 0 x y rfl rfl;refine⟨a,b,by simpa using h1,fun i u v hu hv=>?_⟩
 obtain⟨c,d,_⟩:=h2 (i+1) u v (by simpa using hu) (by simpa using hv)
 exact⟨c,d,fun h=>by cases h⟩
theorem Ul:∀(ps l m:List Tok) (c:Cm),Jk false l m→m8 c ps l=m8 c ps m:=by
 intro ps
 induction ps with
 |nil=>intro l m c _;rfl
 |cons p ps ih=>
  intro l m c h
  match l,m,h with
  | [],[],_=>rfl
  | [],y::m,h=>exact absurd h.1 (by simp)
  |x::l,[],h=>exact absurd h.1 (by simp)
  |x::l,y::m,h=>
   obtain⟨h1,h2,h3⟩:=Uk h;rw[m8,m8,Uj c p x y h1 h2,ih l m _ h3]
theorem Um(f:Fm)(l m:List Tok)(h:Jk false l m):IC f l=IC f m:=by
 unfold IC;rw[h.1,Ul _ l m _ h]
def BT(c:Cm)(p:Tok):Tok:=
 if p.2.1.data.toList=[36,49]then(1,c.2.1,0)
 else if p.2.1.data.toList=[36,50]then(4,bb (Lib.itoa c.2.2.1),0)
 else if p.2.1.data.toList=[36,51]then(4,bb (Lib.itoa c.2.2.2.1),0)
 else(p.1,p.2.1,0)
def hT(ps:List Tok):Bool:=ps.any fun p=>p.2.1.data.toList==[36,49]
def hK(ps:List Tok):Bool:=ps.any fun p=>p.2.1.data.toList==[36,50]
def hV(ps:List Tok):Bool:=ps.any fun p=>p.2.1.data.toList==[36,51]
theorem Ju(p:Tok)(ps:List Tok):hT (p::ps)=((p.2.1.data.toList==[36,49])||hT ps):=rfl
theorem Jv(p:Tok)(ps:List Tok):hK (p::ps)=((p.2.1.data.toList==[36,50])||hK ps):=rfl
theorem Jw(p:Tok)(ps:List Tok):hV (p::ps)=((p.2.1.data.toList==[36,51])||hV ps):=rfl
theorem SY:∀q∈i9,hT q.2.2.2=true∧hK q.2.2.2=q.2.1∧hV q.2.2.2=(q.1==2)∧q.2.2.2.length≤12:=by
 have h:(i9.all fun q=>hT q.2.2.2&&(hK q.2.2.2==q.2.1)&&(hV q.2.2.2==(q.1==2))&&decide (q.2.2.2.length≤12))=true:=by kernel_rfl
 intro q hq;have:=List.all_eq_true.1 h q hq;simp only[Bool.and_eq_true,beq_iff_eq,decide_eq_true_eq]at this;exact⟨this.1.1.1,this.1.1.2,this.1.2,this.2⟩
theorem Un:∀q∈i9,∀c:Cm,Ih (q.1,q.2.1,q.2.2.1) c=J5 (q.2.2.2.map (BT c)):=by
 rintro q hq ⟨k,T,K,V,b⟩;simp only[i9,List.mem_cons,List.not_mem_nil,or_false]at hq;rcases hq with rfl|rfl|rfl|rfl|rfl|rfl|rfl<;>
  simp[Ih,AT,SU,Wj,Wk,Wm,SV,Wn,Wo,BT,J5,Ik,DO]
def L6(t:Tok):Bool:=match t.2.1.data.toList with
 | []=>false
 |c::r=>(t.1==1&&n8 c&&(c::r).all i8&&(c::r).all fun d=>Ix d==d)||(t.1==4&&a9 c&&(c::r).all He)||(t.1==5&&r.isEmpty&&decide (0≤Hi c))
theorem Wr(t:Tok)(h:L6 t=true):IT t.1 t.2.1:=by
 obtain⟨k,s,p⟩:=t;have e:s=bb s.data.toList:=by apply ByteArray.ext;simp
 show IT k s;rw[e];unfold L6 at h;simp only at h
 split at h
 ·cases h
 ·rename_i c r hs
  rw[hs];simp only[Bool.or_eq_true,Bool.and_eq_true,beq_iff_eq,decide_eq_true_eq,List.isEmpty_iff]at h;rcases h with(⟨⟨⟨rfl,h1⟩,h2⟩,h3⟩|⟨⟨rfl,h1⟩,h2⟩)|⟨⟨rfl,rfl⟩,h1⟩
  ·exact Oq (c::r) c r rfl h1 (List.all_eq_true.1 h2) (fun d hd=>by have:=List.all_eq_true.1 h3 d hd;simpa using this)
  ·exact Nq (c::r) c r rfl h1 (List.all_eq_true.1 h2)
  ·exact Ot c h1
theorem Rh:∀q∈i9,∀p∈q.2.2.2,L6 (p.1,p.2.1,0)=true∨p.2.1.data.toList=[36,49]∨p.2.1.data.toList=[36,50]∨p.2.1.data.toList=[36,51]:=by
 have h:(i9.all fun q=>q.2.2.2.all fun p=>L6 (p.1,p.2.1,0)||p.2.1.data.toList==[36,49]||p.2.1.data.toList==[36,50]||p.2.1.data.toList==[36,51])=true:=by kernel_rfl
 intro q hq p hp;have:=List.all_eq_true.1 (List.all_eq_true.1 h q hq) p hp;simp only[Bool.or_eq_true,beq_iff_eq,or_assoc]at this;exact this
theorem Uo(s:ByteArray)(h:Kv s=true):∃p,(io s).1=[(1,s,p)]:=by
 unfold Kv at h
 split at h
 ·rename_i t ht
  obtain⟨k,u,p⟩:=t;simp only[Bool.and_eq_true,beq_iff_eq]at h;obtain⟨rfl,h2⟩:=h;have:u=s:=by apply ByteArray.ext;exact Array.ext' h2
  exact⟨p,by rw[ht,this]⟩
 ·cases h
theorem Mh(s:ByteArray)(h:IU s=true):s.size≤30∧(∃p,(io s).1=[(1,s,p)])∧kwB s=false∧IB.contains s.data.toList=false:=by
 unfold IU at h;simp only[Bool.and_eq_true,decide_eq_true_eq,Bool.not_eq_true']at h;exact⟨h.1.1.1,Uo s h.1.1.2,h.1.2,h.2⟩
theorem Y5(s:ByteArray)(h:(io s).1≠[]):(io s).2.1=0:=by
 by_cases hb:2000<s.size
 ·have e:io s=([],2,2000):=if_pos hb
  rw[e]at h;exact absurd rfl h
 ·rw[Ln s (by omega)]at h⊢
  by_cases hz:(iF s 0 []).2.1=0
  ·exact hz
  ·exact absurd (SM s 0 [] (Nat.zero_le _) hz).1 h
theorem Up(s:ByteArray)(h:IU s=true):IT 1 s:=by
 obtain⟨h1,⟨p,h2⟩,_⟩:=Mh s h;have hb:¬2000<s.size:=by omega
 rw[Ln s (by omega)]at h2
 exact NF s 0 [] (Nat.zero_le _) (fun t ht=>by cases ht) (1,s,p) (by rw[h2];simp)
theorem Pw(n:Int)(h:inN n=true):IT 4 (bb (Lib.itoa n)):=by
 obtain⟨c,r,h1,h2,h3,_⟩:=If n h;exact Nq (Lib.itoa n) c r h1 h2 h3
def okP(c:Cm):Prop:=IU c.2.1=true∧inN c.2.2.1=true∧inN c.2.2.2.1=true
theorem Uq:∀q∈i9,∀c:Cm,okP c→∀t∈q.2.2.2.map (BT c),IT t.1 t.2.1∧t.2.1.size≤30:=by
 intro q hq c hc t ht;obtain⟨p,hp,rfl⟩:=List.mem_map.1 ht;unfold BT
 split
 ·exact⟨Up _ hc.1,(Mh _ hc.1).1⟩
 ·split
  ·refine⟨Pw _ hc.2.1,?_⟩
   obtain⟨_,_,_,_,_,_,h6⟩:=If _ hc.2.1;show(bb (Lib.itoa c.2.2.1)).size≤30;rw[I3];omega
  ·split
   ·refine⟨Pw _ hc.2.2,?_⟩
    obtain⟨_,_,_,_,_,_,h6⟩:=If _ hc.2.2;show(bb (Lib.itoa c.2.2.2.1)).size≤30;rw[I3];omega
   ·rename_i n1 n2 n3
    refine⟨Wr (p.1,p.2.1,0) ((Rh q hq p hp).resolve_right (by rintro(h|h|h)<;>contradiction)),?_⟩
    have h:(i9.all fun q=>q.2.2.2.all fun p=>decide (p.2.1.size≤30))=true:=by kernel_rfl
    exact of_decide_eq_true (List.all_eq_true.1 (List.all_eq_true.1 h q hq) p hp)
theorem Ur:∀q∈i9,∀c:Cm,okP c→∃m,io (bb (Ih (q.1,q.2.1,q.2.2.1) c))=(m,0,0)∧Jk false (q.2.2.2.map (BT c)) m:=by
 intro q hq c hc;have hg:=Uq q hq c hc;have bH:=VX _ 30 fun t ht=>(hg t ht).2
 rw[List.length_map]at bH;have Fg:=(SY q hq).2.2.2;rw[Un q hq c,Ln _ (by rw[I3];omega)]
 exact back _ fun t ht=>(hg t ht).1
theorem Us(c:Cm)(hc:okP c):∀(ps:List Tok) (c0:Cm),m8 c0 ps (ps.map (BT c))=((c0.1,(if hT ps=true then c.2.1 else c0.2.1),(if hK ps=true then c.2.2.1 else c0.2.2.1),(if hV ps=true then c.2.2.2.1 else c0.2.2.2.1),c0.2.2.2.2),true):=by
 obtain⟨hn,hk,hv⟩:=hc;obtain⟨_,_,_,_,_,k5,_⟩:=If _ hk;obtain⟨_,_,_,_,_,v5,_⟩:=If _ hv;have k0:=(of_decide_eq_true hk).1;have v0:=(of_decide_eq_true hv).1;intro ps
 induction ps with
 |nil=>rintro⟨a,b,d,e,f⟩;simp[m8,hT,hK,hV]
 |cons p ps ih=>
  rintro⟨a,b,d,e,f⟩;rw[List.map_cons,m8]
  by_cases h1:p.2.1.data.toList=[36,49]
  ·have e2:AS (a,b,d,e,f) p (BT c p)=((a,c.2.1,d,e,f),true):=by
    unfold AS BT;rw[if_pos h1,if_pos h1];simp[Wi,hn]
   rw[e2,if_pos rfl,ih];have b1:(p.2.1.data.toList==[36,49])=true:=by rw[h1];rfl
   have b2:(p.2.1.data.toList==[36,50])=false:=by rw[h1];rfl
   have b3:(p.2.1.data.toList==[36,51])=false:=by rw[h1];rfl
   rw[Ju,Jv,Jw,b1,b2,b3];cases hT ps<;>cases hK ps<;>cases hV ps<;>rfl
  ·by_cases h2:p.2.1.data.toList=[36,50]
   ·have e2:AS (a,b,d,e,f) p (BT c p)=((a,b,c.2.2.1,e,f),true):=by
     unfold AS BT;rw[if_neg h1,if_neg h1,if_pos h2,if_pos h2,k5];simp;omega
    rw[e2,if_pos rfl,ih];have b1:(p.2.1.data.toList==[36,49])=false:=by rw[h2];rfl
    have b2:(p.2.1.data.toList==[36,50])=true:=by rw[h2];rfl
    have b3:(p.2.1.data.toList==[36,51])=false:=by rw[h2];rfl
    rw[Ju,Jv,Jw,b1,b2,b3];cases hT ps<;>cases hK ps<;>cases hV ps<;>rfl
   ·by_cases h3:p.2.1.data.toList=[36,51]
    ·have e2:AS (a,b,d,e,f) p (BT c p)=((a,b,d,c.2.2.2.1,f),true):=by
      unfold AS BT;rw[if_neg h1,if_neg h1,if_neg h2,if_neg h2,if_pos h3,if_pos h3,v5];simp;omega
     rw[e2,if_pos rfl,ih];have b1:(p.2.1.data.toList==[36,49])=false:=by rw[h3];rfl
     have b2:(p.2.1.data.toList==[36,50])=false:=by rw[h3];rfl
     have b3:(p.2.1.data.toList==[36,51])=true:=by rw[h3];rfl
     rw[Ju,Jv,Jw,b1,b2,b3];cases hT ps<;>cases hK ps<;>cases hV ps<;>rfl
    ·have e2:AS (a,b,d,e,f) p (BT c p)=((a,b,d,e,f),true):=by
      unfold AS BT;rw[if_neg h1,if_neg h1,if_neg h2,if_neg h2,if_neg h3,if_neg h3];simp
     rw[e2,if_pos rfl,ih];have b1:(p.2.1.data.toList==[36,49])=false:=by rw[beq_eq_false_iff_ne];exact h1
     have b2:(p.2.1.data.toList==[36,50])=false:=by rw[beq_eq_false_iff_ne];exact h2
     have b3:(p.2.1.data.toList==[36,51])=false:=by rw[beq_eq_false_iff_ne];exact h3
     rw[Ju,Jv,Jw,b1,b2,b3];rfl
theorem Ws:∀(ps l:List Tok) (c0 d:Cm),l.length=ps.length→m8 c0 ps l=(d,true)→d.1=c0.1∧d.2.2.2.2=c0.2.2.2.2∧(if hT ps=true then IU d.2.1=true else d.2.1=c0.2.1)∧(if hK ps=true then inN d.2.2.1=true else d.2.2.1=c0.2.2.1)∧(if hV ps=true then inN d.2.2.2.1=true else d.2.2.2.1=c0.2.2.2.1):=by
 intro ps
 induction ps with
 |nil=>
  intro l c0 d hl h
  cases l with
  |cons _ _=>simp at hl
  |nil=>
   rw[m8]at h
   ·cases h;simp[hT,hK,hV]
   ·intro _ _ _ _ h;cases h
 |cons p ps ih=>
  intro l c0 d hl h
  match l,hl with
  |t::l,hl=>
   rw[m8]at h
   split at h
   ·rename_i ht
    obtain⟨i1,i2,i3,i4,i5⟩:=ih l _ d (by simpa using hl) h
    obtain⟨a,b,dd,e,f⟩:=c0;unfold AS at i1 i2 i3 i4 i5 ht
    by_cases h1:p.2.1.data.toList=[36,49]
    ·rw[if_pos h1]at i1 i2 i3 i4 i5 ht
     have b2:(p.2.1.data.toList==[36,50])=false:=by rw[h1];rfl
     have b3:(p.2.1.data.toList==[36,51])=false:=by rw[h1];rfl
     refine⟨i1,i2,?_,?_,?_⟩
     ·have:hT (p::ps)=true:=by simp[hT,h1]
      rw[if_pos this]
      split at i3
      ·exact i3
      ·rw[i3];unfold Wi at ht;exact(Bool.and_eq_true_iff.1 ht).2
     ·rw[Jv,b2];exact i4
     ·rw[Jw,b3];exact i5
    ·by_cases h2:p.2.1.data.toList=[36,50]
     ·rw[if_neg h1,if_pos h2]at i1 i2 i3 i4 i5 ht
      have b1:(p.2.1.data.toList==[36,49])=false:=by rw[h2];rfl
      have b3:(p.2.1.data.toList==[36,51])=false:=by rw[h2];rfl
      refine⟨i1,i2,by rw[Ju,b1];exact i3,?_,by rw[Jw,b3];exact i5⟩
      have:hK (p::ps)=true:=by simp[hK,h2]
      rw[if_pos this]
      split at i4
      ·exact i4
      ·obtain⟨n,hn⟩:=Option.isSome_iff_exists.1 ht
       rw[i4,hn];exact SX t n hn
     ·by_cases h3:p.2.1.data.toList=[36,51]
      ·rw[if_neg h1,if_neg h2,if_pos h3]at i1 i2 i3 i4 i5 ht
       have b1:(p.2.1.data.toList==[36,49])=false:=by rw[h3];rfl
       have b2:(p.2.1.data.toList==[36,50])=false:=by rw[h3];rfl
       refine⟨i1,i2,by rw[Ju,b1];exact i3,by rw[Jv,b2];exact i4,?_⟩
       have:hV (p::ps)=true:=by simp[hV,h3]
       rw[if_pos this]
       split at i5
       ·exact i5
       ·obtain⟨n,hn⟩:=Option.isSome_iff_exists.1 ht
        rw[i5,hn];exact SX t n hn
      ·rw[if_neg h1,if_neg h2,if_neg h3]at i1 i2 i3 i4 i5 ht
       have b1:(p.2.1.data.toList==[36,49])=false:=by rw[beq_eq_false_iff_ne];exact h1
       have b2:(p.2.1.data.toList==[36,50])=false:=by rw[beq_eq_false_iff_ne];exact h2
       have b3:(p.2.1.data.toList==[36,51])=false:=by rw[beq_eq_false_iff_ne];exact h3
       exact⟨i1,i2,by rw[Ju,b1];exact i3,by rw[Jv,b2];exact i4,by rw[Jw,b3];exact i5⟩
   ·cases h
def Hf(q:Int×Bool×ByteArray×List Tok):Fm:=(q.1,q.2.1,q.2.2.1)
theorem Wt:∀q∈i9,Hf q∈dl∧rx (Hf q)=q.2.2.2:=by
 intro q hq;simp only[i9,List.mem_cons,List.not_mem_nil,or_false]at hq;rcases hq with rfl|rfl|rfl|rfl|rfl|rfl|rfl
 ·exact⟨by simp[Hf,dl],by unfold rx Hf;rw[qa1]⟩
 ·exact⟨by simp[Hf,dl],by unfold rx Hf;rw[qa2]⟩
 ·exact⟨by simp[Hf,dl],by unfold rx Hf;rw[qa3]⟩
 ·exact⟨by simp[Hf,dl],by unfold rx Hf;rw[qa4]⟩
 ·exact⟨by simp[Hf,dl],by unfold rx Hf;rw[qa5]⟩
 ·exact⟨by simp[Hf,dl],by unfold rx Hf;rw[qa6]⟩
 ·exact⟨by simp[Hf,dl],by unfold rx Hf;rw[qa7]⟩
theorem Mi(c:Cm)(h:okC c=true):okP c∧(c.2.2.2.2=false→c.2.2.1=0)∧(c.1≠2→c.2.2.2.1=0):=by
 unfold okC at h;simp only[Bool.and_eq_true,Bool.or_eq_true,beq_iff_eq]at h;refine⟨⟨h.1.1.1.1,h.1.1.1.2,h.1.1.2⟩,fun hf=>?_,fun hf=>?_⟩
 ·rcases h.1.2 with h2|h2
  ·rw[h2]at hf;cases hf
  ·exact h2
 ·rcases h.2 with h2|h2
  ·exact absurd h2 hf
  ·exact h2
theorem Ut:∀q∈i9,∀c:Cm,c.1=q.1→c.2.2.2.2=q.2.1→okC c=true→IC (Hf q) (q.2.2.2.map (BT c))=(c,true):=by
 intro q hq c h1 h2 hc;obtain⟨hp,hk,hv⟩:=Mi c hc;obtain⟨f1,f2,f3,_⟩:=SY q hq;unfold IC;rw[(Wt q hq).2,if_pos (by rw[List.length_map]),Us c hp,f1,f2,f3]
 obtain⟨a,b,d,e,f⟩:=c;obtain⟨qa,qb,qc,qd⟩:=q;simp only at h1 h2 hk hv⊢;subst h1 h2;simp only[Hf,if_true,Prod.mk.injEq,true_and,and_true];constructor
 ·cases f with
  |true=>rfl
  |false=>rw[hk rfl];rfl
 ·by_cases h2:a=2
  ·subst h2;rfl
  ·rw[if_neg (by simpa using h2),hv h2]
theorem Y6:∀q∈i9,∀(l:List Tok) (c:Cm),IC (Hf q) l=(c,true)→c.1=q.1∧c.2.2.2.2=q.2.1∧okC c=true:=by
 intro q hq l c h;obtain⟨f1,f2,f3,_⟩:=SY q hq;unfold IC at h;rw[(Wt q hq).2]at h
 split at h
 ·rename_i hl
  obtain⟨i1,i2,i3,i4,i5⟩:=Ws _ l _ c hl h;rw[f1,if_pos rfl]at i3;rw[f2]at i4;rw[f3]at i5;refine⟨i1,i2,?_⟩;obtain⟨a,b,d,e,f⟩:=c;obtain⟨qa,qb,qc,qd⟩:=q;simp only[Hf]at i1 i2 i3 i4 i5;subst i1 i2;have z:inN 0=true:=by decide
  have ae:inN d=true∧(f=true∨d=0):=by
   cases f with
   |true=>exact⟨i4,.inl rfl⟩
   |false=>have:d=0:=i4
           rw[this];exact⟨z,.inr rfl⟩
  have zv:inN e=true∧(a=2∨e=0):=by
   by_cases h2:a=2
   ·rw[if_pos (by simpa using h2)]at i5;exact⟨i5,.inl h2⟩
   ·rw[if_neg (by simpa using h2)]at i5;rw[i5];exact⟨z,.inr rfl⟩
  unfold okC;simp only[Bool.and_eq_true,Bool.or_eq_true,beq_iff_eq];exact⟨⟨⟨⟨i3,ae.1⟩,zv.1⟩,ae.2⟩,zv.2⟩
 ·cases h
theorem Uu:∀q∈i9,∀c:Cm,c.1=q.1→c.2.2.2.2=q.2.1→(IC (Hf q) (io (bb (Ih (Hf q) c))).1=(c,true)↔okC c=true):=by
 intro q hq c h1 h2;constructor
 ·intro h;exact(Y6 q hq _ c h).2.2
 ·intro h
  obtain⟨m,hm,ha⟩:=Ur q hq c (Mi c h).1;have e:io (bb (Ih (Hf q) c))=(m,0,0):=hm;rw[e,←Um (Hf q) _ m ha];exact Ut q hq c h1 h2 h
theorem SZ:∀q∈i9,∀c:Cm,c.1=q.1→c.2.2.2.2=q.2.1→Ho c=if okC c=true then Ih (Hf q) c else []:=by
 intro q hq c h1 h2;have key:=Uu q hq c h1 h2;obtain⟨a,b,d,e,f⟩:=c;have cW:∀g:Fm,¬(g.1=a∧g.2.1=f)→∀r,Ir (g::r) (a,b,d,e,f)=Ir r (a,b,d,e,f):=fun g hg r=>by
  rw[Ir,if_neg (fun h=>hg ⟨h.1,h.2.1⟩)]
 have gB:∀r,Hf q∈dl→(Ir r (a,b,d,e,f)=[])→Ir (Hf q::r) (a,b,d,e,f)=if okC (a,b,d,e,f)=true then Ih (Hf q) (a,b,d,e,f)else []:=fun r _ hr=>by
  rw[Ir,hr]
  by_cases hk:okC (a,b,d,e,f)=true
  ·rw[if_pos hk,if_pos ⟨h1.symm,h2.symm,key.2 hk⟩]
  ·rw[if_neg hk,if_neg (fun h=>hk (key.1 h.2.2))]
 have hm:=(Wt q hq).1;simp only[i9,List.mem_cons,List.not_mem_nil,or_false]at hq;unfold Ho dl;rcases hq with rfl|rfl|rfl|rfl|rfl|rfl|rfl<;>(simp only at h1 h2;subst h1 h2;simp only[Hf]at gB hm⊢)
 ·rw[gB _ hm]
  rw[cW _ (by decide),cW _ (by decide),cW _ (by decide),cW _ (by decide),cW _ (by decide),cW _ (by decide)];rfl
 ·rw[cW _ (by decide),gB _ hm]
  rw[cW _ (by decide),cW _ (by decide),cW _ (by decide),cW _ (by decide),cW _ (by decide)];rfl
 ·rw[cW _ (by decide),cW _ (by decide),gB _ hm]
  rw[cW _ (by decide),cW _ (by decide),cW _ (by decide),cW _ (by decide)];rfl
 ·rw[cW _ (by decide),cW _ (by decide),cW _ (by decide),gB _ hm]
  rw[cW _ (by decide),cW _ (by decide),cW _ (by decide)];rfl
 ·rw[cW _ (by decide),cW _ (by decide),cW _ (by decide),cW _ (by decide),gB _ hm]
  rw[cW _ (by decide),cW _ (by decide)];rfl
 ·rw[cW _ (by decide),cW _ (by decide),cW _ (by decide),cW _ (by decide),cW _ (by decide),gB _ hm]
  rw[cW _ (by decide)];rfl
 ·rw[cW _ (by decide),cW _ (by decide),cW _ (by decide),cW _ (by decide),cW _ (by decide),cW _ (by decide),gB _ hm]
  rfl
theorem Y7:∀q∈i9,∀c:Cm,c.1=q.1→c.2.2.2.2=q.2.1→nl c=if okC c=true then Ih (Hf q) c else []:=by
 intro q hq c h1 h2;obtain⟨a,b,d,e,f⟩:=c;simp only[i9,List.mem_cons,List.not_mem_nil,or_false]at hq;rcases hq with rfl|rfl|rfl|rfl|rfl|rfl|rfl<;>(simp only at h1 h2;subst h1 h2;unfold nl;cases hk:okC _<;>simp[Hf,Ih,AT,Nt])
theorem qa8(a:Int)(f:Bool):(∃q∈i9,a=q.1∧f=q.2.1)∨((∀q∈i9,¬(q.1=a∧q.2.1=f))∧((a=2∨a=3)∧f=false∨a=5∧f=true∨(a≠1∧a≠2∧a≠3∧a≠4∧a≠5))):=by
 by_cases h:∃q∈i9,a=q.1∧f=q.2.1
 ·exact .inl h
 ·refine .inr ⟨fun q hq hh=>h ⟨q,hq,hh.1.symm,hh.2.symm⟩,?_⟩
  have hh:∀q∈i9,¬(a=q.1∧f=q.2.1):=fun q hq h2=>h ⟨q,hq,h2⟩
  simp only[i9,List.mem_cons,List.not_mem_nil,or_false,forall_eq_or_imp,forall_eq]at hh;obtain⟨g1,g2,g3,g4,g5,g6,g7⟩:=hh
  cases f<;>simp at g1 g2 g3 g4 g5 g6 g7⊢ <;>omega
theorem Lq(c:Cm):Ho c=nl c:=by
 rcases qa8 c.1 c.2.2.2.2 with⟨q,hq,h1,h2⟩|⟨hn,hk⟩
 ·rw[SZ q hq c h1 h2,Y7 q hq c h1 h2]
 ·have e1:Ho c=[]:=by
   unfold Ho;have:∀fs:List Fm,(∀g∈fs,¬(g.1=c.1∧g.2.1=c.2.2.2.2))→Ir fs c=[]:=by
    intro fs
    induction fs with
    |nil=>intro _;rfl
    |cons g r ih=>intro h;rw[Ir,if_neg (fun hh=>h g (by simp) ⟨hh.1,hh.2.1⟩)];exact ih fun g hg=>h g (by simp[hg])
   refine this _ fun g hg=>?_
   obtain⟨q,hq,rfl,_⟩:=LR g hg;exact hn q hq
  rw[e1];unfold nl;rcases hk with⟨h|h,h2⟩|⟨h,h2⟩|⟨h1,h2,h3,h4,h5⟩
  ·rw[h,h2];simp
  ·rw[h,h2];simp
  ·rw[h,h2];simp
  ·rw[if_neg h1,if_neg h2,if_neg h3,if_neg h4,if_neg h5];simp
theorem Uv(c:Cm)(h:Ho c≠[]):∃q∈i9,c.1=q.1∧c.2.2.2.2=q.2.1∧okC c=true∧Ho c=Ih (Hf q) c:=by
 rcases qa8 c.1 c.2.2.2.2 with⟨q,hq,h1,h2⟩|⟨hn,hk⟩
 ·have e:=SZ q hq c h1 h2
  by_cases gf:okC c=true
  ·rw[if_pos gf]at e;exact⟨q,hq,h1,h2,gf,e⟩
  ·rw[if_neg gf]at e;exact absurd e h
 ·exfalso
  rw[Lq]at h;apply h;unfold nl;rcases hk with⟨h|h,h2⟩|⟨h,h2⟩|⟨h1,h2,h3,h4,h5⟩
  ·rw[h,h2];simp
  ·rw[h,h2];simp
  ·rw[h,h2];simp
  ·rw[if_neg h1,if_neg h2,if_neg h3,if_neg h4,if_neg h5];simp
end Go.Proofs.YtpgddamhdfmdjaaGreatDoor
