/- Lxe Lxf Lxg Lxh Lxj Lxk Lxm Lxn Lxo Lxq Lxs Lxu Bld Lxv Lxt Lxw Lxx Lxy -/
import Derived.Test.YtpgddamhdfmdjaaGreatDoorG2
import Derived.WalkMore
import Derived.BigQuiet
import Derived.IntWalk
import Derived.Laws.IdiomStrings
import Derived.Deep.QuietTactic
import Derived.OwnWalk
import Derived.Deep.DeepMust
import Derived.Deep.DeepAppendWide
import Derived.Lib.Builder
import Derived.Lib.OthersKept
import Derived.Lib.AppendStr
import Derived.WalkKit
import Derived.Shelf.Strings.Builder1
import Derived.Test.YtpgddamhdfmdjaaGreatDoorShelf
import Derived.Lib.ReplaceLaws
import Derived.Lib.SplitLaws
import Derived.Deep.LoopGhost
import Derived.Deep.AppendLies
import Derived.Test.YtpgddamhdfmdjaaGreatDoorG1
set_option linter.unusedSimpArgs false
set_option linter.unusedVariables false
set_option maxRecDepth 100000
set_option maxHeartbeats 16000000
namespace Go.Proofs.YtpgddamhdfmdjaaGreatDoor
open Go.ChangeShapes Go.WideShapes Go.ChangeAt Go.RowKit
def NB(z:Int):Int:=if 65≤z∧z≤90 then z+32 else z
def Ix(c:UInt8):UInt8:=if 65≤c.toNat∧c.toNat≤90 then c+32 else c
theorem Ys(c:UInt8):((Ix c).toNat:Int)=NB (c.toNat:Int):=by
 unfold Ix NB
 by_cases h:65≤c.toNat∧c.toNat≤90
 ·rw[if_pos h,if_pos (by omega),UInt8.toNat_add]
  have:(32:UInt8).toNat=32:=rfl;rw[this];omega
 ·rw[if_neg h,if_neg (by omega)]
def Hn(s:ByteArray):ByteArray:=⟨(s.data.toList.map Ix).toArray⟩
structure SmI(s:ByteArray)(w:World)(k:Nat)(wr:World):Prop where
 cell:∀(j:Nat) (hj:j<s.size),wr.cell? ⟨w.heap.size,j,none⟩=some (.int .u8 ((if j<k then Ix s[j]else s[j]).toNat:Int))
 fro:∀(j:Nat) (hj:j<s.size),wr.frozen? ⟨w.heap.size,j,none⟩=false
 bel:Below w.heap.size w wr
theorem SmI.keep{s:ByteArray}{w wr:World}{k:Nat}(h:SmI s w k wr)(hk:k<s.size)(hs:NB (s[k].toNat:Int)=(s[k].toNat:Int)):SmI s w (k+1) wr:=by
 refine⟨fun j hj=>?_,h.fro,h.bel⟩
 rw[h.cell j hj]
 by_cases e:j=k
 ·subst e
  rw[if_neg (by omega),if_pos (by omega),Ys,hs]
 ·by_cases e2:j<k
  ·rw[if_pos e2,if_pos (by omega)]
  ·rw[if_neg e2,if_neg (by omega)]
theorem SmI.put{s:ByteArray}{w wr:World}{k:Nat}(h:SmI s w k wr)(hk:k<s.size)(z:Int)(hz:z=NB (s[k].toNat:Int)):SmI s w (k+1) (wr.setCell ⟨w.heap.size,k,none⟩ (.int .u8 z)):=by
 refine⟨fun j hj=>?_,fun j hj=>?_,h.bel.setCell (Nat.le_refl _) _⟩
 ·by_cases e:j=k
  ·subst e
   rw[World.cell?_setCell_same _ _ _ (h.cell j hj),if_pos (by omega),Ys,hz]
  ·rw[World.cell?_setCell_other _ _ _ _ (by intro h2;simp only[Addr.mk.injEq]at h2;omega),h.cell j hj]
   by_cases e2:j<k
   ·rw[if_pos e2,if_pos (by omega)]
   ·rw[if_neg e2,if_neg (by omega)]
 ·rw[World.frozen?_setCell];exact h.fro j hj
theorem VN(s:ByteArray)(hs:s.size≤281474976710656)(w:World):Calls Tryz.prog 173 #[.string s] w fun e w'=>e=.returned (.string (Hn s))∧Below w.heap.size w w':=by
 have ka:=run_bytes_of_string (P:=Tryz.prog) w 9 121 5 s (by kernel_rfl) (by kernel_rfl) (by kernel_rfl)
 have hI:SmI s w 0 (w.drew.alloc (.cells (bytesRow s (grownCap w s.size 0 5)) 5 ((bytesRow s (grownCap w s.size 0 5)).size,(bytesRow s (grownCap w s.size 0 5)).size+1))):=by
  have e1:w.drew.heap.size=w.heap.size:=by simp
  refine⟨fun j hj=>?_,fun j hj=>?_,((Below.refl _ _).drew).alloc (by simp) _⟩
  ·rw[if_neg (by omega)]
   rw[←e1,World.cell?_alloc_mark,bytesRow_at s _ j hj]
   rfl
  ·rw[←e1,World.frozen?_alloc_mark]
   have:j<(bytesRow s (grownCap w s.size 0 5)).size:=by
    have:=bytesRow_at s (grownCap w s.size 0 5) j hj;exact(Array.getElem?_eq_some_iff.1 this).1
   rw[decide_eq_false (by omega)];rfl
 generalize (w.drew.alloc (.cells (bytesRow s (grownCap w s.size 0 5)) 5 ((bytesRow s (grownCap w s.size 0 5)).size,(bytesRow s (grownCap w s.size 0 5)).size+1)))=w1 at*
 generalize grownCap w s.size 0 5=cap at*
 have HI:=qid hI;clear hI;go_enter Tryz.func173,Tryz.ntmps173;go_wp2
 go_loopw [10] (fun iW wr=>∃k:Nat,iW=.int .i64 (k:Int)∧k≤s.size∧SmI s w k wr) (fun iW _=>s.size-(match iW with| .int _ k=>k.toNat|_=>0))
 case atStart=>exact⟨0,rfl,Nat.zero_le _,HI.out⟩
 case round=>
  obtain⟨k,rfl,y9,hS⟩:=hrel;clear HI ka;have HS:=qid hS;clear hS
  by_cases hk:k<s.size
  ·have lw:Hid ((k:Int)+1=((k+1:Nat):Int)):=qid (by omega)
   obtain⟨z,hz⟩:∃z:Int,((s[k]'hk).toNat:Int)=z:=⟨_,rfl⟩;have hc:wr.cell? ⟨w.heap.size,k,none⟩=some (.int .u8 z):=by
    have:=HS.out.cell k hk
    rwa[if_neg (by omega),hz]at this
   have hf:wr.frozen? ⟨w.heap.size,k,none⟩=false:=HS.out.fro k hk;have lk:(k:Int)<(s.size:Int):=by omega
   have l0:(0:Int)≤(k:Int):=by omega
   have HZ:=qid hz;clear hz
   by_cases h1:65≤z∧z≤90
   ·obtain⟨ha,hb⟩:=h1
    have s1:IntKind.u8.wrap (z-65)=z-65:=IntWalk.u8_in _ (by omega)
    have s2:IntKind.u8.wrap (z-65+97)=z-65+97:=IntWalk.u8_in _ (by omega)
    go_wp2;refine⟨⟨k+1,by rw[lw.out],by omega,HS.out.put hk _ (by rw[HZ.out];unfold NB;rw[if_pos ⟨ha,hb⟩];omega)⟩,?_⟩
    rw[lw.out];simp only[Int.toNat_natCast];omega
   ·by_cases h2:65≤z
    ·have h3:¬(z≤90):=by omega
     clear h1;go_wp2;refine⟨⟨k+1,by rw[lw.out],by omega,HS.out.keep hk (by rw[HZ.out];unfold NB;rw[if_neg (by omega)])⟩,?_⟩
     rw[lw.out];simp only[Int.toNat_natCast];omega
    ·clear h1
     go_wp2;refine⟨⟨k+1,by rw[lw.out],by omega,HS.out.keep hk (by rw[HZ.out];unfold NB;rw[if_neg (by omega)])⟩,?_⟩
     rw[lw.out];simp only[Int.toNat_natCast];omega
  ·have lk:¬((k:Int)<(s.size:Int)):=by omega
   have rf:k=s.size:=by omega
   have mh:=run_convert_bytes_back (P:=Tryz.prog) wr 121 9 5 ⟨w.heap.size,0,none⟩ cap (s.data.toList.map Ix) (by kernel_rfl) (by kernel_rfl) (by kernel_rfl) (fun j hj=>by
    have dI:j<s.size:=by rw[Lib.size_eq];simpa using hj
    have:=HS.out.cell j dI;rw[if_pos (by omega)]at this
    have ea:(⟨w.heap.size,0,none⟩:Addr).add j=⟨w.heap.size,j,none⟩:=by simp[Addr.add];exact fun h=>h.symm
    rw[ea,this,List.getElem_map]
    rfl)
   rw[List.length_map,←Lib.size_eq]at mh;clear rf;go_wp2;go_ret;exact⟨rfl,HS.out.bel⟩
theorem qaB(s:ByteArray)(w:World)(h0:aT n8 s.data.toList=0):
  Calls Tryz.prog 128 #[.string s] w fun e w'=>e=.returned (pcV 0 ⟨#[]⟩ 0)∧Below w.heap.size w w':=by
 have hr:=fun w=>KG Hu n8 true (qid O1) s w (qid (K9 Ma))
 simp only[h0]at hr;have HR:=qid hr;clear hr h0;go_enter Tryz.func128,Tryz.ntmps128;go_wp2_with (go_at_call 167;refine(HR.out _).mono ?_;rintro e w1 ⟨rfl,aU⟩;obtain⟨pH,uo⟩:=TC aU);have hB:Below w.heap.size w w1:=((Below.refl _ _).alloc (Nat.le_refl _) _).trans (aU.mono (by simp))
 refine bodyPost_ret (v:=pcV 0 ⟨#[]⟩ 0) (by simp[results,Tryz.results128,go_sem,pH,uo]) rfl ?_
 refine⟨rfl,((hB.setCell ?_ _).setCell ?_ _).setCell ?_ _⟩<;>exact Nat.le_refl _
theorem Yt(s:ByteArray)(w:World)(hs:s.size≤281474976710656)(h0:aT n8 s.data.toList≠0):
  Calls Tryz.prog 128 #[.string s] w fun e w'=>e=.returned (pcV 1 (Hn (s.extract 0 (aT i8 s.data.toList))) (aT i8 s.data.toList:Nat))∧Below w.heap.size w w':=by
 have hr:=fun w=>KG Hu n8 true (qid O1) s w (qid (K9 Ma))
 have hq:=fun w=>Xw JY i8 true (qid Xx) s w (qid (K9 Xv))
 obtain⟨n,hn⟩:∃n,aT i8 s.data.toList=n:=⟨_,rfl⟩;obtain⟨m,hm⟩:∃m,aT n8 s.data.toList=m:=⟨_,rfl⟩;have hle:n≤s.size:=by rw[←hn,Lib.size_eq];exact Iw _ _
 rw[hn];simp only[hn]at hq;simp only[hm]at hr;rw[hm]at h0;have hc:=fun w=>VN (s.extract 0 n) (by rw[ByteArray.size_extract];omega) w
 obtain⟨HR,HQ,HC⟩:=hZ3 hr hq hc;clear hr hq hn hm hc hs;have c0:((m:Int)==0)=false:=by rw[beq_eq_false_iff_ne];omega
 have c1:(0:Int)≤(n:Int):=by omega
 have c2:(n:Int)≤(s.size:Int):=by omega
 clear h0;go_enter Tryz.func128,Tryz.ntmps128;go_wp2_with (first
  |(go_at_call 167;(with_reducible refine(HR.out _).mono ?_);rintro e w1 ⟨rfl,aU⟩;have F1:=(Hm.new w).step aU;clear aU;obtain⟨hB,hL,k0,k1,k2,f0,f1,f2⟩:=id F1)
  |(go_at_call 167;(with_reducible refine(HQ.out _).mono ?_);rintro e w2 ⟨rfl,aA⟩;have F2:=F1.step aA;clear aA hB hL k0 k1 k2 f0 f1 f2;obtain⟨hB,hL,k0,k1,k2,f0,f1,f2⟩:=id F2)
  |(go_at_call 173;(with_reducible refine(HC.out _).mono ?_);rintro e w3 ⟨rfl,aG⟩;have F3:=F2.step aG;clear aG hB hL k0 k1 k2 f0 f1 f2;obtain⟨hB,hL,k0,k1,k2,f0,f1,f2⟩:=id F3))
 refine bodyPost_ret (v:=pcV 1 (Hn (s.extract 0 n)) (n:Nat)) (by simp[results,Tryz.results128,go_sem,k0,k1,k2]) rfl ?_
 refine⟨rfl,((hB.setCell ?_ _).setCell ?_ _).setCell ?_ _⟩<;>exact Nat.le_refl _
abbrev Lf:ByteArray:=⟨#[40,41,44,59,46,61,60,62,43,45,42,47,37,38,124,94,126,33,64,35,63,58,91,93]⟩
def Hi(c:UInt8):Int:=Lib.indexByte Lf.data.toList c
theorem Yu(s:ByteArray)(h:0<s.size)(w:World):Calls Tryz.prog 134 #[.string s] w fun e w'=>
  e=.returned (if Hi (s[0]'h)<0 then pcV 0 ⟨#[]⟩ 0 else pcV 5 (s.extract 0 1) 1)∧Below w.heap.size w w':=by
 obtain⟨i,hi⟩:∃i,Hi (s[0]'h)=i:=⟨_,rfl⟩;have hc:∀w,Calls Tryz.prog 179 #[.string Lf,.int .u8 ((s[0]'h).toNat:Int)] w fun e w'=>e=.returned (.int .i64 i)∧w'=w:=by
  intro w;have:=MS Lf ((s[0]'h).toNat:Int) w
  rwa[show((s[0]'h).toNat:Int).toNat.toUInt8=s[0]'h by simp,show Lib.indexByte Lf.data.toList (s[0]'h)=i from hi]at this
 have hk:=fun w=>Hp (s.extract 0 1) w (by rw[ByteArray.size_extract];omega)
 have hz:(0:Int)<(s.size:Int):=by omega
 have h1:(1:Int)≤(s.size:Int):=by omega
 rw[hi];obtain⟨HC,HK⟩:=hZ2 hc hk;clear hc hi hk
 by_cases hi:i<0
 ·rw[if_pos hi]
  go_enter Tryz.func134,Tryz.ntmps134;go_wp2_with (first
   |(go_at_call 179;(with_reducible refine(HC.out _).mono ?_);rintro e w1 ⟨rfl,hw⟩;obtain rfl:=hw.symm))
  refine bodyPost_ret (v:=pcV 0 ⟨#[]⟩ 0) (by simp[results,Tryz.results134,go_sem]) rfl ?_
  exact⟨rfl,(Below.refl _ _).alloc (Nat.le_refl _) _⟩
 ·rw[if_neg hi]
  go_enter Tryz.func134,Tryz.ntmps134;go_wp2_with (first
   |(go_at_call 179;(with_reducible refine(HC.out _).mono ?_);rintro e w1 ⟨rfl,hw⟩;obtain rfl:=hw.symm)
   |(go_at_call 48;(with_reducible refine(HK.out _).mono ?_);rintro e w3 ⟨rfl,aG⟩;have F3:=(Hm.new w).step aG;clear aG;obtain⟨hB,hL,k0,k1,k2,f0,f1,f2⟩:=id F3))
  refine bodyPost_ret (v:=pcV 5 (s.extract 0 1) 1) (by simp[results,Tryz.results134,go_sem,k0,k1,k2]) rfl ?_
  refine⟨rfl,((hB.setCell ?_ _).setCell ?_ _).setCell ?_ _⟩<;>exact Nat.le_refl _
def hpB(s p:ByteArray):Bool:=decide (p.size≤s.size)&&((s.extract 0 p.size).toList==p.toList)
theorem T0(s p:ByteArray)(w:World):Calls Tryz.prog 200 #[.string s,.string p] w fun e w'=>e=.returned (.bool (hpB s p))∧w'=w:=by
 by_cases hle:p.size≤s.size
 ·have c0:(p.size:Int)≤(s.size:Int):=by omega
  have c1:(0:Int)≤(p.size:Int):=by omega
  obtain⟨b,hb⟩:∃b,((s.extract 0 p.size).toList==p.toList)=b:=⟨_,rfl⟩;rw[show hpB s p=b by unfold hpB;rw[decide_eq_true hle,hb];rfl]
  go_enter Tryz.func200,Tryz.ntmps200;go_wp2;go_ret;exact⟨rfl,rfl⟩
 ·have c0:¬((p.size:Int)≤(s.size:Int)):=by omega
  rw[show hpB s p=false by unfold hpB;rw[decide_eq_false hle];rfl]
  go_enter Tryz.func200,Tryz.ntmps200;go_wp2;go_ret;exact⟨rfl,rfl⟩
theorem Na(s p:ByteArray)(w:World):Calls Tryz.prog 169 #[.string s,.string p] w fun e w'=>e=.returned (.bool (hpB s p))∧w'=w:=by
 have h:=T0 s p
 generalize hpB s p=b at*
 have H:=qid h;clear h;go_enter Tryz.func169,Tryz.ntmps169;go_wp2_with (go_at_call 200;refine(H.out _).mono ?_;rintro e w1 ⟨rfl,hw⟩;obtain rfl:=hw.symm);go_ret;exact⟨rfl,rfl⟩
def T1(s p:ByteArray):Value:=.tuple #[.string (if hpB s p=true then s.extract p.size s.size else s),.bool (hpB s p)]
theorem VO(s p:ByteArray)(w:World):Calls Tryz.prog 203 #[.string s,.string p] w fun e w'=>e=.returned (T1 s p)∧w'=w:=by
 have h:=T0 s p;unfold T1
 cases hb:hpB s p with
 |true=>
  have hle:p.size≤s.size:=by unfold hpB at hb;simp at hb;exact hb.1
  have c0:(p.size:Int)≤(s.size:Int):=by omega
  have c1:(0:Int)≤(p.size:Int):=by omega
  rw[hb]at h;have H:=qid h;clear h hb;rw[if_pos rfl];go_enter Tryz.func203,Tryz.ntmps203;go_wp2_with (go_at_call 200;refine(H.out _).mono ?_;rintro e w1 ⟨rfl,hw⟩;obtain rfl:=hw.symm)
  go_ret2
  exact⟨rfl,rfl⟩
 |false=>
  rw[hb]at h;have H:=qid h;clear h hb;rw[if_neg (by simp)]
  go_enter Tryz.func203,Tryz.ntmps203;go_wp2_with (go_at_call 200;refine(H.out _).mono ?_;rintro e w1 ⟨rfl,hw⟩;obtain rfl:=hw.symm)
  go_ret2
  exact⟨rfl,rfl⟩
theorem QK(s p:ByteArray)(w:World):Calls Tryz.prog 178 #[.string s,.string p] w fun e w'=>e=.returned (T1 s p)∧w'=w:=by
 have h:=VO s p;unfold T1 at*
 generalize (if hpB s p=true then s.extract p.size s.size else s)=t at*
 generalize hpB s p=b at*
 have H:=qid h;clear h;go_enter Tryz.func178,Tryz.ntmps178;go_wp2_with (go_at_call 203;refine(H.out _).mono ?_;rintro e w1 ⟨rfl,hw⟩;obtain rfl:=hw.symm)
 go_ret2
 exact⟨rfl,rfl⟩
abbrev JO:ByteArray:=⟨#[36]⟩
theorem Sp(s r:ByteArray)(b:Bool)(n:Nat)(w:World)(hn:aT a9 r.data.toList=n)(hle:n+1≤s.size∨b=false∨n=0)(hs:s.size≤281474976710656)(hc:∀w,Calls Tryz.prog 178 #[.string s,.string JO] w fun e w'=>e=.returned (.tuple #[.string r,.bool b])∧w'=w):
  Calls Tryz.prog 133 #[.string s] w fun e w'=>e=.returned (if b=false∨n=0 then pcV 0 ⟨#[]⟩ 0 else pcV 5 (s.extract 0 (n+1)) ((n+1:Nat):Int))∧Below w.heap.size w w':=by
 have hr:=fun w=>LF Hh a9 false (qid O2) r w (qid (K9 Mb))
 have hk:=fun w=>Hp (s.extract 0 (n+1)) w (by rw[ByteArray.size_extract];omega)
 simp only[hn]at hr;obtain⟨HC,HR,HK⟩:=hZ3 hc hr hk;clear hc hr hk hn
 by_cases h:b=false∨n=0
 ·rw[if_pos h]
  cases b with
  |false=>
   clear h hle;go_enter Tryz.func133,Tryz.ntmps133;go_wp2_with (first
    |(go_at_call 178;(with_reducible refine(HC.out _).mono ?_);rintro e w1 ⟨rfl,hw⟩;obtain rfl:=hw.symm)
    |(go_at_call 167;(with_reducible refine(HR.out _).mono ?_);rintro e w2 ⟨rfl,aU⟩;have F1:=(Hm.new w).step aU;clear aU;obtain⟨hB,hL,k0,k1,k2,f0,f1,f2⟩:=id F1))
   refine bodyPost_ret (v:=pcV 0 ⟨#[]⟩ 0) (by simp[results,Tryz.results133,go_sem,k0,k1,k2]) rfl ?_
   refine⟨rfl,((hB.setCell ?_ _).setCell ?_ _).setCell ?_ _⟩<;>exact Nat.le_refl _
  |true=>
   have h0:n=0:=by simpa using h
   subst h0;clear h hle;go_enter Tryz.func133,Tryz.ntmps133;go_wp2_with (first
    |(go_at_call 178;(with_reducible refine(HC.out _).mono ?_);rintro e w1 ⟨rfl,hw⟩;obtain rfl:=hw.symm)
    |(go_at_call 167;(with_reducible refine(HR.out _).mono ?_);rintro e w2 ⟨rfl,aU⟩;have F1:=(Hm.new w).step aU;clear aU;obtain⟨hB,hL,k0,k1,k2,f0,f1,f2⟩:=id F1))
   refine bodyPost_ret (v:=pcV 0 ⟨#[]⟩ 0) (by simp[results,Tryz.results133,go_sem,k0,k1,k2]) rfl ?_
   refine⟨rfl,((hB.setCell ?_ _).setCell ?_ _).setCell ?_ _⟩<;>exact Nat.le_refl _
 ·rw[if_neg h]
  have hb:b=true:=by
   cases b with
   |true=>rfl
   |false=>exact absurd (Or.inl rfl) h
  subst hb;have jT:n≠0:=fun e=>h (Or.inr e)
  have hl:n+1≤s.size:=by
   rcases hle with h1|h1|h1
   ·exact h1
   ·cases h1
   ·exact absurd h1 jT
  have c0:((n:Int)==0)=false:=by rw[beq_eq_false_iff_ne];omega
  obtain⟨m,hm⟩:∃m,n+1=m:=⟨_,rfl⟩;have e0:(n:Int)+1=(m:Int):=by omega
  have cw:IntKind.i64.wrap ((n:Int)+1)=(m:Int):=by rw[e0];exact IntWalk.i64_in _ (by omega)
  rw[hm]at HK⊢;have c1:(0:Int)≤(m:Int):=by omega
  have c2:(m:Int)≤(s.size:Int):=by omega
  clear h hle jT hl hm hs;have E0:=qid e0;clear e0;go_enter Tryz.func133,Tryz.ntmps133;go_wp2_with (first
   |(go_at_call 178;(with_reducible refine(HC.out _).mono ?_);rintro e w1 ⟨rfl,hw⟩;obtain rfl:=hw.symm)
   |(go_at_call 167;(with_reducible refine(HR.out _).mono ?_);rintro e w2 ⟨rfl,aU⟩;have F1:=(Hm.new w).step aU;clear aU;obtain⟨hB,hL,k0,k1,k2,f0,f1,f2⟩:=id F1)
   |(go_at_call 48;(with_reducible refine(HK.out _).mono ?_);rintro e w3 ⟨rfl,aG⟩;have F3:=F1.step aG;clear aG hB hL k0 k1 k2 f0 f1 f2;obtain⟨hB,hL,k0,k1,k2,f0,f1,f2⟩:=id F3))
  refine bodyPost_ret (v:=pcV 5 (s.extract 0 m) (m:Nat)) (by simp[results,Tryz.results133,go_sem,k0,k1,k2]) rfl ?_
  refine⟨rfl,((hB.setCell ?_ _).setCell ?_ _).setCell ?_ _⟩<;>exact Nat.le_refl _
def JP(s:ByteArray):ByteArray:=if hpB s JO=true then s.extract 1 s.size else s
def JQ(s:ByteArray):Nat:=aT a9 (JP s).data.toList
theorem VP(s:ByteArray)(w:World)(hs:s.size≤281474976710656):
  Calls Tryz.prog 133 #[.string s] w fun e w'=>e=.returned (if hpB s JO=false∨JQ s=0 then pcV 0 ⟨#[]⟩ 0 else pcV 5 (s.extract 0 (JQ s+1)) ((JQ s+1:Nat):Int))∧Below w.heap.size w w':=by
 refine Sp s (JP s) (hpB s JO) (JQ s) w rfl ?_ hs (fun w=>QK s JO w)
 cases hb:hpB s JO with
 |false=>exact .inr (.inl rfl)
 |true=>
  have hle:1≤s.size:=by unfold hpB at hb;simp at hb;exact hb.1
  left
  have h1:JQ s≤(JP s).size:=by rw[Lib.size_eq];exact Iw _ _
  have h2:(JP s).size=s.size-1:=by unfold JP;rw[if_pos hb,ByteArray.size_extract];omega
  omega
def Wd(m:Int)(w:World):Prop:=w.cell? ⟨1,0,none⟩=some (.int .i64 m)
theorem Wd.lt{m:Int}{w:World}(h:Wd m w):1<w.heap.size:=by
 unfold Wd World.cell? at h
 split at h
 ·rename_i hb
  exact(Array.getElem?_eq_some_iff.1 hb).1
 ·simp at h
theorem Wd.below{m:Int}{w w':World}(h:Wd m w)(b:Below w.heap.size w w'):Wd m w':=by
 unfold Wd;rw[b.cell (p:=⟨1,0,none⟩) h.lt];exact h
theorem Hm.drewN{w w1:World}(h:Hm w w1)(n:Nat):Hm w (w1.drewN n):=h.step (Hb (Below.refl _ _) _)
abbrev Og:ByteArray:=⟨#[45,45]⟩
def J3(s:ByteArray):ByteArray:=⟨(Lib.cut s.data.toList [10]).1.toArray⟩
theorem Yv(s:ByteArray)(m:Int)(w:World)(hs:s.size<4294967281)(hm:Wd m w):
  Calls Tryz.prog 126 #[.string s] w fun e w'=>e=.returned (pcV 0 ⟨#[]⟩ (if hpB s Og=true then((J3 s).size:Int)else 0))∧Below w.heap.size w w':=by
 have hc:∀w1,Wd m w1→_:=fun w1 h1=>Tryz.strings_Cut s ⟨#[10]⟩ m w1 hs h1
 have hp:=fun w=>Na s Og w
 have aE:=Hm.new w;have hw:=hm.below aE.bel;have hb:∀v:ByteArray,v=J3 s→(v.size:Int)=((J3 s).size:Int):=fun v h=>by rw[h]
 have e1:(⟨(Lib.cut s.data.toList (⟨#[10]⟩:ByteArray).data.toList).1.toArray⟩:ByteArray)=J3 s:=rfl;rw[e1]at hc
 generalize J3 s=l at*
 generalize (⟨(Lib.cut s.data.toList (⟨#[10]⟩:ByteArray).data.toList).2.1.toArray⟩:ByteArray)=l2 at*
 generalize (Lib.cut s.data.toList (⟨#[10]⟩:ByteArray).data.toList).2.2=b at*
 obtain⟨HC,HO,HW⟩:=hZ3 hc aE hw;clear hc aE hw e1 hm hb
 cases nW:hpB s Og with
 |false=>
  rw[nW]at hp;have HP:=qid hp;clear hp nW;rw[if_neg (by simp)]
  go_enter Tryz.func126,Tryz.ntmps126;go_wp2_with (first
   |(go_at_call 169;(with_reducible refine(HP.out _).mono ?_);rintro e w1 ⟨rfl,hw⟩;obtain rfl:=hw.symm))
  refine bodyPost_ret (v:=pcV 0 ⟨#[]⟩ 0) (by simp[results,Tryz.results126,go_sem]) rfl ?_
  exact⟨rfl,(Below.refl _ _).alloc (Nat.le_refl _) _⟩
 |true=>
  rw[nW]at hp;have HP:=qid hp;clear hp nW;rw[if_pos rfl];go_enter Tryz.func126,Tryz.ntmps126;go_wp2_with (first
   |(go_at_call 169;(with_reducible refine(HP.out _).mono ?_);rintro e w1 ⟨rfl,hw⟩;obtain rfl:=hw.symm)
   |(go_at_call 170;refine(HC.out _ HW.out).mono ?_;rintro e w2 ⟨rfl,nq,rfl⟩;have F1:=HO.out.drewN nq;obtain⟨hB,hL,k0,k1,k2,f0,f1,f2⟩:=id F1))
  refine bodyPost_ret (v:=pcV 0 ⟨#[]⟩ (l.size:Int)) (by simp[results,Tryz.results126,go_sem,k0,k1,k2]) rfl ?_
  refine⟨rfl,((hB.setCell ?_ _).setCell ?_ _).setCell ?_ _⟩<;>exact Nat.le_refl _
theorem VQ(s:ByteArray)(k:Nat):(s.extract 0 k).toList=s.data.toList.take k:=by
 rw[Lib.toList_data,ByteArray.data_extract,Array.toList_extract];simp only[List.extract_eq_take_drop,List.drop_zero,Nat.sub_zero]
theorem qaC(s:ByteArray)(x y:UInt8):hpB s ⟨#[x,y]⟩=decide (s.data.toList.take 2=[x,y]):=by
 unfold hpB;have e1:(⟨#[x,y]⟩:ByteArray).size=2:=rfl;have e2:(⟨#[x,y]⟩:ByteArray).toList=[x,y]:=by rw[Lib.toList_data]
 rw[e1,e2,VQ]
 by_cases h:s.data.toList.take 2=[x,y]
 ·have h2:2≤s.size:=by
   have:=congrArg List.length h;rw[List.length_take,←Lib.size_eq]at this;simp only[List.length_cons,List.length_nil]at this;omega
  rw[decide_eq_true h,decide_eq_true h2,h];simp
 ·rw[decide_eq_false h]
  simp[h]
theorem eQ(s:ByteArray)(a:Nat):(s.extract a s.size).data.toList=s.data.toList.drop a:=by
 rw[ByteArray.data_extract,Array.toList_extract,List.extract_eq_take_drop];refine List.take_of_length_le ?_;rw[List.length_drop,←Lib.size_eq];exact Nat.le_refl _
def GE:Nat→Tx→Option Nat
 |0,_=>some 0
 |d+1,[]=>none
 |d+1,c::r=>
  if(c::r).take 2=[47,42]then(GE (d+2) (r.drop 1)).map (· +2)
  else if(c::r).take 2=[42,47]then(GE d (r.drop 1)).map (· +2)
  else(GE (d+1) r).map (· +1)
termination_by _ l=>l.length
decreasing_by all_goals(simp;try omega)
def O9(o:Option Nat):Int:=match o with|some n=>(n:Int)|none=> -1
structure Nb(s:ByteArray)(R:Option Nat)(w:World)(d a:Nat)(wr:World):Prop where
 own:Hm w wr
 le:a≤s.size
 deep:d≤a
 val:R=(GE d (s.data.toList.drop a)).map (· +a)
theorem Kn(o:Option Nat)(a b c:Nat)(h:a+b=c):(o.map (· +a)).map (· +b)=o.map (· +c):=by
 cases o with
 |none=>rfl
 |some n=>simp;omega
theorem Id(l:Tx)(a:Nat)(h:a<l.length):∃c,l.drop a=c::l.drop (a+1):=⟨l[a],List.drop_eq_getElem_cons h⟩
theorem Nb.open_{s:ByteArray}{R:Option Nat}{w wr:World}{d a:Nat}(h:Nb s R w (d+1) a wr)(h2:(s.data.toList.drop a).take 2=[47,42]):Nb s R w (d+2) (a+2) wr:=by
 have hl:a+2≤s.size:=by
  have:=congrArg List.length h2;rw[List.length_take,List.length_drop,←Lib.size_eq]at this;simp only[List.length_cons,List.length_nil]at this;omega
 obtain⟨c,hc⟩:=Id s.data.toList a (by rw[←Lib.size_eq];omega)
 refine⟨h.own,hl,by have:=h.deep;omega,?_⟩
 rw[h.val,hc,GE,←hc,if_pos h2,Kn _ _ _ (a+2) (by omega),List.drop_drop]
theorem Nb.shut_{s:ByteArray}{R:Option Nat}{w wr:World}{d a:Nat}(h:Nb s R w (d+1) a wr)(h2:(s.data.toList.drop a).take 2=[42,47]):Nb s R w d (a+2) wr:=by
 have hl:a+2≤s.size:=by
  have:=congrArg List.length h2;rw[List.length_take,List.length_drop,←Lib.size_eq]at this;simp only[List.length_cons,List.length_nil]at this;omega
 obtain⟨c,hc⟩:=Id s.data.toList a (by rw[←Lib.size_eq];omega)
 refine⟨h.own,hl,by have:=h.deep;omega,?_⟩
 rw[h.val,hc,GE,←hc,if_neg (by rw[h2];decide),if_pos h2,Kn _ _ _ (a+2) (by omega),List.drop_drop]
theorem Nb.on_{s:ByteArray}{R:Option Nat}{w wr:World}{d a:Nat}(h:Nb s R w (d+1) a wr)(hl:a<s.size)(h1:(s.data.toList.drop a).take 2≠[47,42])(h2:(s.data.toList.drop a).take 2≠[42,47]):Nb s R w (d+1) (a+1) wr:=by
 obtain⟨c,hc⟩:=Id s.data.toList a (by rw[←Lib.size_eq];omega)
 refine⟨h.own,by omega,by have:=h.deep;omega,?_⟩
 rw[h.val,hc,GE,←hc,if_neg h1,if_neg h2,Kn _ _ _ (a+1) (by omega)]
abbrev Pa:ByteArray:=⟨#[47,42]⟩
abbrev qdt:ByteArray:=⟨#[42,47]⟩
theorem VR(s:ByteArray)(w:World)(h:hpB s Pa=false):
  Calls Tryz.prog 127 #[.string s] w fun e w'=>e=.returned (pcV 0 ⟨#[]⟩ 0)∧Below w.heap.size w w':=by
 have hp:=fun w=>Na s Pa w
 rw[h]at hp;have HP:=qid hp;clear hp h;go_enter Tryz.func127,Tryz.ntmps127;go_wp2_with (first
  |(go_at_call 169;(with_reducible refine(HP.out _).mono ?_);rintro e w1 ⟨rfl,hw⟩;obtain rfl:=hw.symm))
 refine bodyPost_ret (v:=pcV 0 ⟨#[]⟩ 0) (by simp[results,Tryz.results127,go_sem]) rfl ?_
 exact⟨rfl,(Below.refl _ _).alloc (Nat.le_refl _) _⟩
theorem Sq(s:ByteArray)(w:World)(hs:s.size≤281474976710656)(h:hpB s Pa=true)(R:Option Nat)(hR:R=(GE 1 (s.data.toList.drop 2)).map (· +2)):
  Calls Tryz.prog 127 #[.string s] w fun e w'=>e=.returned (pcV 0 ⟨#[]⟩ (O9 R))∧Below w.heap.size w w':=by
 have hp:=fun w=>Na s Pa w
 have h2:2≤s.size:=by unfold hpB at h;simp at h;exact h.1
 have hI:Nb s R w 1 2 _:=⟨Hm.new w,h2,by omega,hR⟩
 rw[h]at hp;obtain⟨HP,HI⟩:=hZ2 hp hI;clear hp h hR hI;go_enter Tryz.func127,Tryz.ntmps127;go_wp2_with (first
  |(go_at_call 169;(with_reducible refine(HP.out _).mono ?_);rintro e w1 ⟨rfl,hw⟩;obtain rfl:=hw.symm))
 go_loopw [3,4] (fun u3 u4 wr=>∃d a:Nat,u3=.int .i64 (d:Int)∧u4=.int .i64 (a:Int)∧Nb s R w d a wr) (fun _ u4 _=>s.size-(match u4 with| .int _ k=>k.toNat|_=>0))
 case atStart=>exact⟨1,2,rfl,rfl,HI.out⟩
 case round=>
  obtain⟨d,a,rfl,rfl,hr⟩:=hrel;obtain⟨aE,hle,xX,di⟩:=id hr;obtain⟨hB,hL,k0,k1,k2,f0,f1,f2⟩:=id aE;have HR:=qid hr;clear hr aE HI hw;have l0:(0:Int)≤(a:Int):=by omega
  have l1:(a:Int)≤(s.size:Int):=by omega
  match d,HR,di,xX with
  |0,HR,di,xX=>
   have hv:O9 R=(a:Int):=by rw[di,GE];simp[O9]
   clear di;go_wp2;refine bodyPost_ret (v:=pcV 0 ⟨#[]⟩ (a:Int)) (by simp[results,Tryz.results127,go_sem,k0,k1,k2]) rfl ?_
   rw[hv];refine⟨rfl,((hB.setCell ?_ _).setCell ?_ _).setCell ?_ _⟩<;>exact Nat.le_refl _
  |d+1,HR,di,xX=>
   obtain⟨z,hz⟩:∃z:Int,((d+1:Nat):Int)=z:=⟨_,rfl⟩;rw[hz];have z0:(0:Int)<z:=by omega
   have z1:z≤281474976710656:=by omega
   obtain⟨HZ,HV⟩:=hZ2 hz di;clear hz di xX
   by_cases he:a=s.size
   ·have q1:((a:Int)==(s.size:Int))=true:=by rw[beq_iff_eq];omega
    have hv:O9 R= -1:=by
     rw[HV.out,he,List.drop_of_length_le (by rw[Lib.size_eq];exact Nat.le_refl _),GE];rfl
    go_wp2;refine bodyPost_ret (v:=pcV 0 ⟨#[]⟩ (-1)) (by simp[results,Tryz.results127,go_sem,k0,k1,k2]) rfl ?_
    rw[hv];refine⟨rfl,((hB.setCell ?_ _).setCell ?_ _).setCell ?_ _⟩<;>exact Nat.le_refl _
   ·have q1:((a:Int)==(s.size:Int))=false:=by rw[beq_eq_false_iff_ne];omega
    have ho:=fun w=>Na (s.extract a s.size) Pa w
    have hc:=fun w=>Na (s.extract a s.size) qdt w
    simp only[qaC,eQ]at ho hc
    by_cases h1:(s.data.toList.drop a).take 2=[47,42]
    ·simp only[h1,decide_true]at ho
     have HO:=qid ho;clear ho hc;go_wp2_with (go_at_call 169;(with_reducible refine(HO.out _).mono ?_);rintro e w1 ⟨rfl,hw⟩;obtain rfl:=hw.symm);have hq:=HR.out.open_ h1;have e1:z+1=((d+2:Nat):Int):=by have:=HZ.out;omega
     have e2:(a:Int)+2=((a+2:Nat):Int):=by omega
     have e3:=hq.le;refine⟨⟨d+2,a+2,by rw[e1],by rw[e2],hq⟩,?_⟩
     rw[e2];simp only[Int.toNat_natCast];omega
    ·simp only[h1,decide_false]at ho
     have HO:=qid ho
     by_cases h3:(s.data.toList.drop a).take 2=[42,47]
     ·simp only[h3,decide_true]at hc
      have HC:=qid hc;clear ho hc;go_wp2_with (first
       |(go_at_call 169;(with_reducible refine(HO.out _).mono ?_);rintro e w1 ⟨rfl,hw⟩;obtain rfl:=hw.symm)
       |(go_at_call 169;(with_reducible refine(HC.out _).mono ?_);rintro e w2 ⟨rfl,iO⟩;obtain rfl:=iO.symm))
      have hq:=HR.out.shut_ h3;have e1:z-1=(d:Int):=by have:=HZ.out;omega
      have e2:(a:Int)+2=((a+2:Nat):Int):=by omega
      have e3:=hq.le;refine⟨⟨d,a+2,by rw[e1],by rw[e2],hq⟩,?_⟩
      rw[e2];simp only[Int.toNat_natCast];omega
     ·simp only[h3,decide_false]at hc
      have HC:=qid hc;clear ho hc;go_wp2_with (first
       |(go_at_call 169;(with_reducible refine(HO.out _).mono ?_);rintro e w1 ⟨rfl,hw⟩;obtain rfl:=hw.symm)
       |(go_at_call 169;(with_reducible refine(HC.out _).mono ?_);rintro e w2 ⟨rfl,iO⟩;obtain rfl:=iO.symm))
      have hq:=HR.out.on_ (by omega) h1 h3
      have e1:z=((d+1:Nat):Int):=HZ.out.symm;have e2:(a:Int)+1=((a+1:Nat):Int):=by omega
      have e3:=hq.le;refine⟨⟨d+1,a+1,by rw[e1],by rw[e2],hq⟩,?_⟩
      rw[e2];simp only[Int.toNat_natCast];omega
def Gx(q:UInt8):Tx→Option (Tx×Nat)
 | []=>none
 |c::r=>if c=q then(match r with
   |d::r2=>if d=q then(Gx q r2).map (fun p=>(d::p.1,p.2+2))else some ([],1)
   | []=>some ([],1))else(Gx q r).map (fun p=>(c::p.1,p.2+1))
theorem un(q c:UInt8)(r:Tx):Gx q (c::r)=if c=q then(match r with
   |d::r2=>if d=q then(Gx q r2).map (fun p=>(d::p.1,p.2+2))else some ([],1)
   | []=>some ([],1))else(Gx q r).map (fun p=>(c::p.1,p.2+1)):=by
 rw[Gx.eq_def]
 cases r<;>rfl
def u8V(c:UInt8):Value:=.int .u8 (c.toNat:Int)
theorem qcU:(Tryz.prog.info? 5).map (fun i=>(i.zero,i.size,i.bytes))=some (some (.int .u8 0),1,1):=by kernel_rfl
theorem Yw:∃i,Tryz.prog.info? 5=some i∧i.zero=some (.int .u8 0)∧i.size=1∧i.bytes=1:=by
 have h:=qcU
 cases e:Tryz.prog.info? 5 with
 |none=>rw[e]at h;cases h
 |some i=>
  rw[e]at h;simp only[Option.map_some,Option.some.injEq,Prod.mk.injEq]at h;exact⟨i,rfl,h.1,h.2.1,h.2.2⟩
theorem T2:Tryz.prog.underlying 121=some (.slice 5):=by kernel_rfl
theorem Hm.grown{w w1 w2:World}{row:Option Nat}(h:Hm w w1)(g:w1.grownBy w2 row)(hr:∀k,row=some k→w.heap.size+1≤k):Hm w w2:=by
 have b:Below (w.heap.size+1) w1 w2:=(Below.refl _ _).grown g (by have:=h.lt;omega) hr
 have l:=Nat.lt_succ_self w.heap.size;exact⟨h.bel.trans (b.mono (Nat.le_succ _)),Nat.lt_of_lt_of_le h.lt b.size,by rw[b.cell l];exact h.k0,by rw[b.cell l];exact h.k1,by rw[b.cell l];exact h.k2,by rw[b.frozen l];exact h.f0,by rw[b.frozen l];exact h.f1,by rw[b.frozen l];exact h.f2⟩
structure Yx(s:ByteArray)(q:UInt8)(R:Option (Tx×Nat))(w:World)(xs:Tx)(a:Nat)(v:Value)(wr:World):Prop where
 own:Hm w wr
 row:wr.ownsRow (w.heap.size+1) 5 1 v xs.length (xs.map u8V)
 le:a≤s.size
 len:xs.length≤a
 val:R=(Gx q (s.data.toList.drop a)).map (fun p=>(xs++p.1,p.2+a))
theorem Yx.more{s:ByteArray}{q:UInt8}{R:Option (Tx×Nat)}{w wr w2:World}{xs:Tx}{a b:Nat}{v v2:Value}{z:Int}(h:Yx s q R w xs a v wr)(c:UInt8)(hz:z=(c.toNat:Int))(hr:w2.ownsRow (w.heap.size+1) 5 1 v2 (xs.length+1) (xs.map u8V++[.int .u8 z]))(hg:(wr.alloc (.cells #[.int .u8 z] 5)).grownBy w2 v.ownBlock)(hb:b≤s.size)(fa:a<b)(hv:R=(Gx q (s.data.toList.drop b)).map (fun p=>(xs++c::p.1,p.2+b))):Yx s q R w (xs++[c]) b v2 w2:=by
 refine⟨(h.own.step ((Below.refl _ _).alloc (Nat.le_refl _) _)).grown hg (fun k hk=>(World.ownsRow.lt h.row k hk).1),?_,hb,by have:=h.len;simp;omega,?_⟩
 ·subst hz
  simpa[u8V]using hr
 ·rw[hv];simp
theorem Yy{w wr:World}{xs:Tx}{v:Value}(h:wr.ownsRow (w.heap.size+1) 5 1 v xs.length (xs.map u8V)):(convert 121 9 v).run Tryz.prog wr=.ok (.string ⟨xs.toArray⟩) wr:=by
 have ht:=h;rcases h.2 with⟨rfl,hn⟩|⟨g,cap,cur,rfl,_⟩
 ·have:xs=[]:=List.eq_nil_of_length_eq_zero hn
  subst this;rw[run_convert_bytes_string wr 121 9 5 none 0 0 T2 (by kernel_rfl) (by kernel_rfl)]
  simp[Conv.bytesToString]
  rfl
 ·refine run_convert_bytes_back (P:=Tryz.prog) wr 121 9 5 ⟨g,0,none⟩ cap xs T2 (by kernel_rfl) (by kernel_rfl) (fun j hj=>?_)
  exact World.ownsRow.cells ht rfl j _ (by simp[u8V,hj])
def Pb(k:Int)(o:Option (Tx×Nat)):Value:=match o with
 |some p=>pcV k ⟨p.1.toArray⟩ (p.2:Int)
 |none=>pcV 0 ⟨#[]⟩ (-1)
theorem qca(s:ByteArray)(q:UInt8)(k:Int)(w:World)(h:0<s.size)(hq:(s[0]'h)≠q):
  Calls Tryz.prog 174 #[.string s,.int .u8 (q.toNat:Int),.int .i64 k] w fun e w'=>e=.returned (pcV 0 ⟨#[]⟩ 0)∧Below w.heap.size w w':=by
 have hz:(0:Int)<(s.size:Int):=by omega
 have g:(((s[0]'h).toNat:Int) != (q.toNat:Int))=true:=by
  rw[bne,beq_eq_false_iff_ne.2 (fun e=>hq (UInt8.toNat_inj.1 (by omega)))];rfl
 clear hq;go_enter Tryz.func174,Tryz.ntmps174;go_wp2;refine bodyPost_ret (v:=pcV 0 ⟨#[]⟩ 0) (by simp[results,Tryz.results174,go_sem]) rfl ?_
 exact⟨rfl,(Below.refl _ _).alloc (Nat.le_refl _) _⟩
theorem QL(w:World)(z:Int):∀(j:Nat) (u:Value),[Value.int .u8 z][j]? =some u→(w.alloc (.cells #[.int .u8 z] 5)).cell? ((⟨w.heap.size,0,none⟩:Addr).add j)=some u:=by
 intro j u hj
 match j,hj with
 |0,hj=>
  rw[Addr.add_lit,World.cell?_alloc_mark]
  simpa using hj
theorem qaD(s:ByteArray)(q:UInt8)(k:Int)(w:World)(hs:s.size≤4294967296)(h:0<s.size)(hq:(s[0]'h)=q)(R:Option (Tx×Nat))(hR:R=(Gx q (s.data.toList.drop 1)).map (fun p=>(p.1,p.2+1))):
  Calls Tryz.prog 174 #[.string s,.int .u8 (q.toNat:Int),.int .i64 k] w fun e w'=>e=.returned (Pb k R)∧Below w.heap.size w w':=by
 obtain⟨i5,CM,jW,vD,bh⟩:=Yw;have hz:(0:Int)<(s.size:Int):=by omega
 have g:(((s[0]'h).toNat:Int) != (q.toNat:Int))=false:=by
  rw[hq];simp
 have hI:Yx s q R w [] 1 (.slice none 0 0) _:=⟨Hm.new w,World.ownsRow_nil _ _ _ _,by omega,by simp,by rw[hR];rfl⟩
 have HI:=qid hI;clear hI hq hR;go_enter Tryz.func174,Tryz.ntmps174;go_wp2
 go_loopw [7,8] (fun u7 u8 wr=>∃(xs:Tx) (a:Nat),u8=.int .i64 (a:Int)∧Yx s q R w xs a u7 wr) (fun _ u8 _=>s.size-(match u8 with| .int _ k=>k.toNat|_=>0))
 case atStart=>exact⟨[],1,rfl,HI.out⟩
 case round=>
  obtain⟨xs,a,rfl,hr⟩:=hrel;obtain⟨aE,fg,hle,hlen,di⟩:=id hr;obtain⟨hB,hL,k0,k1,k2,f0,f1,f2⟩:=id aE;have ka:=Yy fg;obtain⟨HB,HV⟩:=hZ2 hr di;have l0:(0:Int)≤(a:Int):=by omega
  clear hr aE HI fg di g hz
  by_cases ha:a<s.size
  ·have hd:=List.drop_eq_getElem_cons (show a<s.data.toList.length by rw[←Lib.size_eq];exact ha)
   have rh:s.data.toList[a]'(by rw[←Lib.size_eq];exact ha)=s[a]'ha:=rfl
   rw[rh]at hd;obtain⟨b,hb⟩:∃b,a+1=b:=⟨_,rfl⟩;have cw:IntKind.i64.wrap ((a:Int)+1)=(b:Int):=by rw[show(a:Int)+1=(b:Int) by omega];exact IntWalk.i64_in _ (by omega)
   have la:(a:Int)<(s.size:Int):=by omega
   rw[hb]at hd;obtain⟨HD,dh⟩:=hZ2 hd hb;clear hd rh hb
   by_cases hc:s[a]'ha=q
   ·have g1:(((s[a]'ha).toNat:Int)==(q.toNat:Int))=true:=by rw[hc];simp
    have b0:(0:Int)≤(b:Int):=by omega
    by_cases Gf:b=s.size
    ·have hv:Pb k R=pcV k ⟨xs.toArray⟩ (b:Int):=by
      rw[HV.out,HD.out,un,if_pos hc,List.drop_of_length_le (by rw[←Lib.size_eq];omega)]
      simp[Pb];have:=dh.out;omega
     have g2:((b:Int)==(s.size:Int))=true:=by rw[beq_iff_eq];omega
     clear hc;go_wp2;refine bodyPost_ret (v:=pcV k ⟨xs.toArray⟩ (b:Int)) (by simp[results,Tryz.results174,go_sem,k0,k1,k2];try omega) rfl ?_
     try rw[hv]
     refine⟨rfl,((hB.setCell ?_ _).setCell ?_ _).setCell ?_ _⟩<;>exact Nat.le_refl _
    ·have cr:b<s.size:=by have:=dh.out;omega
     have lb:(b:Int)<(s.size:Int):=by omega
     have g2:((b:Int)==(s.size:Int))=false:=by rw[beq_eq_false_iff_ne];omega
     have df:=List.drop_eq_getElem_cons (show b<s.data.toList.length by rw[←Lib.size_eq];exact cr)
     have ri:s.data.toList[b]'(by rw[←Lib.size_eq];exact cr)=s[b]'cr:=rfl
     rw[ri]at df
     by_cases ey:s[b]'cr=q
     ·have g3:(((s[b]'cr).toNat:Int) != (q.toNat:Int))=false:=by rw[ey];simp
      obtain⟨d,tD⟩:∃d,b+1=d:=⟨_,rfl⟩;have zk:IntKind.i64.wrap ((b:Int)+1)=(d:Int):=by rw[show(b:Int)+1=(d:Int) by omega];exact IntWalk.i64_in _ (by omega)
      have hv:R=(Gx q (s.data.toList.drop d)).map (fun p=>(xs++(s[b]'cr)::p.1,p.2+d)):=by
       rw[HV.out,HD.out,un,if_pos hc,df,tD];simp only[ey,if_true];rw[Option.map_map]
       congr 1
       funext p
       simp only[Function.comp];have:=dh.out;rw[show p.2+2+a=p.2+d by omega]
      obtain⟨cO,uY⟩:=hZ2 hv tD;clear hv hc ey df ri tD;go_wp2_with (at_builtin;go_must (
       refine wpList_append_own_wide _ rfl (.tmp 43) (.tmp 47) 121 rfl (w.heap.size+1) 5 i5 (.int .u8 0) 1 1 T2 CM jW vD bh rfl (by decide) u7 xs.length (xs.map u8V) rfl (HB.out.row.alloc _) ⟨wr.heap.size,0,none⟩ 1 1 [.int .u8 ((s[b]'cr).toNat:Int)] rfl rfl ?c1 ?c2 ?c3 ?c4 ?c5 ?_
       case c1=>exact QL wr _
       case c2=>intro u hu;rw[List.mem_singleton.1 hu];rfl
       case c3=>unfold maxLen;omega
       case c4=>omega
       case c5=>have:=HB.out.own.lt;simp;omega
       intro v9 w9 aB aM _))
      have mi:=HB.out.more (b:=d) (s[b]'cr) rfl aB aM (by have:=uY.out;omega) (by have:=uY.out;have:=dh.out;omega) cO.out
      have:=uY.out;have:=dh.out;refine⟨⟨_,d,rfl,mi⟩,?_⟩;simp only[Int.toNat_natCast];omega
     ·have hv:Pb k R=pcV k ⟨xs.toArray⟩ (b:Int):=by
       rw[HV.out,HD.out,un,if_pos hc,df];simp only[ey,if_false];simp[Pb];have:=dh.out;omega
      have g3:(((s[b]'cr).toNat:Int) != (q.toNat:Int))=true:=by
       rw[bne,beq_eq_false_iff_ne.2 (fun e=>ey (UInt8.toNat_inj.1 (by omega)))];rfl
      clear hc ey df ri;go_wp2;refine bodyPost_ret (v:=pcV k ⟨xs.toArray⟩ (b:Int)) (by simp[results,Tryz.results174,go_sem,k0,k1,k2];try omega) rfl ?_
      try rw[hv]
      refine⟨rfl,((hB.setCell ?_ _).setCell ?_ _).setCell ?_ _⟩<;>exact Nat.le_refl _
   ·have g1:(((s[a]'ha).toNat:Int)==(q.toNat:Int))=false:=by
     rw[beq_eq_false_iff_ne];exact fun e=>hc (UInt8.toNat_inj.1 (by omega))
    have hv:R=(Gx q (s.data.toList.drop b)).map (fun p=>(xs++(s[a]'ha)::p.1,p.2+b)):=by
     rw[HV.out,HD.out,un,if_neg hc,Option.map_map]
     congr 1
     funext p
     simp only[Function.comp];have:=dh.out;rw[show p.2+1+a=p.2+b by omega]
    have cO:=qid hv;clear hv hc;go_wp2_with (at_builtin;go_must (
     refine wpList_append_own_wide _ rfl (.tmp 43) (.tmp 47) 121 rfl (w.heap.size+1) 5 i5 (.int .u8 0) 1 1 T2 CM jW vD bh rfl (by decide) u7 xs.length (xs.map u8V) rfl (HB.out.row.alloc _) ⟨wr.heap.size,0,none⟩ 1 1 [.int .u8 ((s[a]'ha).toNat:Int)] rfl rfl ?c1 ?c2 ?c3 ?c4 ?c5 ?_
     case c1=>exact QL wr _
     case c2=>intro u hu;rw[List.mem_singleton.1 hu];rfl
     case c3=>unfold maxLen;omega
     case c4=>omega
     case c5=>have:=HB.out.own.lt;simp;omega
     intro v9 w9 aB aM _))
    have mi:=HB.out.more (b:=b) (s[a]'ha) rfl aB aM (by have:=dh.out;omega) (by have:=dh.out;omega) cO.out
    have:=dh.out;refine⟨⟨_,b,rfl,mi⟩,?_⟩;simp only[Int.toNat_natCast];omega
  ·have la:¬((a:Int)<(s.size:Int)):=by omega
   have hv:Pb k R=pcV 0 ⟨#[]⟩ (-1):=by
    rw[HV.out,List.drop_of_length_le (by rw[←Lib.size_eq];omega)];rfl
   go_wp2;refine bodyPost_ret (v:=pcV 0 ⟨#[]⟩ (-1)) (by simp[results,Tryz.results174,go_sem,k0,k1,k2];try omega) rfl ?_
   try rw[hv]
   refine⟨rfl,((hB.setCell ?_ _).setCell ?_ _).setCell ?_ _⟩<;>exact Nat.le_refl _
def LK(q:UInt8)(k:Int)(s:ByteArray):Value:=
 match s.data.toList with
 | []=>pcV 0 ⟨#[]⟩ 0
 |c::r=>if c=q then Pb k ((Gx q r).map (fun p=>(p.1,p.2+1)))else pcV 0 ⟨#[]⟩ 0
theorem T3(s:ByteArray)(q:UInt8)(k:Int)(w:World)(hs:s.size≤4294967296)(h:0<s.size):
  Calls Tryz.prog 174 #[.string s,.int .u8 (q.toNat:Int),.int .i64 k] w fun e w'=>e=.returned (LK q k s)∧Below w.heap.size w w':=by
 have hd:=List.drop_eq_getElem_cons (show 0<s.data.toList.length by rw[←Lib.size_eq];exact h)
 rw[List.drop_zero]at hd;have rh:s.data.toList[0]'(by rw[←Lib.size_eq];exact h)=s[0]'h:=rfl
 rw[rh]at hd
 by_cases hq:s[0]'h=q
 ·have e:LK q k s=Pb k ((Gx q (s.data.toList.drop 1)).map (fun p=>(p.1,p.2+1))):=by
   unfold LK;rw[hd];simp only[hq,if_true,List.drop_succ_cons,List.drop_zero]
  rw[e];exact qaD s q k w hs h hq _ rfl
 ·have e:LK q k s=pcV 0 ⟨#[]⟩ 0:=by
   unfold LK;rw[hd];simp only[hq,if_false]
  rw[e];exact qca s q k w h hq
theorem Yz(k:Int)(o:Option (Tx×Nat)):∃a t n,Pb k o=pcV a t n:=by
 cases o with
 |none=>exact⟨_,_,_,rfl⟩
 |some p=>exact⟨_,_,_,rfl⟩
theorem QM(q:UInt8)(k:Int)(s:ByteArray):∃a t n,LK q k s=pcV a t n:=by
 unfold LK
 split
 ·exact⟨_,_,_,rfl⟩
 ·split
  ·exact Yz _ _
  ·exact⟨_,_,_,rfl⟩
theorem Sr(s:ByteArray)(w:World)(hs:s.size≤4294967296)(h:0<s.size):
  Calls Tryz.prog 129 #[.string s] w fun e w'=>e=.returned (LK 34 2 s)∧Below w.heap.size w w':=by
 have hb:=fun w=>T3 s 34 2 w hs h
 obtain⟨a,t,n,e⟩:=QM 34 2 s;rw[e]at hb⊢;have hb:∀w,Calls Tryz.prog 174 #[.string s,.int .u8 34,.int .i64 2] w fun e w'=>e=.returned (pcV a t n)∧Below w.heap.size w w':=hb
 have HB:=qid hb;clear hb e;go_enter Tryz.func129,Tryz.ntmps129;go_wp2_with (go_at_call 174;(with_reducible refine(HB.out _).mono ?_);rintro e w1 ⟨rfl,aU⟩;have F1:=(Hm.new w).step aU;clear aU;obtain⟨hB,hL,k0,k1,k2,f0,f1,f2⟩:=id F1);refine bodyPost_ret (v:=pcV a t n) (by simp[results,Tryz.results129,go_sem,k0,k1,k2]) rfl ?_
 refine⟨rfl,((hB.setCell ?_ _).setCell ?_ _).setCell ?_ _⟩<;>exact Nat.le_refl _
theorem qaE(s:ByteArray)(w:World)(hs:s.size≤4294967296)(h:0<s.size):
  Calls Tryz.prog 130 #[.string s] w fun e w'=>e=.returned (LK 39 3 s)∧Below w.heap.size w w':=by
 have hb:=fun w=>T3 s 39 3 w hs h
 obtain⟨a,t,n,e⟩:=QM 39 3 s;rw[e]at hb⊢;have hb:∀w,Calls Tryz.prog 174 #[.string s,.int .u8 39,.int .i64 3] w fun e w'=>e=.returned (pcV a t n)∧Below w.heap.size w w':=hb
 have HB:=qid hb;clear hb e;go_enter Tryz.func130,Tryz.ntmps130;go_wp2_with (go_at_call 174;(with_reducible refine(HB.out _).mono ?_);rintro e w1 ⟨rfl,aU⟩;have F1:=(Hm.new w).step aU;clear aU;obtain⟨hB,hL,k0,k1,k2,f0,f1,f2⟩:=id F1);refine bodyPost_ret (v:=pcV a t n) (by simp[results,Tryz.results130,go_sem,k0,k1,k2]) rfl ?_
 refine⟨rfl,((hB.setCell ?_ _).setCell ?_ _).setCell ?_ _⟩<;>exact Nat.le_refl _
def Jb(l:Tx):Bool:=l.isEmpty||(decide (0<aT n8 l)&&decide (aT Jh l=l.length))
theorem VS(s:ByteArray)(w:World):Calls Tryz.prog 202 #[.string s] w fun e w'=>e=.returned (.bool (Jb s.data.toList))∧Below w.heap.size w w':=by
 have hr:=fun w=>KG Hu n8 true (qid O1) s w (qid (K9 Ma))
 have hq:=fun w=>ZR O0 Jh true (qid ZS) s w (qid (K9 ZO))
 have e0:Jb s.data.toList=(s.toList.isEmpty||(decide ((0:Int)<(aT n8 s.data.toList:Int))&&((aT Jh s.data.toList:Int)==(s.size:Int)))):=by
  unfold Jb;rw[Lib.toList_data,←Lib.size_eq]
  congr 1
  rw[Bool.eq_iff_iff];simp only[Bool.and_eq_true,decide_eq_true_eq,beq_iff_eq];omega
 rw[e0];clear e0
 generalize aT n8 s.data.toList=n at*
 generalize aT Jh s.data.toList=m at*
 obtain⟨HR,HQ⟩:=hZ2 hr hq;clear hr hq
 cases h0:s.toList.isEmpty with
 |true=>
  go_enter Tryz.func202,Tryz.ntmps202;go_wp2;go_ret;exact⟨rfl,Below.refl _ _⟩
 |false=>
  by_cases hn:(0:Int)<(n:Int)
  ·rw[decide_eq_true hn]
   cases hb:((m:Int)==(s.size:Int))with
   |true=>
    go_enter Tryz.func202,Tryz.ntmps202;go_wp2_with (first
     |(go_at_call 167;(with_reducible refine(HR.out _).mono ?_);rintro e w1 ⟨rfl,aU⟩)
     |(go_at_call 167;(with_reducible refine(HQ.out _).mono ?_);rintro e w2 ⟨rfl,aA⟩))
    go_ret;exact⟨rfl,aU.trans (aA.mono aU.size)⟩
   |false=>
    go_enter Tryz.func202,Tryz.ntmps202;go_wp2_with (first
     |(go_at_call 167;(with_reducible refine(HR.out _).mono ?_);rintro e w1 ⟨rfl,aU⟩)
     |(go_at_call 167;(with_reducible refine(HQ.out _).mono ?_);rintro e w2 ⟨rfl,aA⟩))
    go_ret;exact⟨rfl,aU.trans (aA.mono aU.size)⟩
  ·rw[decide_eq_false hn]
   go_enter Tryz.func202,Tryz.ntmps202;go_wp2_with (first
    |(go_at_call 167;(with_reducible refine(HR.out _).mono ?_);rintro e w1 ⟨rfl,aU⟩))
   go_ret;exact⟨rfl,aU⟩
theorem index_ge(s sub:Tx): -1≤Lib.index s sub:=by
 induction s with
 |nil=>unfold Lib.index;split<;>omega
 |cons b l ih=>
  unfold Lib.index
  split
  ·omega
  ·split<;>omega
theorem VT(s sub:Tx)(h:0≤Lib.index s sub):(Lib.index s sub).toNat+sub.length≤s.length:=by
 induction s with
 |nil=>
  unfold Lib.index at h⊢
  by_cases e:sub.isEmpty
  ·rw[if_pos e];simp at e;subst e;simp
  ·rw[if_neg e]at h;omega
 |cons b l ih=>
  unfold Lib.index at h⊢
  by_cases e:sub.isPrefixOf (b::l)
  ·rw[if_pos e]
   have:=(List.isPrefixOf_iff_prefix.1 e).length_le
   simpa using this
  ·rw[if_neg e]at h⊢
   by_cases e2:(Lib.index l sub== -1)=true
   ·rw[if_pos e2]at h;omega
   ·rw[if_neg e2]at h⊢
    have g:=index_ge l sub;have n:Lib.index l sub≠ -1:=by simpa using e2
    have:=ih (by omega)
    rw[List.length_cons];omega
theorem Pd(s sep:Tx)(h:(Lib.cut s sep).2.2=true):(Lib.cut s sep).1.length+sep.length≤s.length:=by
 unfold Lib.cut at h⊢
 by_cases e:0≤Lib.index s sep
 ·rw[if_pos e]
  have:=VT s sep e;simp;omega
 ·rw[if_neg e]at h;cases h
theorem VU(s r t t2:ByteArray)(b ends ok:Bool)(m:Int)(w:World)(hm:Wd m w)(hs:s.size≤281474976710656)(hc:∀w,Calls Tryz.prog 178 #[.string s,.string JO] w fun e w'=>e=.returned (.tuple #[.string r,.bool b])∧w'=w)(hk:∀w,Wd m w→Calls Tryz.prog 170 #[.string r,.string JO] w fun e w'=>e=.returned (.tuple #[.string t,.string t2,.bool ends])∧∃n,w'=w.drewN n)(ht:∀w,Calls Tryz.prog 202 #[.string t] w fun e w'=>e=.returned (.bool ok)∧Below w.heap.size w w')(hle:b=true→ends=true→t.size+2≤s.size):
  Calls Tryz.prog 175 #[.string s] w fun e w'=>e=.returned (.string (if(b&&ends&&ok)=true then s.extract 0 (t.size+2)else⟨#[]⟩))∧Below w.heap.size w w':=by
 obtain⟨HC,HK,HT⟩:=hZ3 hc hk ht;clear hc hk ht
 cases b with
 |false=>
  rw[if_neg (by simp)]
  clear hle;go_enter Tryz.func175,Tryz.ntmps175;go_wp2_with (first
   |(go_at_call 178;(with_reducible refine(HC.out _).mono ?_);rintro e w1 ⟨rfl,hw⟩;obtain rfl:=hw.symm)
   |(go_at_call 170;(with_reducible refine(HK.out _ hm).mono ?_);rintro e w2 ⟨rfl,nq,rfl⟩))
  go_ret;exact⟨rfl,Hb (Below.refl _ _) _⟩
 |true=>
 cases ends with
 |false=>
  rw[if_neg (by simp)]
  clear hle;go_enter Tryz.func175,Tryz.ntmps175;go_wp2_with (first
   |(go_at_call 178;(with_reducible refine(HC.out _).mono ?_);rintro e w1 ⟨rfl,hw⟩;obtain rfl:=hw.symm)
   |(go_at_call 170;(with_reducible refine(HK.out _ hm).mono ?_);rintro e w2 ⟨rfl,nq,rfl⟩))
  go_ret;exact⟨rfl,Hb (Below.refl _ _) _⟩
 |true=>
 cases ok with
 |false=>
  rw[if_neg (by simp)]
  clear hle;go_enter Tryz.func175,Tryz.ntmps175;go_wp2_with (first
   |(go_at_call 178;(with_reducible refine(HC.out _).mono ?_);rintro e w1 ⟨rfl,hw⟩;obtain rfl:=hw.symm)
   |(go_at_call 170;(with_reducible refine(HK.out _ hm).mono ?_);rintro e w2 ⟨rfl,nq,rfl⟩)
   |(go_at_call 202;(with_reducible refine(HT.out _).mono ?_);rintro e w3 ⟨rfl,aG⟩))
  go_ret;exact⟨rfl,(Hb (Below.refl _ _) _).trans (aG.mono (by simp))⟩
 |true=>
  rw[if_pos (show(true&&true&&true)=true from rfl)];have hl:=hle rfl rfl;clear hle;obtain⟨n,hn⟩:∃n,t.size+2=n:=⟨_,rfl⟩;have e1:IntKind.i64.wrap (1+(t.size:Int))=1+(t.size:Int):=IntWalk.i64_in _ (by omega)
  have e2:IntKind.i64.wrap (1+(t.size:Int)+1)=(n:Int):=by rw[show 1+(t.size:Int)+1=(n:Int) by omega];exact IntWalk.i64_in _ (by omega)
  have c0:(0:Int)≤(n:Int):=by omega
  have c1:(n:Int)≤(s.size:Int):=by omega
  rw[hn];clear hn hl hs;go_enter Tryz.func175,Tryz.ntmps175;go_wp2_with (first
   |(go_at_call 178;(with_reducible refine(HC.out _).mono ?_);rintro e w1 ⟨rfl,hw⟩;obtain rfl:=hw.symm)
   |(go_at_call 170;(with_reducible refine(HK.out _ hm).mono ?_);rintro e w2 ⟨rfl,nq,rfl⟩)
   |(go_at_call 202;(with_reducible refine(HT.out _).mono ?_);rintro e w3 ⟨rfl,aG⟩))
  go_ret;exact⟨rfl,(Hb (Below.refl _ _) _).trans (aG.mono (by simp))⟩
theorem YB(s mk t t2:ByteArray)(ends:Bool)(m:Int)(w:World)(hm:Wd m w)(hs:s.size≤4294967296)(hle:mk.size≤s.size)(wN:ends=true→t.size≤s.size)(sG:∀w,Wd m w→Calls Tryz.prog 175 #[.string s] w fun e w'=>e=.returned (.string mk)∧Below w.heap.size w w')(hk:∀w,Wd m w→Calls Tryz.prog 170 #[.string (s.extract mk.size s.size),.string mk] w fun e w'=>e=.returned (.tuple #[.string t,.string t2,.bool ends])∧∃n,w'=w.drewN n):
  Calls Tryz.prog 131 #[.string s] w fun e w'=>e=.returned (if mk.toList.isEmpty=true then pcV 0 ⟨#[]⟩ 0 else if ends=false then pcV 0 ⟨#[]⟩ (-1)else pcV 3 t ((mk.size:Int)+t.size+mk.size))∧Below w.heap.size w w':=by
 have tE:=qid (hm.below (Hm.new w).bel);obtain⟨HM,HK⟩:=hZ2 sG hk;clear sG hk hm
 cases he:mk.toList.isEmpty with
 |true=>
  rw[if_pos rfl];go_enter Tryz.func131,Tryz.ntmps131;go_wp2_with (first
   |(go_at_call 175;(with_reducible refine(HM.out _ tE.out).mono ?_);rintro e w1 ⟨rfl,aU⟩;have F1:=(Hm.new w).step aU;have j4:=qid (tE.out.below aU);clear aU;obtain⟨hB,hL,k0,k1,k2,f0,f1,f2⟩:=id F1))
  refine bodyPost_ret (v:=pcV 0 ⟨#[]⟩ 0) (by simp[results,Tryz.results131,go_sem,k0,k1,k2]) rfl ?_
  refine⟨rfl,((hB.setCell ?_ _).setCell ?_ _).setCell ?_ _⟩<;>exact Nat.le_refl _
 |false=>
  rw[if_neg (by simp)]
  have c0:(0:Int)≤(mk.size:Int):=by omega
  have c1:(mk.size:Int)≤(s.size:Int):=by omega
  cases ends with
  |false=>
  rw[if_pos rfl];go_enter Tryz.func131,Tryz.ntmps131;go_wp2_with (first
   |(go_at_call 175;(with_reducible refine(HM.out _ tE.out).mono ?_);rintro e w1 ⟨rfl,aU⟩;have F1:=(Hm.new w).step aU;have j4:=qid (tE.out.below aU);clear aU;obtain⟨hB,hL,k0,k1,k2,f0,f1,f2⟩:=id F1)
   |(go_at_call 170;(with_reducible refine(HK.out _ j4.out).mono ?_);rintro e w2 ⟨rfl,nq,rfl⟩;have F2:=F1.drewN nq;clear hB hL k0 k1 k2 f0 f1 f2;obtain⟨hB,hL,k0,k1,k2,f0,f1,f2⟩:=id F2))
  refine bodyPost_ret (v:=pcV 0 ⟨#[]⟩ (-1)) (by simp[results,Tryz.results131,go_sem,k0,k1,k2]) rfl ?_
  refine⟨rfl,((hB.setCell ?_ _).setCell ?_ _).setCell ?_ _⟩<;>exact Nat.le_refl _
  |true=>
  rw[if_neg (by simp)]
  have ht:=wN rfl;have hc:=fun w=>Hp t w (by omega)
  have HC:=qid hc;clear hc wN;have e1:IntKind.i64.wrap ((mk.size:Int)+(t.size:Int))=(mk.size:Int)+(t.size:Int):=IntWalk.i64_in _ (by omega)
  have e2:IntKind.i64.wrap ((mk.size:Int)+(t.size:Int)+(mk.size:Int))=(mk.size:Int)+(t.size:Int)+(mk.size:Int):=IntWalk.i64_in _ (by omega)
  go_enter Tryz.func131,Tryz.ntmps131;go_wp2_with (first
   |(go_at_call 175;(with_reducible refine(HM.out _ tE.out).mono ?_);rintro e w1 ⟨rfl,aU⟩;have F1:=(Hm.new w).step aU;have j4:=qid (tE.out.below aU);clear aU;obtain⟨hB,hL,k0,k1,k2,f0,f1,f2⟩:=id F1)
   |(go_at_call 170;(with_reducible refine(HK.out _ j4.out).mono ?_);rintro e w2 ⟨rfl,nq,rfl⟩;have F2:=F1.drewN nq;clear hB hL k0 k1 k2 f0 f1 f2;obtain⟨hB,hL,k0,k1,k2,f0,f1,f2⟩:=id F2)
   |(go_at_call 48;(with_reducible refine(HC.out _).mono ?_);rintro e w3 ⟨rfl,aG⟩;have F3:=F2.step aG;clear aG hB hL k0 k1 k2 f0 f1 f2;obtain⟨hB,hL,k0,k1,k2,f0,f1,f2⟩:=id F3))
  refine bodyPost_ret (v:=pcV 3 t ((mk.size:Int)+t.size+mk.size)) (by simp[results,Tryz.results131,go_sem,k0,k1,k2]) rfl ?_
  refine⟨rfl,((hB.setCell ?_ _).setCell ?_ _).setCell ?_ _⟩<;>exact Nat.le_refl _
def Nc(s:ByteArray):Tx×Tx×Bool:=Lib.cut (JP s).data.toList [36]
def rg(s:ByteArray):ByteArray:=if(hpB s JO&&(Nc s).2.2&&Jb (Nc s).1)=true then s.extract 0 ((Nc s).1.length+2)else⟨#[]⟩
theorem J4(l:Tx):(⟨l.toArray⟩:ByteArray).size=l.length:=by rw[Lib.size_eq]
theorem Oh(s:ByteArray)(h:hpB s JO=true):(JP s).size+1=s.size:=by
 have hle:1≤s.size:=by unfold hpB at h;simp at h;exact h.1
 unfold JP;rw[if_pos h,ByteArray.size_extract];omega
theorem qaF(s:ByteArray):(JP s).size≤s.size:=by
 unfold JP;split
 ·rw[ByteArray.size_extract];omega
 ·exact Nat.le_refl _
theorem YC(s:ByteArray)(m:Int)(w:World)(hs:s.size<4294967281)(hm:Wd m w):
  Calls Tryz.prog 175 #[.string s] w fun e w'=>e=.returned (.string (rg s))∧Below w.heap.size w w':=by
 have h:=VU s (JP s) ⟨(Nc s).1.toArray⟩ ⟨(Nc s).2.1.toArray⟩ (hpB s JO) (Nc s).2.2 (Jb (Nc s).1) m w hm (by omega) (fun w=>QK s JO w)
  (fun w hw=>Tryz.strings_Cut (JP s) JO m w (by have:=qaF s;omega) hw)
  (fun w=>VS ⟨(Nc s).1.toArray⟩ w)
  (fun h1 h2=>by
   have a:=Oh s h1;have b:=Pd (JP s).data.toList [36] h2;rw[←Lib.size_eq]at b;have b:(Nc s).1.length+1≤(JP s).size:=b;rw[J4];omega)
 rw[J4]at h;exact h
theorem QN(s:ByteArray):(rg s).size≤s.size:=by
 unfold rg;split
 ·rw[ByteArray.size_extract];omega
 ·exact Nat.zero_le _
def Iy(s:ByteArray):Tx×Tx×Bool:=Lib.cut (s.extract (rg s).size s.size).data.toList (rg s).data.toList
def qaG(s:ByteArray):Value:=
 if(rg s).toList.isEmpty=true then pcV 0 ⟨#[]⟩ 0 else if(Iy s).2.2=false then pcV 0 ⟨#[]⟩ (-1)else pcV 3 ⟨(Iy s).1.toArray⟩ (((rg s).size:Int)+(⟨(Iy s).1.toArray⟩:ByteArray).size+(rg s).size)
theorem Ss(s:ByteArray)(a:Nat):(s.extract a s.size).size≤s.size:=by rw[ByteArray.size_extract];omega
theorem YD(s:ByteArray)(h:(Iy s).2.2=true):(⟨(Iy s).1.toArray⟩:ByteArray).size≤s.size:=by
 have b:=Pd _ _ h;rw[J4];have c:(s.extract (rg s).size s.size).data.toList.length≤s.size:=by rw[←Lib.size_eq];exact Ss s _
 exact Nat.le_trans (Nat.le_trans (Nat.le_add_right _ _) b) c
theorem VV(s:ByteArray)(m:Int)(hs:s.size<4294967281)(w:World)(hw:Wd m w):Calls Tryz.prog 170 #[.string (s.extract (rg s).size s.size),.string (rg s)] w fun e w'=>e=.returned (.tuple #[.string ⟨(Iy s).1.toArray⟩,.string ⟨(Iy s).2.1.toArray⟩,.bool (Iy s).2.2])∧∃n,w'=w.drewN n:=by
 have hC:Lib.cut (s.extract (rg s).size s.size).data.toList (rg s).data.toList=Iy s:=rfl
 generalize Iy s=C at*
 generalize rg s=M at*
 subst hC;exact Tryz.strings_Cut (s.extract M.size s.size) M m w (Nat.lt_of_le_of_lt (Ss s _) hs) hw
theorem qaH(s M:ByteArray)(C:Tx×Tx×Bool)(hM:rg s=M)(hC:Iy s=C):qaG s=if M.toList.isEmpty=true then pcV 0 ⟨#[]⟩ 0 else if C.2.2=false then pcV 0 ⟨#[]⟩ (-1)else pcV 3 ⟨C.1.toArray⟩ ((M.size:Int)+(⟨C.1.toArray⟩:ByteArray).size+M.size):=by
 subst hM hC
 rfl
theorem qaI(s:ByteArray)(m:Int)(w:World)(hs:s.size<4294967281)(hm:Wd m w):
  Calls Tryz.prog 131 #[.string s] w fun e w'=>e=.returned (qaG s)∧Below w.heap.size w w':=by
 have bC:s.size≤4294967296:=by omega
 have sG:=fun w hw=>YC s m w hs hw
 have hk:=fun w hw=>VV s m hs w hw
 have hl:=YD s;have ja:=QN s;rw[qaH s _ _ rfl rfl];exact YB s (rg s) ⟨(Iy s).1.toArray⟩ ⟨(Iy s).2.1.toArray⟩ (Iy s).2.2 m w hm bC ja hl sG hk
abbrev Pc:Type:=Int×ByteArray×Int
def pc0:Pc:=(0,⟨#[]⟩,0)
def pcW(p:Pc):Value:=pcV p.1 p.2.1 p.2.2
def YE(s:ByteArray):Pc:=(0,⟨#[]⟩,if hpB s Og=true then((J3 s).size:Int)else 0)
def YF(s:ByteArray):Pc:=if hpB s Pa=true then(0,⟨#[]⟩,O9 ((GE 1 (s.data.toList.drop 2)).map (· +2)))else pc0
def Lg(s:ByteArray):Pc:=if aT n8 s.data.toList=0 then pc0 else(1,Hn (s.extract 0 (aT i8 s.data.toList)),(aT i8 s.data.toList:Nat))
def qdu(k:Int)(o:Option (Tx×Nat)):Pc:=match o with
 |some p=>(k,⟨p.1.toArray⟩,(p.2:Int))
 |none=>(0,⟨#[]⟩,-1)
def L3(q:UInt8)(k:Int)(s:ByteArray):Pc:=match s.data.toList with
 | []=>pc0
 |c::r=>if c=q then qdu k ((Gx q r).map (fun p=>(p.1,p.2+1)))else pc0
def Pe(s:ByteArray):Pc:=if(rg s).toList.isEmpty=true then pc0 else if(Iy s).2.2=false then(0,⟨#[]⟩,-1)else(3,⟨(Iy s).1.toArray⟩,((rg s).size:Int)+(⟨(Iy s).1.toArray⟩:ByteArray).size+(rg s).size)
def Pf(s:ByteArray):Pc:=if aT a9 s.data.toList=0 then pc0 else(4,s.extract 0 (aT He s.data.toList),(aT He s.data.toList:Nat))
def Pg(s:ByteArray):Pc:=if hpB s JO=false∨JQ s=0 then pc0 else(5,s.extract 0 (JQ s+1),((JQ s+1:Nat):Int))
def Lh(s:ByteArray):Pc:=match s.data.toList with
 | []=>pc0
 |c::_=>if Hi c<0 then pc0 else(5,s.extract 0 1,1)
def rdP(i:Nat)(s:ByteArray):Pc:=match i with
 |0=>(0,⟨#[]⟩,(aT n6 s.data.toList:Nat))
 |1=>YE s
 |2=>YF s
 |3=>Lg s
 |4=>L3 34 2 s
 |5=>L3 39 3 s
 |6=>Pe s
 |7=>Pf s
 |8=>Pg s
 |_=>Lh s
def rdF(i:Nat):FuncId:=match i with
 |0=>125|1=>126|2=>127|3=>128|4=>129|5=>130|6=>131|7=>132|8=>133|_=>134
theorem qaJ(i:Nat)(hi:i<10)(s:ByteArray)(h:0<s.size)(hs:s.size<4294967281)(m:Int)(w:World)(hm:Wd m w):
  Calls Tryz.prog (rdF i) #[.string s] w fun e w'=>e=.returned (pcW (rdP i s))∧Below w.heap.size w w':=by
 have bC:s.size≤281474976710656:=Nat.le_trans (Nat.le_of_lt hs) (by decide)
 have ki:s.size≤4294967296:=Nat.le_trans (Nat.le_of_lt hs) (by decide)
 match i,hi with
 |0,_=>exact ZU s w
 |1,_=>exact Yv s m w hs hm
 |2,_=>
  show Calls Tryz.prog 127 #[.string s] w fun e w'=>e=.returned (pcW (YF s))∧Below w.heap.size w w'
  unfold YF
  cases hb:hpB s Pa with
  |true=>rw[if_pos rfl];exact Sq s w bC hb _ rfl
  |false=>rw[if_neg (by simp)];exact VR s w hb
 |3,_=>
  show Calls Tryz.prog 128 #[.string s] w fun e w'=>e=.returned (pcW (Lg s))∧Below w.heap.size w w'
  unfold Lg
  by_cases hb:aT n8 s.data.toList=0
  ·rw[if_pos hb];exact qaB s w hb
  ·rw[if_neg hb];exact Yt s w bC hb
 |4,_=>
  have e:pcW (rdP 4 s)=LK 34 2 s:=by
   show pcW (L3 34 2 s)=_;unfold L3 LK
   cases s.data.toList with
   |nil=>rfl
   |cons c r=>
    simp only
    split
    ·cases Gx 34 r<;>rfl
    ·rfl
  rw[e];exact Sr s w ki h
 |5,_=>
  have e:pcW (rdP 5 s)=LK 39 3 s:=by
   show pcW (L3 39 3 s)=_;unfold L3 LK
   cases s.data.toList with
   |nil=>rfl
   |cons c r=>
    simp only
    split
    ·cases Gx 39 r<;>rfl
    ·rfl
  rw[e];exact qaE s w ki h
 |6,_=>
  have e:pcW (rdP 6 s)=qaG s:=by
   show pcW (Pe s)=_;unfold Pe qaG
   split
   ·rfl
   ·split<;>rfl
  rw[e];exact qaI s m w hs hm
 |7,_=>
  show Calls Tryz.prog 132 #[.string s] w fun e w'=>e=.returned (pcW (Pf s))∧Below w.heap.size w w'
  unfold Pf
  by_cases hb:aT a9 s.data.toList=0
  ·rw[if_pos hb];exact qbN s w hb
  ·rw[if_neg hb];exact ZV s w bC hb
 |8,_=>
  have p:=VP s w bC;have e:pcW (rdP 8 s)=if hpB s JO=false∨JQ s=0 then pcV 0 ⟨#[]⟩ 0 else pcV 5 (s.extract 0 (JQ s+1)) ((JQ s+1:Nat):Int):=by
   show pcW (Pg s)=_;unfold Pg
   split<;>rfl
  rw[e];exact p
 |9,_=>
  have p:=Yu s h w;have hd:=List.drop_eq_getElem_cons (show 0<s.data.toList.length by rw[←Lib.size_eq];exact h)
  rw[List.drop_zero]at hd;have rh:s.data.toList[0]'(by rw[←Lib.size_eq];exact h)=s[0]'h:=rfl
  rw[rh]at hd;have e:pcW (rdP 9 s)=if Hi (s[0]'h)<0 then pcV 0 ⟨#[]⟩ 0 else pcV 5 (s.extract 0 1) 1:=by
   show pcW (Lh s)=_;unfold Lh;rw[hd];simp only
   split<;>rfl
  rw[e];exact p
theorem YG(i:Nat)(hi:i<10)(args:Array Value)(w:World):Sem.run Tryz.prog (callFunc (rdF i) args) w=.ok (.enter (rdF i) args) w:=by
 match i,hi with
 |0,_=>show Sem.run Tryz.prog (callFunc 125 args) w=_;go_simp;rfl
 |1,_=>show Sem.run Tryz.prog (callFunc 126 args) w=_;go_simp;rfl
 |2,_=>show Sem.run Tryz.prog (callFunc 127 args) w=_;go_simp;rfl
 |3,_=>show Sem.run Tryz.prog (callFunc 128 args) w=_;go_simp;rfl
 |4,_=>show Sem.run Tryz.prog (callFunc 129 args) w=_;go_simp;rfl
 |5,_=>show Sem.run Tryz.prog (callFunc 130 args) w=_;go_simp;rfl
 |6,_=>show Sem.run Tryz.prog (callFunc 131 args) w=_;go_simp;rfl
 |7,_=>show Sem.run Tryz.prog (callFunc 132 args) w=_;go_simp;rfl
 |8,_=>show Sem.run Tryz.prog (callFunc 133 args) w=_;go_simp;rfl
 |9,_=>show Sem.run Tryz.prog (callFunc 134 args) w=_;go_simp;rfl
def Oi:Array Value:=((List.range 10).map (fun i=>Value.func (.func (rdF i)) #[] #[])).toArray
theorem QO(w:World):Calls Tryz.prog 96 #[] w fun e w'=>e=.returned (.slice (some ⟨w.heap.size,0,none⟩) 10 10)∧w'=w.alloc (.cells Oi 135):=by
 go_enter Tryz.func96,Tryz.ntmps96;go_wp2;go_ret;exact⟨rfl,rfl⟩
def I2(z:Int)(n:Nat):Prop:=z=0∨z= -1∨(1≤z∧z≤(n:Int))
theorem Ie(k n:Nat)(h:k≤n):I2 (k:Int) n:=by unfold I2;omega
theorem LL(p:UInt8→Bool)(s:ByteArray):I2 (aT p s.data.toList:Nat) s.size:=Ie _ _ (by rw[Lib.size_eq];exact Iw p _)
theorem qcb(s sep:Tx):(Lib.cut s sep).1.length≤s.length:=by
 unfold Lib.cut
 split
 ·simp;omega
 ·exact Nat.le_refl _
theorem T4(d:Nat)(l:Tx):∀n,GE d l=some n→n≤l.length:=by
 fun_induction GE d l with
 |case1 l=>intro n h;simp at h;omega
 |case2 d=>intro n h;simp at h
 |case3 d c r hc ih=>
  intro n h;rw[Option.map_eq_some_iff]at h;obtain⟨k,hk,rfl⟩:=h;have:=ih k hk;have h2:=congrArg List.length hc;rw[List.length_drop]at this;simp at h2⊢;omega
 |case4 d c r h1 hc ih=>
  intro n h;rw[Option.map_eq_some_iff]at h;obtain⟨k,hk,rfl⟩:=h;have:=ih k hk;have h2:=congrArg List.length hc;rw[List.length_drop]at this;simp at h2⊢;omega
 |case5 d c r h1 h2 ih=>
  intro n h;rw[Option.map_eq_some_iff]at h;obtain⟨k,hk,rfl⟩:=h;have:=ih k hk;simp;omega
theorem T5(q:UInt8)(l:Tx):∀p,Gx q l=some p→p.2≤l.length:=by
 intro p
 induction hn:l.length using Nat.strongRecOn generalizing l p with
 |_ n ih=>
  intro h
  cases l with
  |nil=>cases h
  |cons c r=>
   rw[un]at h
   split at h
   ·cases r with
    |nil=>simp at h;subst h;simp at hn⊢;omega
    |cons d r2=>
     simp only at h
     split at h
     ·rw[Option.map_eq_some_iff]at h
      obtain⟨k,hk,rfl⟩:=h;have:=ih r2.length (by simp at hn;omega) r2 k rfl hk
      simp at hn⊢;omega
     ·simp at h;subst h;simp at hn⊢;omega
   ·rw[Option.map_eq_some_iff]at h
    obtain⟨k,hk,rfl⟩:=h;have:=ih r.length (by simp at hn;omega) r k rfl hk
    simp at hn⊢;omega
theorem Oj(q:UInt8)(k:Int)(s:ByteArray):I2 (L3 q k s).2.2 s.size:=by
 rw[Lib.size_eq];unfold L3
 cases s.data.toList with
 |nil=>exact .inl rfl
 |cons c r=>
  simp only
  split
  ·cases hb:Gx q r with
   |none=>exact .inr (.inl rfl)
   |some p=>
    have:=T5 q r p hb;refine Ie (p.2+1) _ ?_;rw[List.length_cons];omega
  ·exact .inl rfl
theorem qaK(s M:ByteArray)(C:Tx×Tx×Bool)(hC:Lib.cut (s.extract M.size s.size).data.toList M.data.toList=C)(hb:C.2.2=true):C.1.length+M.size≤s.size-M.size:=by
 have c:(s.extract M.size s.size).data.toList.length=s.size-M.size:=by rw[eQ,List.length_drop,←Lib.size_eq]
 have b:=Pd (s.extract M.size s.size).data.toList M.data.toList (by rw[hC];exact hb)
 rw[c,hC,←Lib.size_eq]at b;exact b
theorem VW(s:ByteArray):I2 (Pe s).2.2 s.size:=by
 unfold Pe
 split
 ·exact .inl rfl
 ·split
  ·exact .inr (.inl rfl)
  ·rename_i h1 h2
   have hb:(Iy s).2.2=true:=by simpa using h2
   have e:=qaK s (rg s) (Iy s) rfl hb;have hm:=QN s;refine Ie ((rg s).size+(⟨(Iy s).1.toArray⟩:ByteArray).size+(rg s).size) _ ?_;rw[J4 (Iy s).1]
   generalize (Iy s).1.length=x at*
   generalize (rg s).size=y at*
   omega
theorem QP(i:Nat)(s:ByteArray)(h:0<s.size):I2 (rdP i s).2.2 s.size:=by
 match i with
 |0=>exact LL _ s
 |1=>
  show I2 (YE s).2.2 s.size;unfold YE;simp only
  split
  ·refine Ie _ _ ?_
   unfold J3;rw[J4,Lib.size_eq];exact qcb _ _
  ·exact .inl rfl
 |2=>
  show I2 (YF s).2.2 s.size;unfold YF
  split
  ·rename_i hb
   have h2:2≤s.size:=by unfold hpB at hb;simp at hb;exact hb.1
   simp only
   cases hr:GE 1 (s.data.toList.drop 2)with
   |none=>exact .inr (.inl rfl)
   |some n=>
    have:=T4 _ _ n hr;rw[List.length_drop,←Lib.size_eq]at this;exact Ie (n+2) _ (by omega)
  ·exact .inl rfl
 |3=>
  show I2 (Lg s).2.2 s.size;unfold Lg
  split
  ·exact .inl rfl
  ·exact LL _ s
 |4=>exact Oj _ _ s
 |5=>exact Oj _ _ s
 |6=>exact VW s
 |7=>
  show I2 (Pf s).2.2 s.size;unfold Pf
  split
  ·exact .inl rfl
  ·exact LL _ s
 |8=>
  show I2 (Pg s).2.2 s.size;unfold Pg
  split
  ·exact .inl rfl
  ·rename_i hb
   have h1:hpB s JO=true:=by
    cases hc:hpB s JO with
    |true=>rfl
    |false=>exact absurd (.inl hc) hb
   have a:=Oh s h1;have b:JQ s≤(JP s).size:=by rw[Lib.size_eq];exact Iw _ _
   refine Ie (JQ s+1) _ ?_
   generalize JQ s=x at*
   generalize (JP s).size=y at*
   omega
 |n+9=>
  show I2 (Lh s).2.2 s.size;unfold Lh
  split
  ·exact .inl rfl
  ·split
   ·exact .inl rfl
   ·exact Ie 1 _ h
abbrev Tok:Type:=Int×ByteArray×Int
def pP(t:Tok):List Value:=[.int .i64 t.1,.string t.2.1,.int .i64 t.2.2]
def sm(l:List Tok):List Value:=l.flatMap pP
def At:Nat→ByteArray→Option Pc
 |0,_=>none
 |k+1,s=>if(rdP (9-k) s).2.2=0 then At k s else some (rdP (9-k) s)
theorem Li(i:Nat)(hi:i<10)(s:ByteArray):At (10-i) s=if(rdP i s).2.2=0 then At (10-(i+1)) s else some (rdP i s):=by
 have e1:10-i=(9-i)+1:=by omega
 have e2:9-(9-i)=i:=by omega
 have e3:10-(i+1)=9-i:=by omega
 rw[e1,At,e2,e3]
def Hw:Nat→ByteArray→Nat→List Tok→List Tok×Int×Int
 |0,_,_,acc=>(acc,0,0)
 |f+1,s,a,acc=>
  if s.size≤a then(acc,0,0)else match At 10 (s.extract a s.size)with
  |none=>([],7,(a:Int))
  |some p=>if p.2.2= -1 then([],6,(a:Int))else Hw f s (a+p.2.2.toNat) (if p.1=0 then acc else acc++[(p.1,p.2.1,(a:Int))])
structure ScI(m:Int)(w:World)(l:List Tok)(v:Value)(wr:World):Prop where
 bel:Below w.heap.size w wr
 wd:Wd m wr
 lt:w.heap.size<wr.heap.size
 rdr:wr.heap[w.heap.size]? =some (.cells Oi 135 (0,0))
 row:wr.ownsRow (w.heap.size+1) 120 3 v l.length (sm l)
 glt:1<w.heap.size
theorem Gq{B:Nat}{e:TypeId}{z n:Nat}{v:Value}{xs:List Value}{w w2:World}(h:w.ownsRow B e z v n xs)(b:Below w.heap.size w w2):w2.ownsRow B e z v n xs:=by
 refine⟨h.1,?_⟩;rcases h.2 with h1|⟨g,cap,cur,h1,h2,h3,h4⟩
 ·exact .inl h1
 ·refine .inr ⟨g,cap,cur,h1,h2,?_,h4⟩
  rw[b.block g (Array.getElem?_eq_some_iff.1 h3).1];exact h3
theorem ScI.start{m:Int}{w:World}(h:Wd m w):ScI m w [] (.slice none 0 0) (w.alloc (.cells Oi 135)):=by
 have b:Below w.heap.size w (w.alloc (.cells Oi 135)):=(Below.refl _ _).alloc (Nat.le_refl _) _;exact⟨b,h.below b,by simp,by show(w.heap.push _)[w.heap.size]? =_;simp,World.ownsRow_nil _ _ _ _,h.lt⟩
theorem ScI.step{m:Int}{w wr w2:World}{l:List Tok}{v:Value}(h:ScI m w l v wr)(b:Below wr.heap.size wr w2):ScI m w l v w2:=
 ⟨h.bel.trans (b.mono (Nat.le_of_lt h.lt)),h.wd.below b,Nat.lt_of_lt_of_le h.lt b.size,by rw[b.block _ h.lt];exact h.rdr,Gq h.row b,h.glt⟩
theorem ScI.more{m:Int}{w wr w2:World}{l:List Tok}{v v2:Value}(h:ScI m w l v wr)(t:Tok)(g:wr.grownBy w2 v.ownBlock)(r:w2.ownsRow (w.heap.size+1) 120 3 v2 (l.length+1) (sm l++pP t)):ScI m w (l++[t]) v2 w2:=by
 have b:Below (w.heap.size+1) wr w2:=(Below.refl _ _).grown g (by have:=h.lt;omega) (fun k hk=>(World.ownsRow.lt h.row k hk).1)
 have hw:1<w.heap.size+1:=Nat.lt_succ_of_lt h.glt;refine⟨h.bel.trans (b.mono (Nat.le_succ _)),?_,Nat.lt_of_lt_of_le h.lt b.size,?_,?_,h.glt⟩
 ·unfold Wd
  rw[b.cell (p:=⟨1,0,none⟩) hw];exact h.wd
 ·rw[b.block _ (Nat.lt_succ_self _)];exact h.rdr
 ·rw[List.length_append,show sm (l++[t])=sm l++pP t by simp[sm]]
  exact r
theorem ScI.reader{m:Int}{w wr:World}{l:List Tok}{v:Value}(h:ScI m w l v wr)(i:Nat)(hi:i<10):wr.cell? ⟨w.heap.size,i,none⟩=some (.func (.func (rdF i)) #[] #[]):=by
 have e:Oi[i]? =some (.func (.func (rdF i)) #[] #[]):=by simp[Oi,hi]
 unfold World.cell?;rw[h.rdr]
 simpa using e
def TR(w:World)(v:Value)(l:List Tok):Prop:=
 (∃A cap,v=.slice A 0 cap∧l=[])∨
 ∃h off cap,v=.slice (some ⟨h,off,none⟩) l.length cap∧l.length≤cap∧∀(i:Nat) (t:Tok),l[i]? =some t→
  w.cell? ⟨h,off+i*3,none⟩=some (.int .i64 t.1)∧w.cell? ⟨h,off+i*3+1,none⟩=some (.string t.2.1)∧w.cell? ⟨h,off+i*3+2,none⟩=some (.int .i64 t.2.2)
theorem Nd(l:List Tok):∀(i:Nat) (t:Tok),l[i]? =some t→(sm l)[i*3]? =some (.int .i64 t.1)∧(sm l)[i*3+1]? =some (.string t.2.1)∧(sm l)[i*3+2]? =some (.int .i64 t.2.2):=by
 induction l with
 |nil=>intro i t h;simp at h
 |cons x r ih=>
  intro i t h
  cases i with
  |zero=>simp at h;subst h;exact⟨rfl,rfl,rfl⟩
  |succ i=>
   have h':r[i]? =some t:=by simpa using h
   obtain⟨a,b,c⟩:=ih i t h';have e:sm (x::r)=Value.int .i64 x.1::Value.string x.2.1::Value.int .i64 x.2.2::sm r:=rfl;rw[e,show(i+1)*3=i*3+1+1+1 by omega]
   exact⟨by simpa using a,by simpa using b,by simpa using c⟩
theorem TR.own{w:World}{B:Nat}{v:Value}{l:List Tok}(h:w.ownsRow B 120 3 v l.length (sm l)):TR w v l:=by
 rcases h.2 with⟨rfl,hz⟩|⟨g,cap,cur,rfl,hb,hh,hc,hm,hs,ht⟩
 ·exact .inl ⟨none,0,rfl,List.eq_nil_of_length_eq_zero hz⟩
 ·refine .inr ⟨g,0,cap,rfl,hc,fun i t hi=>?_⟩
  obtain⟨a,b,c⟩:=Nd l i t hi;have iA:=h.cells (g:=g) rfl;have e1:=iA _ _ a;have e2:=iA _ _ b;have e3:=iA _ _ c;rw[Addr.add_lit,Nat.zero_add]at e1 e2 e3;rw[Nat.zero_add];exact⟨e1,e2,e3⟩
theorem TR.keep{w w':World}{v:Value}{l:List Tok}(h:TR w v l)(hk:∀p:Addr,(w.cell? p).isSome=true→w'.cell? p=w.cell? p):TR w' v l:=by
 rcases h with h|⟨h,off,cap,e,hc,hm⟩
 ·exact .inl h
 ·refine .inr ⟨h,off,cap,e,hc,fun i t hi=>?_⟩
  obtain⟨a,b,c⟩:=hm i t hi;exact⟨(hk _ (by rw[a];rfl)).trans a,(hk _ (by rw[b];rfl)).trans b,(hk _ (by rw[c];rfl)).trans c⟩
theorem TR.below{w w':World}{v:Value}{l:List Tok}(h:TR w v l)(hb:Below w.heap.size w w'):TR w' v l:=
 h.keep fun p hp=>by
  obtain⟨u,hu⟩:=Option.isSome_iff_exists.1 hp;exact hb.cell (World.block_lt_of_cell? w p hu)
theorem TR.form{w:World}{v:Value}{l:List Tok}(h:TR w v l):∃a cap,v=.slice a l.length cap:=by
 rcases h with⟨A,cap,rfl,rfl⟩|⟨_,_,_,rfl,_⟩
 ·exact⟨_,_,rfl⟩
 ·exact⟨_,_,rfl⟩
def Jk(pl:Bool)(a b:List Tok):Prop:=a.length=b.length∧∀(i:Nat) (x y:Tok),a[i]? =some x→b[i]? =some y→x.1=y.1∧x.2.1=y.2.1∧(pl=true→x.2.2=y.2.2)
theorem Jk.refl(pl:Bool)(a:List Tok):Jk pl a a:=⟨rfl,fun i x y h1 h2=>by rw[h1]at h2;cases h2;exact⟨rfl,rfl,fun _=>rfl⟩⟩
def Ks(q:UInt8)(l:Tx):Tx:=l.flatMap fun c=>if c=q then [q,q]else [c]
theorem YH(q:UInt8)(l:Tx):(Ks q l).length≤2*l.length:=by
 induction l with
 |nil=>simp[Ks]
 |cons c r ih=>
  have e:Ks q (c::r)=(if c=q then [q,q]else [c])++Ks q r:=by simp[Ks]
  rw[e,List.length_append,List.length_cons];have:(if c=q then [q,q]else [c]).length≤2:=by split<;>simp
  omega
def L4(q:UInt8)(l:Tx):Tx:=[q]++Ks q l++[q]
def DO(t:Tok):Tx:=if t.1=2 then L4 34 t.2.1.data.toList else if t.1=3 then L4 39 t.2.1.data.toList else t.2.1.data.toList
theorem QQ(q:UInt8)(l:Tx):(L4 q l).length≤2*l.length+2:=by
 have:=YH q l;simp only[L4,List.length_append,List.length_singleton];omega
theorem Ne(t:Tok):(DO t).length≤2*t.2.1.size+2:=by
 have h:t.2.1.data.toList.length=t.2.1.size:=rfl;unfold DO
 split
 ·have:=QQ 34 t.2.1.data.toList;omega
 ·split
  ·have:=QQ 39 t.2.1.data.toList;omega
  ·omega
def Ik(l:List Tok):Tx:=l.flatMap fun t=>32::DO t
def J5:List Tok→Tx
 | []=>[]
 |t::r=>DO t++Ik r
theorem VX(l:List Tok)(z:Nat)(h:∀t∈l,t.2.1.size≤z):(J5 l).length≤l.length*(2*z+3):=by
 have ht:∀r:List Tok,(∀t∈r,t.2.1.size≤z)→(Ik r).length≤r.length*(2*z+3):=by
  intro r
  induction r with
  |nil=>intro _;simp[Ik]
  |cons x r ih=>
   intro hr;have e:Ik (x::r)=32::DO x++Ik r:=by simp[Ik]
   have h1:=Ne x;have h2:=hr x (by simp)
   have h3:=ih fun t h=>hr t (by simp[h])
   rw[e,List.length_append,List.length_cons,List.length_cons,Nat.succ_mul];omega
 cases l with
 |nil=>simp[J5]
 |cons x r=>
  have h1:=Ne x;have h2:=h x (by simp)
  have h3:=ht r fun t h'=>h t (by simp[h'])
  rw[J5,List.length_append,List.length_cons,Nat.succ_mul];omega
theorem qcc:(Tryz.prog.info? 120).map (fun i=>(i.zero,i.size,i.bytes))=some (some (.agg #[.int .i64 0,.string ByteArray.empty,.int .i64 0]),3,32):=by kernel_rfl
theorem Ok:∃i,Tryz.prog.info? 120=some i∧i.zero=some (.agg #[.int .i64 0,.string ByteArray.empty,.int .i64 0])∧i.size=3∧i.bytes=32:=by
 have h:=qcc
 cases e:Tryz.prog.info? 120 with
 |none=>rw[e]at h;cases h
 |some i=>
  rw[e]at h;simp only[Option.map_some,Option.some.injEq,Prod.mk.injEq]at h;exact⟨i,rfl,h.1,h.2.1,h.2.2⟩
theorem qbh:Tryz.prog.underlying 104=some (.slice 120):=by kernel_rfl
theorem VY(w:World)(t:Tok):∀(j:Nat) (u:Value),(pP t)[j]? =some u→(w.alloc (.cells #[.int .i64 t.1,.string t.2.1,.int .i64 t.2.2] 120)).cell? ((⟨w.heap.size,0,none⟩:Addr).add j)=some u:=by
 intro j u hj;rw[Addr.add_lit,Nat.zero_add,World.cell?_alloc_mark]
 match j,hj with
 |0,hj=>simpa[pP]using hj
 |1,hj=>simpa[pP]using hj
 |2,hj=>simpa[pP]using hj
 |n+3,hj=>simp[pP]at hj
theorem Nf(w:World)(o:Obj)(t:Tok):∀(j:Nat) (u:Value),(pP t)[j]? =some u→((w.alloc o).alloc (.cells #[.int .i64 t.1,.string t.2.1,.int .i64 t.2.2] 120)).cell? ((⟨w.heap.size+1,0,none⟩:Addr).add j)=some u:=by
 have e:(w.alloc o).heap.size=w.heap.size+1:=by simp
 rw[←e];exact VY (w.alloc o) t
theorem T6(t:Tok):∀u∈pP t,u.oneCell'=true:=by
 intro u hu;simp only[pP,List.mem_cons,List.not_mem_nil,or_false]at hu;rcases hu with rfl|rfl|rfl<;>rfl
theorem YI(w w2:World)(o p:Obj)(h:w.heap.size<w2.heap.size):w.heap.size+1≤((w2.alloc o).alloc p).heap.size:=by simp;omega
theorem Ol(w2:World)(o p:Obj):Below w2.heap.size w2 ((w2.alloc o).alloc p):=((Below.refl _ _).alloc (Nat.le_refl _) _).alloc (by simp) _
theorem St{w2 w9:World}{row:Option Nat}(kd n:Int)(t:ByteArray)(T:Obj)(g:((w2.alloc (.cells #[.int .i64 kd,.string t,.int .i64 n] 137)).alloc T).grownBy w9 row)(hr:∀k,row=some k→k<w2.heap.size):
  w9.cell? ⟨w2.heap.size,2,none⟩=some (.int .i64 n):=by
 obtain⟨_,_,_,_,h⟩:=g;have e:((w2.alloc (.cells #[.int .i64 kd,.string t,.int .i64 n] 137)).alloc T).cell? ⟨w2.heap.size,2,none⟩=some (.int .i64 n):=by simp[go_sem]
 have hb:=h w2.heap.size (by simp;omega) (by intro hh;have:=hr _ hh.symm;omega)
 rw[World.cell?_of_block (w:=(w2.alloc (.cells #[.int .i64 kd,.string t,.int .i64 n] 137)).alloc T) hb];exact e
def qbi(w:World)(r:List Tok×Int×Int)(e:Ending)(w':World):Prop:=
 ∃v,e=.returned (.tuple #[v,.int .i64 r.2.1,.int .i64 r.2.2])∧w'.ownsRow (w.heap.size+1) 120 3 v r.1.length (sm r.1)∧Below w.heap.size w w'
theorem Su(s:ByteArray)(m:Int)(w:World)(hs:s.size≤2000)(hm:Wd m w)(R:List Tok×Int×Int)(hR:R=Hw (s.size+1) s 0 []):
  Calls Tryz.prog 72 #[.string s] w (qbi w R):=by
 have hl:¬((2000:Int)<(s.size:Int)):=by omega
 obtain⟨i30,bQ,cS,bR,cY⟩:=Ok;have hr:=QO w;have HR:=qid hr;have HS:=qid (ScI.start hm);have HE:=qid hR;clear hr hm hR;go_enter Tryz.func72,Tryz.ntmps72;go_wp2
 go_step3
 go_wp2_with (go_at_call 96;(with_reducible refine HR.out.mono ?_);rintro e w1 ⟨rfl,hw⟩;subst hw)
 go_step3
 go_wp2
 go_loopg [5,7] s.size (fun g u5 u7 wx=>∃(l:List Tok) (a:Nat),u7=.int .i64 (a:Int)∧a≤s.size∧s.size-a≤g∧ScI m w l u5 wx∧R=Hw (g+1) s a l∧l.length≤a)
 case atStart=>exact⟨[],0,rfl,Nat.zero_le _,by omega,HS.out,HE.out,Nat.le_refl _⟩
 case round=>
  obtain⟨l,a,rfl,ha,hg,hI,hv,FH⟩:=hrel;clear HR HS HE;obtain⟨HV,HI⟩:=hZ2 hv hI;clear hv hI
  by_cases aD:a<s.size
  ·obtain⟨g,rfl⟩:∃g,gk=g+1:=⟨gk-1,by omega⟩
   have l0:(a:Int)<(s.size:Int):=by omega
   have l1:(0:Int)≤(a:Int):=by omega
   have l2:(a:Int)≤(s.size:Int):=by omega
   have rZ:0<(s.extract a s.size).size:=by rw[ByteArray.size_extract];omega
   have fw:(s.extract a s.size).size<4294967281:=Nat.lt_of_le_of_lt (Ss s a) (by omega)
   obtain⟨rest,mj⟩:∃r,s.extract a s.size=r:=⟨_,rfl⟩;have CN:rest.size=s.size-a:=by rw[←mj,ByteArray.size_extract];omega
   have CO:R=match At 10 rest with
    |none=>([],7,(a:Int))
    |some p=>if p.2.2= -1 then([],6,(a:Int))else Hw (g+1) s (a+p.2.2.toNat) (if p.1=0 then l else l++[(p.1,p.2.1,(a:Int))]):=by
    rw[HV.out,Hw,if_neg (by omega),mj]
    all_goals(cases At 10 rest<;>rfl)
   rw[mj]at rZ fw;obtain⟨cO,kR,o7,FI⟩:=hZ4 CO rZ fw CN;clear CO HV rZ fw CN;go_wp2
   go_loopg [5,7,21] 10 (fun k x5 x7 FJ wx=>∃i:Nat,i+k=10∧FJ=.int .i64 (i:Int)∧x5=u5∧x7=.int .i64 (a:Int)∧ScI m w l u5 wx∧At k rest=At 10 rest)
   case atStart=>exact⟨0,rfl,rfl,rfl,rfl,HI.out,rfl⟩
   case round=>
    obtain⟨i,fV,rfl,rfl,rfl,CP,hf⟩:=hrel;obtain⟨kT,HF⟩:=hZ2 CP hf;clear CP hf
    cases gk with
    |zero=>
     have hi:i=10:=by omega
     subst hi;have ix:R=([],7,(a:Int)):=by rw[cO.out,←HF.out];rfl
     clear cO;go_wp2
     go_ret3
     exact⟨_,rfl,World.ownsRow_nil _ _ _ _,kT.out.bel⟩
    |succ k=>
     have hi:i<10:=by omega
     have l3:(i:Int)<10:=by omega
     have l4:(0:Int)≤(i:Int):=by omega
     have hc:wr.cell? ⟨w.heap.size,i,none⟩=some (.func (.func (rdF i)) #[] #[]):=kT.out.reader i hi;have e8:=fun w1 h1=>qaJ i hi rest kR.out o7.out m w1 h1
     have bH:=QP i rest kR.out;have qZ:At (k+1) rest=if(rdP i rest).2.2=0 then At k rest else some (rdP i rest):=by
      have:=Li i hi rest
      rwa[show 10-i=k+1 by omega,show 10-(i+1)=k by omega]at this
     have tH:=YG i hi
     generalize rdP i rest=p at*
     generalize rdF i=fi at*
     obtain⟨kd,t,z⟩:=p;have e8:∀w1,Wd m w1→Calls Tryz.prog fi #[.string rest] w1 fun e w'=>e=.returned (.agg #[.int .i64 kd,.string t,.int .i64 z])∧Below w1.heap.size w1 w':=e8
     obtain⟨ke,eA,qM,qC⟩:=hZ4 e8 bH qZ fV;clear e8 bH qZ fV
     by_cases eK:z=0
     ·have z0:(z==(0:Int))=true:=by rw[beq_iff_eq];exact eK
      have iT:At k rest=At 10 rest:=by rw[←HF.out,qM.out];exact(if_pos eK).symm
      have pq:=qid iT;clear iT eK;go_wp2_with ((with_reducible refine(ke.out _ kT.out.wd).mono ?_);rintro e w2 ⟨rfl,aA⟩;have iu:=qid (kT.out.step aA);clear aA);go_roundg k
      case measure=>exact Nat.lt_succ_self _
      case rel=>exact⟨i+1,by have:=qC.out;omega,rfl,rfl,rfl,iu.out.step ((Below.refl _ _).alloc (Nat.le_refl _) _),pq.out⟩
     ·have z0:(z==(0:Int))=false:=by rw[beq_eq_false_iff_ne];exact eK
      have iT:At 10 rest=some (kd,t,z):=by rw[←HF.out,qM.out];exact if_neg eK
      by_cases dD:z= -1
      ·have z1:(z==(-1:Int))=true:=by rw[beq_iff_eq];exact dD
       have ix:R=([],6,(a:Int)):=by rw[cO.out,iT];exact if_pos dD
       clear cO iT eK dD;go_wp2_with ((with_reducible refine(ke.out _ kT.out.wd).mono ?_);rintro e w2 ⟨rfl,aA⟩;have iu:=qid (kT.out.step aA);clear aA)
       try rw[Exit.noGoto_ret]
       go_ret3
       rw[ix];exact⟨_,rfl,World.ownsRow_nil _ _ _ _,iu.out.bel.trans (((Below.refl _ _).alloc (Nat.le_refl _) _).mono iu.out.bel.size)⟩
      ·have z1:(z==(-1:Int))=false:=by rw[beq_eq_false_iff_ne];exact dD
       obtain⟨n,hn⟩:∃n:Nat,z=(n:Int):=⟨z.toNat,by have:=eA.out;unfold I2 at this;simp only at this;omega⟩
       subst hn;have dj:1≤n:=by omega
       have iP:n≤s.size-a:=by have:=eA.out;have:=FI.out;unfold I2 at *;simp only at *;omega
       have ix:R=Hw (g+1) s (a+n) (if kd=0 then l else l++[(kd,t,(a:Int))]):=by
        rw[cO.out,iT];exact if_neg dD
       obtain⟨b,hb⟩:∃b,a+n=b:=⟨_,rfl⟩;have cw:IntKind.i64.wrap ((a:Int)+(n:Int))=(b:Int):=by rw[show(a:Int)+(n:Int)=(b:Int) by omega];exact IntWalk.i64_in _ (by omega)
       rw[hb]at ix;have kg:=qid ix;have tF:=qid (show a<b∧b≤s.size by omega)
       clear ix cO iT eK dD dj iP hb
       by_cases hk:kd=0
       ·have k0:(kd != (0:Int))=false:=by rw[bne,beq_iff_eq.2 hk];rfl
        have HK:=qid hk;clear hk;go_wp2_with ((with_reducible refine(ke.out _ kT.out.wd).mono ?_);rintro e w2 ⟨rfl,aA⟩;have iu:=qid (kT.out.step aA);clear aA);go_roundg g
        case measure=>omega
        case rel=>exact⟨l,b,rfl,tF.out.2,by have:=tF.out;omega,iu.out.step ((Below.refl _ _).alloc (Nat.le_refl _) _),by rw[kg.out,if_pos HK.out],by have:=tF.out;omega⟩
       ·have k0:(kd != (0:Int))=true:=by rw[bne,beq_eq_false_iff_ne.2 hk];rfl
        have HK:=qid hk;clear hk;go_wp2_with (first
         |((with_reducible refine(ke.out _ kT.out.wd).mono ?_);rintro e w2 ⟨rfl,aA⟩;have iu:=qid (kT.out.step aA);clear aA)
         |(at_builtin;go_must (
           refine wpList_append_own_wide _ rfl (.tmp 40) (.tmp 47) 104 rfl (w.heap.size+1) 120 i30 (.agg #[.int .i64 0,.string ByteArray.empty,.int .i64 0]) 3 32 qbh bQ cS bR cY rfl (by decide) u5 l.length (sm l) rfl ((iu.out.row.alloc _).alloc _) ⟨w2.heap.size+1,0,none⟩ 1 1 (pP (kd,t,(a:Int))) rfl rfl ?c1 ?c2 ?c3 ?c4 ?c5 ?_
           case c1=>exact Nf w2 _ (kd,t,(a:Int))
           case c2=>exact T6 _
           case c3=>unfold maxLen;omega
           case c4=>omega
           case c5=>exact YI w w2 _ _ iu.out.lt
           intro v9 w9 aB aM _;have e9:=St kd (n:Int) t _ aM (fun k hk=>(World.ownsRow.lt iu.out.row k hk).2))))
        have wO:=iu.out.step (Ol w2 (.cells #[.int .i64 kd,.string t,.int .i64 (n:Int)] 137) (.cells #[.int .i64 kd,.string t,.int .i64 (a:Int)] 120));have zl:=qid (wO.more (kd,t,(a:Int)) aM aB);clear wO;go_roundg g
        case measure=>omega
        case rel=>exact⟨l++[(kd,t,(a:Int))],b,rfl,tF.out.2,by have:=tF.out;omega,zl.out,by rw[kg.out,if_neg HK.out],by have:=tF.out;rw[List.length_append,List.length_singleton];omega⟩
  ·have gy:¬((a:Int)<(s.size:Int)):=by omega
   have ix:R=(l,0,0):=by rw[HV.out,Hw,if_pos (by omega)]
   clear HV;go_wp2
   try rw[Exit.noGoto_ret]
   go_ret3
   try rw[ix]
   exact⟨_,rfl,HI.out.row,HI.out.bel⟩
theorem QR{w:World}{B z n:Nat}{e:TypeId}{v:Value}{xs:List Value}(h:w.ownsRow B e z v n xs):∀g,v.ownBlock=some g→g<w.heap.size∧∃c fz,w.heap[g]? =some (.cells c e fz):=by
 intro g hg;rcases h.2 with⟨rfl,_⟩|⟨g',cap,cur,rfl,_,s5,_⟩
 ·simp[Value.ownBlock]at hg
 ·simp[Value.ownBlock]at hg
  subst hg;exact⟨(Array.getElem?_eq_some_iff.1 s5).1,cur,_,s5⟩
end Go.Proofs.YtpgddamhdfmdjaaGreatDoor
