/- Nmj Nmk Nml Nmn Nmo -/
import Derived.Test.YtpgddamhdfmdjaaGreatDoorG8
import Derived.Deep.WholeRow
import Derived.Lib.UnsafeStr
import Derived.Test.YtpgddamhdfmdjaaGreatDoorG1
set_option linter.unusedSimpArgs false
set_option linter.unusedVariables false
set_option maxRecDepth 100000
set_option maxHeartbeats 16000000
namespace Go.Proofs.YtpgddamhdfmdjaaGreatDoor
open Go.ChangeShapes Go.WideShapes Go.ChangeAt Go.RowKit
def qbu:Tx:=[48,49,50,51,52,53,54,55,56,57]
def Kz(c:UInt8):Bool:=qbu.contains c==a9 c
theorem Uz:((List.range 256).all fun n=>Kz (UInt8.ofNat n))=true:=by kernel_rfl
theorem S0(c:UInt8):qbu.contains c=a9 c:=by
 have:=IP (f:=Kz) Uz c;unfold Kz at this;exact beq_iff_eq.1 this
theorem Wz(t:ByteArray)(h:0<t.size):t.data.toList.all a9=(a9 (t[0]'h)&&(t.extract 1 t.size).data.toList.all a9):=by
 have e:=f8 t 0 h;rw[List.drop_zero]at e;rw[eQ,e,List.all_cons];rfl
theorem WA(t:ByteArray)(n:Nat)(h:n<t.size)(hn:t.size=n+1):t.data.toList.all a9=((t.extract 0 n).data.toList.all a9&&a9 (t[n]'h)):=by
 have e:t.data.toList=t.data.toList.take n++[t[n]'h]:=by
  have h1:=f8 t n h;have h2:t.data.toList.drop (n+1)=[]:=List.drop_eq_nil_of_le (by have:t.size=t.data.toList.length:=rfl;omega)
  rw[h2]at h1
  conv=>lhs;rw[←List.take_append_drop n t.data.toList]
  rw[h1]
 have h3:(t.extract 0 n).data.toList=t.data.toList.take n:=by
  rw[ByteArray.data_extract,Array.toList_extract,List.extract_eq_take_drop];simp
 rw[h3]
 conv=>lhs;rw[e]
 rw[List.all_append];simp
def qcn(s:ByteArray)(w:World)(e:Ending)(w':World):Prop:=∃t:ByteArray,e=.returned (.string t)∧(t.size=0↔s.data.toList.all a9=true)∧w=w'
def qbv(s:ByteArray)(w:World)(e:Ending)(w':World):Prop:=∃t:ByteArray,e=.returned (.string t)∧t.data.toList.all a9=s.data.toList.all a9∧t.size≤s.size∧w=w'
theorem UA(s:ByteArray)(b:Nat)(w:World)(hs:s.size≤1048576)(bZ:∀x:UInt8,w.cell? ⟨b,x.toNat,none⟩=some (.bool (a9 x))):
  Calls Tryz.prog 210 #[.string s,.pointer (some ⟨b,0,none⟩)] w (qcn s w):=by
 have HS:=qid bZ;clear bZ;go_enter Tryz.func210,Tryz.ntmps210;go_wp2
 go_loop [0] (fun v=>∃t:ByteArray,v=.string t∧t.size≤s.size∧Hid (t.data.toList.all a9=s.data.toList.all a9)) (fun v=>match v with| .string t=>t.size|_=>0)
 case atStart=>exact⟨s,rfl,Nat.le_refl _,qid rfl⟩
 case round=>
  obtain⟨t,rfl,dq,HA⟩:=hrel
  by_cases h0:0<t.size
  ·have hh:=Wz t h0
   have bZ:=HS.out (t[0]'h0)
   cases hd:a9 (t[0]'h0)with
   |true=>
    rw[hd]at bZ hh;rw[Bool.true_and]at hh;have HH:=qid (hh.symm.trans HA.out);clear hh hd;go_wp2_with (go_at_call 235;(with_reducible refine(Tryz.asciiSet_contains b (t[0]'h0) true w bZ).mono ?_);rintro e w' ⟨rfl,hw⟩;obtain rfl:=hw.symm)
    go_round
    case rel=>exact⟨_,rfl,by rw[ByteArray.size_extract];omega,HH⟩
    case measure=>show(t.extract 1 t.size).size<t.size;rw[ByteArray.size_extract];omega
   |false=>
    rw[hd]at bZ hh;rw[Bool.false_and]at hh;have HH:=qid (hh.symm.trans HA.out);clear hh hd;go_wp2_with (go_at_call 235;(with_reducible refine(Tryz.asciiSet_contains b (t[0]'h0) false w bZ).mono ?_);rintro e w' ⟨rfl,hw⟩;obtain rfl:=hw.symm);go_ret;exact⟨t,rfl,⟨fun h=>by omega,fun h=>by rw[←HH.out]at h;cases h⟩,rfl⟩
  ·have hz:t.size=0:=by omega
   have ji:t.data.toList=[]:=List.eq_nil_of_length_eq_zero hz;obtain⟨HN,HZ⟩:=hZ2 ji hz;clear ji hz;go_wp2;go_ret;exact⟨t,rfl,⟨fun _=>by rw[←HA.out,HN.out];rfl,fun _=>HZ.out⟩,rfl⟩
theorem Ri(s:ByteArray)(b:Nat)(w:World)(hs:s.size≤1048576)(bZ:∀x:UInt8,w.cell? ⟨b,x.toNat,none⟩=some (.bool (a9 x))):
  Calls Tryz.prog 211 #[.string s,.pointer (some ⟨b,0,none⟩)] w (qbv s w):=by
 have HS:=qid bZ;clear bZ;go_enter Tryz.func211,Tryz.ntmps211;go_wp2
 go_loop [0] (fun v=>∃t:ByteArray,v=.string t∧t.size≤s.size∧Hid (t.data.toList.all a9=s.data.toList.all a9)) (fun v=>match v with| .string t=>t.size|_=>0)
 case atStart=>exact⟨s,rfl,Nat.le_refl _,qid rfl⟩
 case round=>
  obtain⟨t,rfl,dq,HA⟩:=hrel
  by_cases h0:0<t.size
  ·obtain⟨n,hn⟩:∃n,t.size=n+1:=⟨t.size-1,by omega⟩
   have oY:n<t.size:=by omega
   have hh:=WA t n oY hn;have bZ:=HS.out (t[n]'oY);have cw:IntKind.i64.wrap ((t.size:Int)-1)=(n:Int):=by rw[show(t.size:Int)-1=(n:Int) by omega];exact IntWalk.i64_in _ (by omega)
   have l1:(0:Int)<(t.size:Int):=by omega
   have l2:(n:Int)<(t.size:Int):=by omega
   have l3:(0:Int)≤(n:Int):=by omega
   have l4:(n:Int)≤(t.size:Int):=by omega
   have HN:=qid hn;clear hn
   cases hd:a9 (t[n]'oY)with
   |true=>
    rw[hd]at bZ hh;rw[Bool.and_true]at hh;have HH:=qid (hh.symm.trans HA.out);clear hh hd;go_wp2_with (go_at_call 235;(with_reducible refine(Tryz.asciiSet_contains b (t[n]'oY) true w bZ).mono ?_);rintro e w' ⟨rfl,hw⟩;obtain rfl:=hw.symm)
    go_round
    case rel=>exact⟨_,rfl,by rw[ByteArray.size_extract];have:=HN.out;omega,HH⟩
    case measure=>show(t.extract 0 n).size<t.size;rw[ByteArray.size_extract];have:=HN.out;omega
   |false=>
    rw[hd]at bZ hh;rw[Bool.and_false]at hh;clear hd;go_wp2_with (go_at_call 235;(with_reducible refine(Tryz.asciiSet_contains b (t[n]'oY) false w bZ).mono ?_);rintro e w' ⟨rfl,hw⟩;obtain rfl:=hw.symm);go_ret;exact⟨t,rfl,HA.out,dq,rfl⟩
  ·go_wp2
   go_ret;exact⟨t,rfl,HA.out,dq,rfl⟩
def qco(s:ByteArray)(w:World)(e:Ending)(w':World):Prop:=∃t:ByteArray,e=.returned (.string t)∧(t.size=0↔s.data.toList.all a9=true)∧Below w.heap.size w w'
theorem Zc:∃C:Array Value,Lib.setCells (⟨#[48,49,50,51,52,53,54,55,56,57]⟩:ByteArray).data.toList=C∧C.size=256∧(∀x:UInt8,C[x.toNat]? =some (.bool (a9 x)))∧C.all (·.oneCell')=true:=
 ⟨_,rfl,Lib.setCells_size _,fun x=>by rw[Lib.setCells_at,←S0];rfl,Lib.setCells_one _⟩
theorem NI(s:ByteArray)(h:0<s.size):s.toList.isEmpty=false:=by
 rw[Lib.toList_data]
 cases h2:s.data.toList with
 |nil=>have:s.size=s.data.toList.length:=rfl
       rw[h2,List.length_nil]at this;omega
 |cons _ _=>rfl
theorem Mj(s:ByteArray)(h:s.size=0):s=⟨#[]⟩:=by
 apply ByteArray.ext
 apply Array.eq_empty_of_size_eq_zero
 exact h
theorem WB:∀w:World,(zeroValue 243).run Tryz.prog w=.ok (.agg (Array.replicate 256 (.bool false))) w:=by
 have h:(Tryz.prog.info? 243).map (·.zero)=some (some (.agg (Array.replicate 256 (.bool false)))):=by kernel_rfl
 intro w
 cases hi:Tryz.prog.info? 243 with
 |none=>rw[hi]at h;cases h
 |some i=>
  rw[hi]at h;simp only[Option.map_some,Option.some.injEq]at h;simp[zeroValue,typeInfo,hi,h,Result.andThen]
theorem Py(s:ByteArray)(w:World)(hs:s.size≤1048576)(h0:0<s.size):
  Calls Tryz.prog 183 #[.string s,.string ⟨#[48,49,50,51,52,53,54,55,56,57]⟩] w (qco s w):=by
 have hM:=Tryz.strings_makeASCIISet WB (⟨#[48,49,50,51,52,53,54,55,56,57]⟩:ByteArray) w (by decide) (by
  intro j b hb;have hm:b∈qbu:=List.mem_of_getElem? hb;have:=(S0 b).symm.trans (List.contains_iff_mem.2 hm);exact Nat.lt_of_le_of_lt (SN b this).2 (by decide))
 obtain⟨C,hC,zy,A0,A1⟩:=Zc;rw[hC]at hM;have b7:=NI s h0;have kJ:∀x:UInt8,((w.alloc (.cells C 243)).alloc (.cells C 243)).cell? ⟨w.heap.size+1,x.toNat,none⟩=some (.bool (a9 x)):=fun x=>by
  rw[World.cell?_alloc_at _ _ _ _ (by simp),A0]
 have Cj:(storeCells ⟨w.heap.size+1,0,none⟩ C.toList 0).run Tryz.prog ((w.alloc (.cells C 243)).alloc (.cells Tryz.zeroCells243 243))=.ok () ((w.alloc (.cells C 243)).alloc (.cells C 243)):=by
  have:=run_storeCells_new (P:=Tryz.prog) (w.alloc (.cells C 243)) 243 Tryz.zeroCells243 C (by rw[zy];kernel_rfl) (by rw[zy];kernel_rfl) A1
  simpa using this
 obtain⟨HM,HC⟩:=hZ2 hM kJ;have HR:=qid (fun w1 bZ=>Ri s (w.heap.size+1) w1 hs bZ)
 clear hM kJ A0 A1 hC;go_enter Tryz.func183,Tryz.ntmps183;go_wp2_with (go_at_call 209;(with_reducible refine HM.out.mono ?_);rintro e w1 ⟨rfl,aJ⟩;rw[aJ]);clear Cj HM;have hR:=HR.out _ HC.out;have hl:=fun t dq=>UA t (w.heap.size+1) ((w.alloc (.cells C 243)).alloc (.cells C 243)) dq HC.out
 have HB:=qid (((Below.refl _ w).alloc (Nat.le_refl _) (.cells C 243)).alloc (by simp) (.cells C 243))
 obtain⟨dV,HL⟩:=hZ2 hR hl;clear hR hl HR HC;refine dV.out.mono ?_;rintro e w2 ⟨t,rfl,ht,dq,iO⟩;obtain rfl:=iO;have gy:=HL.out t (by omega)
 have HT:=qid ht;clear ht;go_wp2_with fail;refine gy.mono ?_;rintro e w3 ⟨u,rfl,hu,iv⟩;obtain rfl:=iv;go_wp2;go_ret;exact⟨u,rfl,by rw[hu,HT.out],HB.out⟩
theorem WC(l:Tx):∀acc:Nat,l.all a9=true→Lib.decFrom acc l=some (l.foldl (fun n c=>10*n+(c.toNat-48)) acc):=by
 induction l with
 |nil=>intro acc _;rfl
 |cons c r ih=>
  intro acc h;rw[List.all_cons,Bool.and_eq_true]at h;have hd:=SN c h.1;have e:Lib.digitVal c=some (c.toNat-48):=if_pos hd;rw[List.foldl_cons,←ih _ h.2];show(match Lib.digitVal c with|some d=>Lib.decFrom (acc*10+d) r|none=>none)=_
  rw[e,Nat.mul_comm 10 acc]
theorem WD(l:Tx)(b7:l≠[])(h:l.all a9=true):Lib.atoi l=some (L5 l:Int):=by
 have hd:=WC l 0 h
 cases l with
 |nil=>exact absurd rfl b7
 |cons c r=>
  have hc:a9 c=true:=by rw[List.all_cons,Bool.and_eq_true]at h;exact h.1
  have xe:(c==45)=false:=by rw[beq_eq_false_iff_ne];rintro rfl;exact absurd hc (by decide)
  have Ck:(c==43)=false:=by rw[beq_eq_false_iff_ne];rintro rfl;exact absurd hc (by decide)
  show(if(c==45)=true then _ else if(c==43)=true then _ else(Lib.decNat (c::r)).map fun(m:Nat)=>(m:Int))=_
  rw[xe,Ck,if_neg (by decide),if_neg (by decide)]
  have e:Lib.decNat (c::r)=Lib.decFrom 0 (c::r):=rfl;rw[e,hd];rfl
def qcp(w:World)(e:Ending)(w':World):Prop:=∃t:ByteArray,e=.returned (.string t)∧t.toList.isEmpty=false∧Below w.heap.size w w'
theorem WE(s:ByteArray)(w:World)(hs:s.size≤1048576)(h0:0<s.size)(h:s.data.toList.all a9=true):
  Calls Tryz.prog 183 #[.string s,.string ⟨#[48,49,50,51,52,53,54,55,56,57]⟩] w fun e w'=>e=.returned (.string ⟨#[]⟩)∧Below w.heap.size w w':=
 (Py s w hs h0).mono fun e w' ⟨t,he,ht,hb⟩=>⟨by rw[he,Mj t (ht.2 h)],hb⟩
theorem Zd(s:ByteArray)(w:World)(hs:s.size≤1048576)(h0:0<s.size)(h:s.data.toList.all a9=false):
  Calls Tryz.prog 183 #[.string s,.string ⟨#[48,49,50,51,52,53,54,55,56,57]⟩] w (qcp w):=
 (Py s w hs h0).mono fun e w' ⟨t,he,ht,hb⟩=>⟨t,he,NI t (Nat.pos_of_ne_zero fun h2=>by rw[ht.1 h2]at h;cases h),hb⟩
theorem WF(s:ByteArray)(w:World)(h0:0<s.size)(hs:s.size≤9)(h:s.data.toList.all a9=true):
  Calls Tryz.prog 184 #[.string s] w fun e w'=>e=.returned (.tuple #[.int .i64 (L5 s.data.toList:Int),.nilIface])∧Below w.heap.size w w':=by
 refine(Tryz.strconv_Atoi s _ (by omega) (WD _ (fun ji=>(by
  have e:s.size=s.data.toList.length:=rfl;rw[ji,List.length_nil]at e;omega)) h) w).mono fun e w' ⟨he,t,hw⟩=>⟨he,?_⟩
 rw[hw];exact Lib.below_freeze ((Below.drew (Below.refl _ w)).alloc (Nat.le_refl _) _) (p:=⟨w.heap.size,_,none⟩) (Nat.le_refl _) 1
end Go.Proofs.YtpgddamhdfmdjaaGreatDoor
