/- Tet Teu Dtx -/
import Derived.Test.YtpgddamhdfmdjaaGreatDoorG24
import Derived.Test.YtpgddamhdfmdjaaGreatDoorG25
import Derived.Test.YtpgddamhdfmdjaaGreatDoorG23
import Derived.Test.YtpgddamhdfmdjaaGreatDoorG19
import Derived.Test.YtpgddamhdfmdjaaGreatDoorG14
import Derived.Deep.RegionHeld3
import Derived.Test.YtpgddamhdfmdjaaGreatDoorG1
set_option linter.unusedSimpArgs false
set_option linter.unusedVariables false
set_option maxRecDepth 100000
set_option maxHeartbeats 16000000
namespace Go.Proofs.YtpgddamhdfmdjaaGreatDoor
open Go.ChangeShapes Go.WideShapes Go.ChangeAt Go.RowKit
theorem qbP(s:ByteArray):decide (JK (kwL s)=[s.data.toList])= !kwB s:=by
 rw[Ms]
 by_cases hk:kwB s=true
 ·rw[if_pos hk,hk];rfl
 ·rw[if_neg hk];simp[hk]
theorem Z1{w:World}{g:Nat}{s:ByteArray}(h:w.cell? ⟨g,0,none⟩=some (.string s)):SRT w (.slice (some ⟨g,0,none⟩) 1 1) [s.data.toList]:=by
 refine .inr ⟨g,0,1,rfl,Nat.le_refl _,fun i x hi=>?_⟩
 cases i with
 |zero=>
  simp at hi;subst hi;rw[Nat.add_zero,h]
 |succ i=>simp at hi
theorem Qo(s:ByteArray)(w:World)(hs:s.size≤1000000):
  Calls Tryz.prog 56 #[.string s] w fun e w'=>e=.returned (.bool (IU s))∧Below w.heap.size w w':=by
 have HS:Hid (Calls Tryz.prog 82 #[.string s] w fun e w'=>∃v,e=.returned (.tuple #[v,.int .i64 (io s).2.1,.int .i64 (io s).2.2])∧TR w' v (io s).1∧Below w.heap.size w w'):=qid (V9 s w)
 have jd:Hid (∀W,Calls Tryz.prog 83 #[.slice (some ⟨W.heap.size,0,none⟩) 2 2] (W.alloc (.cells #[.int .i64 1,.string ⟨#[102,114,111,109]⟩,.int .i64 0,.int .i64 1,.string s,.int .i64 0] 120)) fun e w'=>∃v,e=.returned v∧PRT w' v (JK (kwL s))∧Below W.heap.size W w'):=qid (fun W=>by
  have cr:(W.alloc (.cells #[.int .i64 1,.string ⟨#[102,114,111,109]⟩,.int .i64 0,.int .i64 1,.string s,.int .i64 0] 120)).heap[W.heap.size]? =some (.cells (sm (kwL s)).toArray 120 (0,0)):=by
   show(W.heap.push _)[W.heap.size]? =_;rw[Array.getElem?_push_size]
   rfl
  have hb:=(Below.refl W.heap.size W).alloc (Nat.le_refl _) (.cells #[.int .i64 1,.string ⟨#[102,114,111,109]⟩,.int .i64 0,.int .i64 1,.string s,.int .i64 0] 120);refine(RN _ (kwL s) _ (TR.block cr) (by simp[kwL]) (by
   intro t ht;simp only[kwL,List.mem_cons,List.not_mem_nil,or_false]at ht;rcases ht with rfl|rfl
   ·show(⟨#[102,114,111,109]⟩:ByteArray).size≤_;decide
   ·show s.size≤_;omega)).mono ?_
  rintro e w' ⟨v,h1,h2,h3⟩;exact⟨v,h1,h2,hb.trans (h3.mono hb.size)⟩)
 have hlen:(JK (kwL s)).length≤2000000000:=by rw[Ms];split<;>simp
 have qo:=qid (fun v1 v2 W h1 h2=>MU v1 v2 (JK (kwL s)) [s.data.toList] W h1 h2 hlen (by simp))
 simp only[qbP]at qo;have yr:Hid (∀v W,PRT W v (JK (kwL s))→Calls Tryz.prog 18 #[v,.slice (some ⟨W.heap.size,0,none⟩) 1 1] (W.alloc (.cells #[.string s] 9)) fun r w'=>r=.returned (.bool !kwB s)∧Below W.heap.size W w'):=qid (fun v W hP=>by
  have hb:=(Below.refl W.heap.size W).alloc (Nat.le_refl _) (.cells #[.string s] 9);refine(qo.out v _ _ (hP.below hb).sr (Z1 (by rw[World.cell?_alloc_new];rfl))).mono ?_
  rintro r w' ⟨h1,n,rfl⟩;exact⟨h1,hb.trans (el _ _ _)⟩)
 clear qo;have gf:(io s).1≠[]→(io s).2.1=0:=Y5 s;have hq:Kv s=match(io s).1 with| [t]=>t.1==1&&t.2.1.data.toList==s.data.toList|_=>false:=rfl
 have aZ:IU s=(decide (s.size≤30)&&Kv s&& !kwB s&& !IB.contains s.data.toList):=rfl
 generalize JK (kwL s)=rk at*
 generalize kwB s=kw at*
 generalize (io s)=r at*
 obtain⟨l,er,at_⟩:=r;simp only at HS hq gf;rw[hq]at aZ;clear hq hlen hs;obtain⟨N,hN⟩:∃N,IU s=N:=⟨_,rfl⟩;rw[hN]at aZ⊢;clear hN;have z1:(⟨#[105,110,115,101,114,116]⟩:ByteArray).toList=[105,110,115,101,114,116]:=by rw[Lib.toList_data]
 have z2:(⟨#[117,112,100,97,116,101]⟩:ByteArray).toList=[117,112,100,97,116,101]:=by rw[Lib.toList_data]
 have z3:(⟨#[100,101,108,101,116,101]⟩:ByteArray).toList=[100,101,108,101,116,101]:=by rw[Lib.toList_data]
 have z4:(⟨#[109,101,114,103,101]⟩:ByteArray).toList=[109,101,114,103,101]:=by rw[Lib.toList_data]
 by_cases a1:s.data.toList=[105,110,115,101,114,116]
 ·have e1:(s.toList==[105,110,115,101,114,116])=true:=by rw[Lib.toList_data,beq_iff_eq];exact a1
  have jP:N=false:=by rw[aZ,a1,show IB.contains [105,110,115,101,114,116]=true by decide];simp
  subst jP;clear aZ a1 gf;go_enter Tryz.func56,Tryz.ntmps56;go_wp2_with fail;refine HS.out.mono ?_;rintro e w2 ⟨v,rfl,hT,hb⟩;have HB:=qid hb;clear hb;obtain⟨a,cap,rfl⟩:=hT.form;clear hT;go_wp2_with fail;refine(jd.out _).mono ?_;rintro e w3 ⟨v3,rfl,hP,aG⟩;have HP:=qid hP;have aO:=qid (HB.out.trans (aG.mono HB.out.size));clear hP aG;go_wp2;go_ret;exact⟨rfl,aO.out⟩
 have e1:(s.toList==[105,110,115,101,114,116])=false:=by rw[Lib.toList_data,beq_eq_false_iff_ne];exact a1
 by_cases a2:s.data.toList=[117,112,100,97,116,101]
 ·have e2:(s.toList==[117,112,100,97,116,101])=true:=by rw[Lib.toList_data,beq_iff_eq];exact a2
  have jP:N=false:=by rw[aZ,a2,show IB.contains [117,112,100,97,116,101]=true by decide];simp
  subst jP;clear aZ a2 gf;go_enter Tryz.func56,Tryz.ntmps56;go_wp2_with fail;refine HS.out.mono ?_;rintro e w2 ⟨v,rfl,hT,hb⟩;have HB:=qid hb;clear hb;obtain⟨a,cap,rfl⟩:=hT.form;clear hT;go_wp2_with fail;refine(jd.out _).mono ?_;rintro e w3 ⟨v3,rfl,hP,aG⟩;have HP:=qid hP;have aO:=qid (HB.out.trans (aG.mono HB.out.size));clear hP aG;go_wp2;go_ret;exact⟨rfl,aO.out⟩
 have e2:(s.toList==[117,112,100,97,116,101])=false:=by rw[Lib.toList_data,beq_eq_false_iff_ne];exact a2
 by_cases a3:s.data.toList=[100,101,108,101,116,101]
 ·have e3:(s.toList==[100,101,108,101,116,101])=true:=by rw[Lib.toList_data,beq_iff_eq];exact a3
  have jP:N=false:=by rw[aZ,a3,show IB.contains [100,101,108,101,116,101]=true by decide];simp
  subst jP;clear aZ a3 gf;go_enter Tryz.func56,Tryz.ntmps56;go_wp2_with fail;refine HS.out.mono ?_;rintro e w2 ⟨v,rfl,hT,hb⟩;have HB:=qid hb;clear hb;obtain⟨a,cap,rfl⟩:=hT.form;clear hT;go_wp2_with fail;refine(jd.out _).mono ?_;rintro e w3 ⟨v3,rfl,hP,aG⟩;have HP:=qid hP;have aO:=qid (HB.out.trans (aG.mono HB.out.size));clear hP aG;go_wp2;go_ret;exact⟨rfl,aO.out⟩
 have e3:(s.toList==[100,101,108,101,116,101])=false:=by rw[Lib.toList_data,beq_eq_false_iff_ne];exact a3
 by_cases a4:s.data.toList=[109,101,114,103,101]
 ·have e4:(s.toList==[109,101,114,103,101])=true:=by rw[Lib.toList_data,beq_iff_eq];exact a4
  have jP:N=false:=by rw[aZ,a4,show IB.contains [109,101,114,103,101]=true by decide];simp
  subst jP;clear aZ a4 gf;go_enter Tryz.func56,Tryz.ntmps56;go_wp2_with fail;refine HS.out.mono ?_;rintro e w2 ⟨v,rfl,hT,hb⟩;have HB:=qid hb;clear hb;obtain⟨a,cap,rfl⟩:=hT.form;clear hT;go_wp2_with fail;refine(jd.out _).mono ?_;rintro e w3 ⟨v3,rfl,hP,aG⟩;have HP:=qid hP;have aO:=qid (HB.out.trans (aG.mono HB.out.size));clear hP aG;go_wp2;go_ret;exact⟨rfl,aO.out⟩
 have e4:(s.toList==[109,101,114,103,101])=false:=by rw[Lib.toList_data,beq_eq_false_iff_ne];exact a4
 have tR:IB.contains s.data.toList=false:=by
  cases hc:IB.contains s.data.toList with
  |false=>rfl
  |true=>
   have:=List.contains_iff_mem.1 hc;simp only[IB,List.mem_cons,List.not_mem_nil,or_false]at this;rcases this with h|h|h|h
   ·exact absurd h a1
   ·exact absurd h a2
   ·exact absurd h a3
   ·exact absurd h a4
 rw[tR]at aZ;simp only[Bool.not_false,Bool.and_true]at aZ;clear tR a1 a2 a3 a4
 by_cases eX:s.size≤30
 ·have pj:(s.size:Int)≤30:=by omega
  rw[decide_eq_true eX,Bool.true_and]at aZ;rcases l with _|⟨t,_|⟨u,l2⟩⟩
  ·skip
   have jP:N=false:=by rw[aZ];rfl
   subst jP;clear aZ gf eX
   by_cases he:er=0
   ·subst he
    go_enter Tryz.func56,Tryz.ntmps56;go_wp2_with fail;refine HS.out.mono ?_;rintro e w2 ⟨v,rfl,hT,hb⟩;have HB:=qid hb;clear hb;obtain⟨a,cap,rfl⟩:=hT.form;clear hT;go_wp2_with fail;refine(jd.out _).mono ?_;rintro e w3 ⟨v3,rfl,hP,aG⟩;have HP:=qid hP;have aO:=qid (HB.out.trans (aG.mono HB.out.size));clear hP aG;go_wp2;go_ret;exact⟨rfl,aO.out⟩
   ·have e1:decide (er=0)=false:=decide_eq_false he
    have e2:(er==0)=false:=by rw[beq_eq_false_iff_ne];exact he
    go_enter Tryz.func56,Tryz.ntmps56;go_wp2_with fail;refine HS.out.mono ?_;rintro e w2 ⟨v,rfl,hT,hb⟩;have HB:=qid hb;clear hb;obtain⟨a,cap,rfl⟩:=hT.form;clear hT;go_wp2_with fail;refine(jd.out _).mono ?_;rintro e w3 ⟨v3,rfl,hP,aG⟩;have HP:=qid hP;have aO:=qid (HB.out.trans (aG.mono HB.out.size));clear hP aG;go_wp2;go_ret;exact⟨rfl,aO.out⟩
  ·skip
   obtain⟨k,u,p⟩:=t;have yt:er=0:=gf (by simp)
   subst yt
   by_cases hk:k=1
   ·subst hk
    by_cases hu:u.data.toList=s.data.toList
    ·have E3:u=s:=by apply ByteArray.ext;exact Array.ext' hu
     subst E3;have hQ:(!kw)=N:=by rw[aZ];simp
     subst hQ;clear gf aZ eX hu;go_enter Tryz.func56,Tryz.ntmps56;go_wp2_with fail;refine HS.out.mono ?_;rintro e w2 ⟨v,rfl,hT,hb⟩;have HB:=qid hb;clear hb;obtain⟨g,off,cap,rfl,bn,hx⟩:=hT.inv 1 rfl (by omega);have j5:=hx 0 _ rfl;rw[Nat.zero_mul,Nat.add_zero]at j5;obtain⟨x0,x1,x2⟩:=j5;have cL:(0:Int)<(cap:Int):=(by omega);clear hT hx
     go_wp2_with fail;refine(jd.out _).mono ?_;rintro e w3 ⟨v3,rfl,hP,aG⟩;have HP:=qid hP;have aO:=qid (HB.out.trans (aG.mono HB.out.size));have cx:g<w2.heap.size:=World.block_lt_of_cell? _ _ x0;have y0:w3.cell? ⟨g,off,none⟩=some (.int .i64 1):=(aG.cell (p:=⟨g,off,none⟩) cx).trans x0;have y1:w3.cell? ⟨g,off+1,none⟩=some (.string u):=(aG.cell (p:=⟨g,off+1,none⟩) cx).trans x1;clear hP aG;go_wp2_with fail;refine(yr.out _ _ HP.out).mono ?_;rintro e w4 ⟨rfl,ai⟩;have cH:=qid (aO.out.trans (ai.mono aO.out.size));clear ai;go_wp2;go_ret;exact⟨rfl,cH.out⟩
    ·have jP:N=false:=by
      have xL:(u.data.toList==s.data.toList)=false:=by rw[beq_eq_false_iff_ne];exact hu
      rw[aZ];show(((1:Int)==1&&u.data.toList==s.data.toList)&& !kw)=false;rw[xL,Bool.and_false,Bool.false_and]
     subst jP;have ue:(u.toList==s.toList)=false:=by rw[Lib.toList_data,Lib.toList_data,beq_eq_false_iff_ne];exact hu
     have E4:¬(u=s):=fun h=>hu (by rw[h])
     have Fy:decide (u=s)=false:=decide_eq_false E4;clear gf aZ eX hu;go_enter Tryz.func56,Tryz.ntmps56;go_wp2_with fail;refine HS.out.mono ?_;rintro e w2 ⟨v,rfl,hT,hb⟩;have HB:=qid hb;clear hb;obtain⟨g,off,cap,rfl,bn,hx⟩:=hT.inv 1 rfl (by omega);have j5:=hx 0 _ rfl;rw[Nat.zero_mul,Nat.add_zero]at j5;obtain⟨x0,x1,x2⟩:=j5;have cL:(0:Int)<(cap:Int):=(by omega);clear hT hx
     go_wp2_with fail;refine(jd.out _).mono ?_;rintro e w3 ⟨v3,rfl,hP,aG⟩;have HP:=qid hP;have aO:=qid (HB.out.trans (aG.mono HB.out.size));have cx:g<w2.heap.size:=World.block_lt_of_cell? _ _ x0;have y0:w3.cell? ⟨g,off,none⟩=some (.int .i64 1):=(aG.cell (p:=⟨g,off,none⟩) cx).trans x0;have y1:w3.cell? ⟨g,off+1,none⟩=some (.string u):=(aG.cell (p:=⟨g,off+1,none⟩) cx).trans x1;clear hP aG;go_wp2;go_ret;exact⟨rfl,aO.out⟩
   ·have jP:N=false:=by
     have mQ:(k==1)=false:=by rw[beq_eq_false_iff_ne];exact hk
     rw[aZ];show((k==1&&u.data.toList==s.data.toList)&& !kw)=false;rw[mQ,Bool.false_and,Bool.false_and]
    subst jP;have k1:(k==1)=false:=by rw[beq_eq_false_iff_ne];exact hk
    have k2:decide (k=1)=false:=decide_eq_false hk;clear gf aZ eX;go_enter Tryz.func56,Tryz.ntmps56;go_wp2_with fail;refine HS.out.mono ?_;rintro e w2 ⟨v,rfl,hT,hb⟩;have HB:=qid hb;clear hb;obtain⟨g,off,cap,rfl,bn,hx⟩:=hT.inv 1 rfl (by omega);have j5:=hx 0 _ rfl;rw[Nat.zero_mul,Nat.add_zero]at j5;obtain⟨x0,x1,x2⟩:=j5;have cL:(0:Int)<(cap:Int):=(by omega);clear hT hx
    go_wp2_with fail;refine(jd.out _).mono ?_;rintro e w3 ⟨v3,rfl,hP,aG⟩;have HP:=qid hP;have aO:=qid (HB.out.trans (aG.mono HB.out.size));have cx:g<w2.heap.size:=World.block_lt_of_cell? _ _ x0;have y0:w3.cell? ⟨g,off,none⟩=some (.int .i64 k):=(aG.cell (p:=⟨g,off,none⟩) cx).trans x0;have y1:w3.cell? ⟨g,off+1,none⟩=some (.string u):=(aG.cell (p:=⟨g,off+1,none⟩) cx).trans x1;clear hP aG;go_wp2;go_ret;exact⟨rfl,aO.out⟩
  ·skip
   have jP:N=false:=by rw[aZ];rfl
   subst jP;have yt:er=0:=gf (by simp)
   subst yt;have hn:((t::u::l2).length:Int)≠1:=by simp;omega
   clear aZ gf eX;go_enter Tryz.func56,Tryz.ntmps56;go_wp2_with fail;refine HS.out.mono ?_;rintro e w2 ⟨v,rfl,hT,hb⟩;have HB:=qid hb;clear hb;obtain⟨a,cap,rfl⟩:=hT.form;clear hT;obtain⟨z,hz⟩:∃z,(t::u::l2).length=z:=⟨_,rfl⟩;rw[hz];rw[hz]at hn;have iP:decide ((z:Int)=1)=false:=(by rw[decide_eq_false_iff_not];exact hn);have A7:((z:Int)==1)=false:=(by rw[beq_eq_false_iff_ne];exact hn);clear hz
   go_wp2_with fail;refine(jd.out _).mono ?_;rintro e w3 ⟨v3,rfl,hP,aG⟩;have HP:=qid hP;have aO:=qid (HB.out.trans (aG.mono HB.out.size));clear hP aG;go_wp2
   all_goals
    go_ret;exact⟨rfl,aO.out⟩
 ·have pj:¬((s.size:Int)≤30):=by omega
  have jP:N=false:=by rw[aZ,decide_eq_false eX,Bool.false_and,Bool.false_and]
  subst jP;clear aZ gf eX;go_enter Tryz.func56,Tryz.ntmps56;go_wp2_with fail;refine HS.out.mono ?_;rintro e w2 ⟨v,rfl,hT,hb⟩;have HB:=qid hb;clear hb;obtain⟨a,cap,rfl⟩:=hT.form;clear hT;go_wp2_with fail;refine(jd.out _).mono ?_;rintro e w3 ⟨v3,rfl,hP,aG⟩;have HP:=qid hP;have aO:=qid (HB.out.trans (aG.mono HB.out.size));clear hP aG;go_wp2
  all_goals
   go_ret;exact⟨rfl,aO.out⟩
theorem Ld(W:World)(h:Nat)(v:Int)(c:UInt8)(hv:v=(c.toNat:Int))(hc:W.cell? ⟨h,0,none⟩=some (.int .u8 v)):(convert 121 9 (.slice (some ⟨h,0,none⟩) 1 1)).run Tryz.prog W=.ok (.string (bb [c])) W:=by
 subst hv;refine run_convert_bytes_back (P:=Tryz.prog) W 121 9 5 ⟨h,0,none⟩ 1 [c] Tryz.underlying121 Tryz.underlying5 Tryz.underlying9 ?_;intro j hj
 cases j with
 |zero=>rw[Addr.add_lit];exact hc
 |succ j=>simp at hj
theorem TI(d:Nat)(h:d<10):(48:Int)+(d:Int)=((UInt8.ofNat (48+d)).toNat:Int):=by
 rw[UInt8.toNat_ofNat'];omega
theorem Qp(k:Nat)(hk:k<4611686018427387904)(w:World):Calls Tryz.prog 57 #[.int .i64 (k:Int)] w fun e w'=>e=.returned (.string (bb (Lib.decDigits k)))∧Below w.heap.size w w':=by
 induction hn:k using Nat.strongRecOn generalizing k w with
 |ind n ih=>
  subst hn;have l0:¬((k:Int)<0):=by omega
  by_cases oW:k<10
  ·have l10:(k:Int)<10:=by omega
   have hd:Lib.decDigits k=[UInt8.ofNat (48+k)]:=Lib.decDigits_one oW;rw[hd];have kc:=fun(W:World)=>Ld (W.alloc (.cells #[.int .u8 (48+(k:Int))] 5)) W.heap.size (48+(k:Int)) (UInt8.ofNat (48+k)) (TI k oW) (by rw[World.cell?_alloc_new];rfl)
   have HB:=qid ((Below.refl w.heap.size w).alloc (Nat.le_refl _) (.cells #[.int .u8 (48+(k:Int))] 5));clear ih hd;go_enter Tryz.func57,Tryz.ntmps57;go_wp2;go_ret;exact⟨rfl,HB.out⟩
  ·have l10:¬((k:Int)<10):=by omega
   have hd:Lib.decDigits k=Lib.decDigits (k / 10)++[UInt8.ofNat (48+k % 10)]:=by rw[Lib.decDigits,dif_neg oW]
   rw[hd];have HI:Hid (∀W,Calls Tryz.prog 57 #[.int .i64 ((k / 10:Nat):Int)] W fun e w'=>e=.returned (.string (bb (Lib.decDigits (k / 10))))∧Below W.heap.size W w'):=qid (fun W=>ih (k / 10) (by omega) (k / 10) (by omega) W rfl)
   have jx:=SW (k / 10) 19 (by decide) (by omega)
   clear ih hd;obtain⟨D,hD⟩:∃D,Lib.decDigits (k / 10)=D:=⟨_,rfl⟩;rw[hD]at HI jx⊢;clear hD;have E5:¬(9223372036854775807<D.length+1):=by omega
   have sf:(k:Int).tdiv 10=((k / 10:Nat):Int):=by rw[Int.tdiv_eq_ediv_of_nonneg (by omega)];omega
   have pO:(k:Int).tmod 10=((k % 10:Nat):Int):=by rw[Int.tmod_eq_emod_of_nonneg (by omega)];omega
   have hq:k % 10<10:=by omega
   have gG:k / 10<4611686018427387904:=by omega
   obtain⟨r,hr⟩:∃r,k % 10=r:=⟨_,rfl⟩;rw[hr]at pO hq⊢;clear hr;obtain⟨q,jH⟩:∃q,k / 10=q:=⟨_,rfl⟩;rw[jH]at sf gG HI;clear jH;have r1:(0:Int)≤(r:Int):=by omega
   have r2:(r:Int)<10:=by omega
   have wq:IntKind.i64.wrap (q:Int)=(q:Int):=IntWalk.i64_in _ (by omega)
   have wr:IntKind.i64.wrap (48+(r:Int))=48+(r:Int):=IntWalk.i64_in _ (by omega)
   have xM:IntKind.u8.wrap (48+(r:Int))=48+(r:Int):=by simp[IntKind.wrap,IntKind.bits,IntKind.signed];omega
   have nc:=qid (show bb (D++[UInt8.ofNat (48+r)])=bb D++bb [UInt8.ofNat (48+r)]from by simp only[bb];rfl)
   have HV:=qid (TI r hq);clear hq;obtain⟨c,hc⟩:∃c,UInt8.ofNat (48+r)=c:=⟨_,rfl⟩;have HC:=qid hc;rw[hc]at nc⊢;clear hc;go_enter Tryz.func57,Tryz.ntmps57;go_wp2;refine wp_region_held_drew (S:=(fun w'=>Below w.heap.size w w')) (by kernel_rfl) ?_ (fun hS=>?_)
   ·exact(Below.refl _ _).drew
   try dsimp only at hS
   refine tkY 0 ?_ rfl hS ?_ ?_;rotate_left
   ·intro wz a8;go_simp;(try simp only[sf,pO,wq,wr,xM]);all_goals with_reducible rfl
   (try simp only[Act.put,pu]);refine tkY 1 ?_ rfl hS ?_ ?_;rotate_left
   ·intro wz a8;go_simp;(try simp only[sf,pO,wq,wr,xM]);all_goals with_reducible rfl
   (try simp only[Act.put,pu]);refine tkY 3 ?_ rfl hS ?_ ?_;rotate_left
   ·intro wz a8;go_simp;(try simp only[sf,pO,wq,wr,xM]);all_goals with_reducible rfl
   iterate 3 ((try simp only[Act.put,pu]);refine tkM ?_ rfl hS ?_ ?_;rotate_left;(·intro wz a8;go_simp;(try simp only[sf,pO,wq,wr,xM]);all_goals with_reducible rfl))
   try simp only[Act.put,pu]
   clear sf pO;refine wpAnyH_ready (rs:=[2,7]) (by kernel_rfl) (by simp) (AllReadyH.cons rfl (fun K hK=>?_) (AllReadyH.cons rfl (fun K hK=>?_) AllReadyH.nil))
   ·go_simp
    refine(HI.out _).mono ?_;rintro e w5 ⟨rfl,bh⟩;refine hK.out _ _ ?_ (fun aF=>?_)
    ·exact hS.trans (bh.mono hS.size)
    clear hK K hS;have hS:=aF;clear aF
    try dsimp only at hS
    try simp only[Act.put,pu]
    clear bh;have kc:=Ld (w5.alloc (.cells #[.int .u8 (48+(r:Int))] 5)) w5.heap.size (48+(r:Int)) (UInt8.ofNat (48+r)) HV.out (by rw[World.cell?_alloc_new];rfl)
    rw[HC.out]at kc;refine wpAnyH_ready (rs:=[7]) (by kernel_rfl) (by simp) (AllReadyH.cons rfl (fun K hK=>?_) AllReadyH.nil)
    go_simp;refine hK.out _ _ ?_ (fun aF=>?_)
    ·exact hS.alloc hS.size _
    clear hK K hS;have hS:=aF;clear aF
    try dsimp only at hS
    try simp only[Act.put,pu]
    refine wpAnyH_ready (rs:=[8]) (by kernel_rfl) (by simp) (AllReadyH.cons rfl (fun K hK=>?_) AllReadyH.nil)
    go_simp;refine hK.out _ _ ?_ (fun aF=>?_)
    ·exact hS
    clear hK K hS;have hS:=aF;clear aF
    try dsimp only at hS
    (try simp only[Act.put,pu]);refine tkY 9 ?_ rfl hS ?_ ?_;rotate_left
    ·intro wz a8;go_simp;all_goals with_reducible rfl
    (try simp only[Act.put,pu]);refine tkY 10 ?_ rfl hS ?_ ?_;rotate_left
    ·intro wz a8;go_simp;all_goals with_reducible rfl
    try simp only[Act.put,pu]
    refine wpAnyH_done (by kernel_rfl) ?_ _
    go_wp2;go_ret;exact⟨by rw[nc.out];rfl,hS⟩
   ·go_simp
    refine hK.out _ _ ?_ (fun aF=>?_)
    ·exact by first|exact hS.alloc hS.size _|exact((Below.refl w.heap.size w).alloc (Nat.le_refl _) _).drew
    clear hK K hS;have hS:=aF;clear aF
    try dsimp only at hS
    try simp only[Act.put,pu]
    obtain⟨W1,cF⟩:∃W1,(w.alloc (.cells #[.int .u8 (48+(r:Int))] 5)).drew=W1:=⟨_,rfl⟩;have c1:W1.cell? ⟨w.heap.size,0,none⟩=some (.int .u8 (48+(r:Int))):=by rw[←cF];show(w.alloc (.cells #[.int .u8 (48+(r:Int))] 5)).cell? _=_;rw[World.cell?_alloc_new];rfl
    have z1:w.heap.size<W1.heap.size:=by rw[←cF];show _<(w.heap.push _).size;simp
    rw[cF]at hS⊢;clear cF;refine wpAnyH_ready (rs:=[2,8]) (by kernel_rfl) (by simp) (AllReadyH.cons rfl (fun K hK=>?_) (AllReadyH.cons rfl (fun K hK=>?_) AllReadyH.nil))
    ·go_simp
     refine(HI.out _).mono ?_;rintro e w5 ⟨rfl,bh⟩;have c5:w5.cell? ⟨w.heap.size,0,none⟩=some (.int .u8 (48+(r:Int))):=(bh.cell (p:=⟨w.heap.size,0,none⟩) z1).trans c1;refine hK.out _ _ ?_ (fun aF=>?_)
     ·exact hS.trans (bh.mono hS.size)
     clear hK K hS;have hS:=aF;clear aF
     try dsimp only at hS
     try simp only[Act.put,pu]
     clear bh c1 z1;have kc:=Ld w5 w.heap.size (48+(r:Int)) (UInt8.ofNat (48+r)) HV.out (c5);rw[HC.out]at kc;refine wpAnyH_ready (rs:=[8]) (by kernel_rfl) (by simp) (AllReadyH.cons rfl (fun K hK=>?_) AllReadyH.nil)
     go_simp;refine hK.out _ _ ?_ (fun aF=>?_)
     ·exact hS
     clear hK K hS;have hS:=aF;clear aF
     try dsimp only at hS
     (try simp only[Act.put,pu]);refine tkY 9 ?_ rfl hS ?_ ?_;rotate_left
     ·intro wz a8;go_simp;all_goals with_reducible rfl
     (try simp only[Act.put,pu]);refine tkY 10 ?_ rfl hS ?_ ?_;rotate_left
     ·intro wz a8;go_simp;all_goals with_reducible rfl
     try simp only[Act.put,pu]
     refine wpAnyH_done (by kernel_rfl) ?_ _
     go_wp2;go_ret;exact⟨by rw[nc.out];rfl,hS⟩
    ·have kc:=Ld W1 w.heap.size (48+(r:Int)) (UInt8.ofNat (48+r)) HV.out (c1)
     rw[HC.out]at kc;clear c1 z1;go_simp;refine hK.out _ _ ?_ (fun aF=>?_)
     ·exact hS
     clear hK K hS;have hS:=aF;clear aF
     try dsimp only at hS
     try simp only[Act.put,pu]
     refine wpAnyH_ready (rs:=[2]) (by kernel_rfl) (by simp) (AllReadyH.cons rfl (fun K hK=>?_) AllReadyH.nil)
     go_simp;refine(HI.out _).mono ?_;rintro e w5 ⟨rfl,bh⟩;refine hK.out _ _ ?_ (fun aF=>?_)
     ·exact hS.trans (bh.mono hS.size)
     clear hK K hS;have hS:=aF;clear aF
     try dsimp only at hS
     try simp only[Act.put,pu]
     clear bh;refine tkY 9 ?_ rfl hS ?_ ?_;rotate_left
     ·intro wz a8;go_simp;all_goals with_reducible rfl
     (try simp only[Act.put,pu]);refine tkY 10 ?_ rfl hS ?_ ?_;rotate_left
     ·intro wz a8;go_simp;all_goals with_reducible rfl
     try simp only[Act.put,pu]
     refine wpAnyH_done (by kernel_rfl) ?_ _
     go_wp2;go_ret;exact⟨by rw[nc.out];rfl,hS⟩
theorem Qq(n:Int)(h0:0≤n)(h1:n<4611686018427387904)(w:World):Calls Tryz.prog 57 #[.int .i64 n] w fun e w'=>e=.returned (.string (bb (Lib.itoa n)))∧Below w.heap.size w w':=by
 obtain⟨k,rfl⟩:=Int.eq_ofNat_of_zero_le h0;rw[Lib.itoa_nonneg];exact Qp k (by omega) w
theorem XK(s:ByteArray)(b:Bool)(hb:IU s=b)(hs:s.size≤1000000)(w:World):
  Calls Tryz.prog 56 #[.string s] w fun e w'=>e=.returned (.bool b)∧Below w.heap.size w w':=by
 subst hb;exact Qo s w hs
theorem Hq(n:Int)(b:Bool)(hb:inN n=b)(w:World):Calls Tryz.prog 50 #[.int .i64 n] w fun e w'=>e=.returned (.bool b)∧Below w.heap.size w w':=by
 subst hb;refine(Xd n w).mono ?_;rintro e w' ⟨he,rfl⟩;exact⟨he,Below.refl _ _⟩
theorem N5(n:Int)(hb:inN n=true)(w:World):Calls Tryz.prog 57 #[.int .i64 n] w fun e w'=>e=.returned (.string (bb (Lib.itoa n)))∧Below w.heap.size w w':=by
 have:=of_decide_eq_true hb;exact Qq n this.1 (by omega) w
theorem MW(a b:Tx):bb (a++b)=bb a++bb b:=by
 apply ByteArray.ext
 simp[bb]
theorem KH(n:ByteArray):bb n.data.toList=n:=by
 apply ByteArray.ext
 simp[bb]
theorem XL(a:ByteArray):a++(⟨#[]⟩:ByteArray)=a:=by
 apply ByteArray.ext
 simp
theorem JN(T:Tx)(X:ByteArray)(h:bb T=X):Ending.returned (.string X)=.returned (.string (bb T)):=by rw[h]
theorem LU(kd:Int)(n:ByteArray)(K V:Int)(kb:Bool)(w:World)(hs:n.size≤1000000):
  Calls Tryz.prog 38 #[.agg #[.int .i64 kd,.string n,.int .i64 K,.int .i64 V,.bool kb]] w fun e w'=>e=.returned (.string (bb (nl (kd,n,K,V,kb))))∧Below w.heap.size w w':=by
 obtain⟨T,hT⟩:∃T,nl (kd,n,K,V,kb)=T:=⟨_,rfl⟩;obtain⟨b1,h1⟩:∃b,IU n=b:=⟨_,rfl⟩;obtain⟨b2,h2⟩:∃b,inN K=b:=⟨_,rfl⟩;obtain⟨b3,h3⟩:∃b,inN V=b:=⟨_,rfl⟩;rw[hT];obtain⟨HT,H1,H2,H3,eA⟩:=hZ5 hT h1 h2 h3 hs;clear hT h1 h2 h3 hs;go_enter Tryz.func38,Tryz.ntmps38;go_wp2_with fail;obtain⟨W0,aH⟩:∃W0,w.alloc (.cells #[.int .i64 kd,.string n,.int .i64 K,.int .i64 V,.bool kb] 34)=W0:=⟨_,rfl⟩;have bD:Below w.heap.size w W0:=by rw[←aH];exact(Below.refl _ _).alloc (Nat.le_refl _) _
 have HB:=qid bD;have cD:Blk W0 w.heap.size 34 (go (kd,n,K,V,kb)):=by rw[←aH];exact Blk.new _ _ _
 have HK:=qid cD;rw[aH];clear aH cD bD;obtain⟨y0,y1,y2,y3,y4⟩:=aC _ HK.out;simp only at y0 y1 y2 y3 y4;go_wp2_with fail;refine(XK n b1 H1.out eA.out _).mono ?_;rintro e x1 ⟨rfl,hb⟩
 replace HB:=qid (HB.out.trans (hb.mono HB.out.size))
 replace HK:=qid (HK.out.below hb (Blk.lt HK.out))
 clear hb y0 y1 y2 y3 y4
 cases b1
 ·go_wp2
  go_ret;exact⟨JN _ _ (by rw[←HT.out];simp[nl,okC,bb,H1.out]),HB.out⟩
 obtain⟨y0,y1,y2,y3,y4⟩:=aC _ HK.out;simp only at y0 y1 y2 y3 y4;go_wp2_with fail;refine(Hq K b2 H2.out _).mono ?_;rintro e x2 ⟨rfl,hb⟩
 replace HB:=qid (HB.out.trans (hb.mono HB.out.size))
 replace HK:=qid (HK.out.below hb (Blk.lt HK.out))
 clear hb y0 y1 y2 y3 y4
 cases b2
 ·go_wp2
  go_ret;exact⟨JN _ _ (by rw[←HT.out];simp[nl,okC,bb,H1.out,H2.out]),HB.out⟩
 obtain⟨y0,y1,y2,y3,y4⟩:=aC _ HK.out;simp only at y0 y1 y2 y3 y4;go_wp2_with fail;refine(Hq V b3 H3.out _).mono ?_;rintro e x3 ⟨rfl,hb⟩
 replace HB:=qid (HB.out.trans (hb.mono HB.out.size))
 replace HK:=qid (HK.out.below hb (Blk.lt HK.out))
 clear hb y0 y1 y2 y3 y4
 cases b3
 ·go_wp2
  go_ret;exact⟨JN _ _ (by rw[←HT.out];simp[nl,okC,bb,H1.out,H2.out,H3.out]),HB.out⟩
 cases kb
 ·by_cases h4:K=0
  rotate_left
  ·have k0:(K != 0)=true:=by rw[bne_iff_ne];exact h4
   have k1:decide (K≠0)=true:=decide_eq_true h4;obtain⟨y0,y1,y2,y3,y4⟩:=aC _ HK.out;simp only at y0 y1 y2 y3 y4;go_wp2;go_ret;exact⟨JN _ _ (by rw[←HT.out];simp[nl,okC,bb,H1.out,H2.out,H3.out,h4]),HB.out⟩
  subst h4
  by_cases d2:kd=2
  ·subst d2
   have q9:¬(9223372036854775807<11+(Lib.itoa 0).length):=by obtain⟨_,_,_,_,_,_,lz⟩:=If 0 H2.out;omega
   obtain⟨y0,y1,y2,y3,y4⟩:=aC _ HK.out;simp only at y0 y1 y2 y3 y4;go_wp2_with fail;refine(N5 0 H2.out _).mono ?_;rintro e x4 ⟨rfl,hb⟩
   replace HB:=qid (HB.out.trans (hb.mono HB.out.size))
   replace HK:=qid (HK.out.below hb (Blk.lt HK.out))
   clear hb y0 y1 y2 y3 y4;obtain⟨y0,y1,y2,y3,y4⟩:=aC _ HK.out;simp only at y0 y1 y2 y3 y4;go_wp2;go_ret;exact⟨JN _ _ (by rw[←HT.out];simp[nl,okC,bb,H1.out,H2.out,H3.out]),HB.out⟩
  by_cases hv:V=0
  rotate_left
  ·have v0:(V != 0)=true:=by rw[bne_iff_ne];exact hv
   have m2:(kd != 2)=true:=by rw[bne_iff_ne];exact d2
   obtain⟨y0,y1,y2,y3,y4⟩:=aC _ HK.out;simp only at y0 y1 y2 y3 y4;go_wp2;go_ret;exact⟨JN _ _ (by rw[←HT.out];simp[nl,okC,bb,H1.out,H2.out,H3.out,d2,hv]),HB.out⟩
  subst hv;have m2:(kd != 2)=true:=by rw[bne_iff_ne];exact d2
  have n2:(kd==2)=false:=beq_eq_false_iff_ne.2 d2;have HZ:Hid ((Lib.itoa 0).length≤6∧n.size≤1000000):=qid (by obtain⟨_,_,_,_,_,_,lz⟩:=If 0 H2.out;exact⟨lz,eA.out⟩)
  have q9:¬(9223372036854775807<11+(Lib.itoa 0).length):=by have:=HZ.out;omega
  obtain⟨y0,y1,y2,y3,y4⟩:=aC _ HK.out;simp only at y0 y1 y2 y3 y4;go_wp2_with fail;refine(N5 0 H2.out _).mono ?_;rintro e x5 ⟨rfl,hb⟩
  replace HB:=qid (HB.out.trans (hb.mono HB.out.size))
  replace HK:=qid (HK.out.below hb (Blk.lt HK.out))
  clear hb y0 y1 y2 y3 y4;obtain⟨y0,y1,y2,y3,y4⟩:=aC _ HK.out;simp only at y0 y1 y2 y3 y4
  by_cases d1:kd=1
  ·subst d1
   clear m2 n2 d2;obtain⟨q0,q1⟩:¬(9223372036854775807<14+n.size)∧¬(9223372036854775807<14+n.size+(11+(Lib.itoa 0).length)):=by have:=HZ.out;omega
   go_wp2;go_ret;exact⟨JN _ _ (by rw[←HT.out];rw[show nl (1,n,0,0,false)=[115,101,108,101,99,116,32,42,32,102,114,111,109,32]++n.data.toList by simp[nl,okC,H1.out,H2.out],MW,KH];exact(XL _).symm),HB.out⟩
  have n1:(kd==1)=false:=beq_eq_false_iff_ne.2 d1
  by_cases d3:kd=3
  ·subst d3
   clear m2 n2 d2 n1 d1;go_wp2;go_ret;exact⟨JN _ _ (by rw[←HT.out];simp[nl,okC,bb,H1.out,H2.out,H3.out]),HB.out⟩
  have n3:(kd==3)=false:=beq_eq_false_iff_ne.2 d3
  by_cases d4:kd=4
  ·subst d4
   clear m2 n2 d2 n1 d1 n3 d3;obtain⟨q0,q1⟩:¬(9223372036854775807<12+n.size)∧¬(9223372036854775807<12+n.size+(11+(Lib.itoa 0).length)):=by have:=HZ.out;omega
   go_wp2;go_ret;exact⟨JN _ _ (by rw[←HT.out];rw[show nl (4,n,0,0,false)=[100,101,108,101,116,101,32,102,114,111,109,32]++n.data.toList by simp[nl,okC,H1.out,H2.out],MW,KH];exact(XL _).symm),HB.out⟩
  have n4:(kd==4)=false:=beq_eq_false_iff_ne.2 d4
  by_cases d5:kd=5
  ·subst d5
   clear m2 n2 d2 n1 d1 n3 d3 n4 d4;obtain⟨q0,q1⟩:¬(9223372036854775807<13+n.size)∧¬(9223372036854775807<13+n.size+(11+(Lib.itoa 0).length)):=by have:=HZ.out;omega
   go_wp2;go_ret;exact⟨JN _ _ (by rw[←HT.out];rw[show nl (5,n,0,0,false)=[99,114,101,97,116,101,32,116,97,98,108,101,32]++n.data.toList by simp[nl,okC,H1.out,H2.out],MW,KH];all_goals rfl),HB.out⟩
  have n5:(kd==5)=false:=beq_eq_false_iff_ne.2 d5;go_wp2;go_ret;exact⟨JN _ _ (by rw[←HT.out];simp[nl,okC,bb,H1.out,H2.out,H3.out,d1,d2,d3,d4,d5]),HB.out⟩
 ·by_cases d2:kd=2
  ·subst d2
   have lz:(Lib.itoa K).length≤6:=by obtain⟨_,_,_,_,_,_,lz⟩:=If K H2.out;exact lz
   have lv:(Lib.itoa V).length≤6:=by obtain⟨_,_,_,_,_,_,lz⟩:=If V H3.out;exact lz
   have hs:=eA.out;obtain⟨q0,q1,q2,q3,q4,q5,q6⟩:¬(9223372036854775807<11+(Lib.itoa K).length)∧¬(9223372036854775807<12+n.size)∧¬(9223372036854775807<12+n.size+10)∧¬(9223372036854775807<12+n.size+10+(Lib.itoa K).length)∧¬(9223372036854775807<12+n.size+10+(Lib.itoa K).length+3)∧¬(9223372036854775807<12+n.size+10+(Lib.itoa K).length+3+(Lib.itoa V).length)∧¬(9223372036854775807<12+n.size+10+(Lib.itoa K).length+3+(Lib.itoa V).length+2):=by omega
   clear lz lv hs;obtain⟨y0,y1,y2,y3,y4⟩:=aC _ HK.out;simp only at y0 y1 y2 y3 y4;go_wp2_with fail;refine(N5 K H2.out _).mono ?_;rintro e x6 ⟨rfl,hb⟩
   replace HB:=qid (HB.out.trans (hb.mono HB.out.size))
   replace HK:=qid (HK.out.below hb (Blk.lt HK.out))
   clear hb y0 y1 y2 y3 y4;obtain⟨y0,y1,y2,y3,y4⟩:=aC _ HK.out;simp only at y0 y1 y2 y3 y4;go_wp2_with fail;refine wp_region_held_drew (S:=(fun w'=>Below x6.heap.size x6 w')) (by kernel_rfl) ?_ (fun hS=>?_)
   ·exact(Below.refl _ _).drew
   try dsimp only at hS
   refine tkY 0 ?_ rfl hS ?_ ?_;rotate_left
   ·intro wz a8;obtain⟨x0,x1,x2,x3,x4⟩:=aC _ (HK.out.below a8 (Blk.lt HK.out));simp only at x0 x1 x2 x3 x4;go_simp;all_goals with_reducible rfl
   iterate 5 ((try simp only[Act.put,pu]);refine tkM ?_ rfl hS ?_ ?_;rotate_left;(·intro wz a8;obtain⟨x0,x1,x2,x3,x4⟩:=aC _ (HK.out.below a8 (Blk.lt HK.out));simp only at x0 x1 x2 x3 x4;go_simp;all_goals with_reducible rfl))
   (try simp only[Act.put,pu]);refine tkY 9 ?_ rfl hS ?_ ?_;rotate_left
   ·intro wz a8;obtain⟨x0,x1,x2,x3,x4⟩:=aC _ (HK.out.below a8 (Blk.lt HK.out));simp only at x0 x1 x2 x3 x4;go_simp;all_goals with_reducible rfl
   (try simp only[Act.put,pu]);refine tkY 10 ?_ rfl hS ?_ ?_;rotate_left
   ·intro wz a8;obtain⟨x0,x1,x2,x3,x4⟩:=aC _ (HK.out.below a8 (Blk.lt HK.out));simp only at x0 x1 x2 x3 x4;go_simp;all_goals with_reducible rfl
   try simp only[Act.put,pu]
   refine wpAnyH_ready (rs:=[6]) (by kernel_rfl) (by simp) (AllReadyH.cons rfl (fun K hK=>?_) AllReadyH.nil)
   go_simp;refine(N5 _ H2.out _).mono ?_;rintro e w8 ⟨rfl,bL⟩;refine hK.out _ _ ?_ (fun aF=>?_)
   ·exact hS.trans (bL.mono hS.size)
   clear hK K hS bL;have hS:=aF;clear aF
   try dsimp only at hS
   (try simp only[Act.put,pu]);refine tkY 7 ?_ rfl hS ?_ ?_;rotate_left
   ·intro wz a8;obtain⟨x0,x1,x2,x3,x4⟩:=aC _ (HK.out.below a8 (Blk.lt HK.out));simp only at x0 x1 x2 x3 x4;go_simp;all_goals with_reducible rfl
   (try simp only[Act.put,pu]);refine tkY 8 ?_ rfl hS ?_ ?_;rotate_left
   ·intro wz a8;obtain⟨x0,x1,x2,x3,x4⟩:=aC _ (HK.out.below a8 (Blk.lt HK.out));simp only at x0 x1 x2 x3 x4;go_simp;all_goals with_reducible rfl
   try simp only[Act.put,pu]
   refine wpAnyH_ready (rs:=[11]) (by kernel_rfl) (by simp) (AllReadyH.cons rfl (fun K hK=>?_) AllReadyH.nil)
   go_simp;refine(N5 _ H3.out _).mono ?_;rintro e w9 ⟨rfl,bL⟩;refine hK.out _ _ ?_ (fun aF=>?_)
   ·exact hS.trans (bL.mono hS.size)
   clear hK K hS bL;have hS:=aF;clear aF
   try dsimp only at hS
   (try simp only[Act.put,pu]);refine tkY 12 ?_ rfl hS ?_ ?_;rotate_left
   ·intro wz a8;obtain⟨x0,x1,x2,x3,x4⟩:=aC _ (HK.out.below a8 (Blk.lt HK.out));simp only at x0 x1 x2 x3 x4;go_simp;all_goals with_reducible rfl
   iterate 2 ((try simp only[Act.put,pu]);refine tkM ?_ rfl hS ?_ ?_;rotate_left;(·intro wz a8;obtain⟨x0,x1,x2,x3,x4⟩:=aC _ (HK.out.below a8 (Blk.lt HK.out));simp only at x0 x1 x2 x3 x4;go_simp;all_goals with_reducible rfl))
   try simp only[Act.put,pu]
   refine wpAnyH_done (by kernel_rfl) ?_ _
   go_wp2;go_ret;exact⟨JN _ _ (by rw[←HT.out,show nl (2,n,K,V,true)=[105,110,115,101,114,116,32,105,110,116,111,32]++n.data.toList++[32,118,97,108,117,101,115,32,40,32]++Lib.itoa K++[32,44,32]++Lib.itoa V++[32,41] by simp[nl,okC,H1.out,H2.out,H3.out,Nt]];simp only[MW,KH];all_goals rfl),HB.out.trans (hS.mono HB.out.size)⟩
  by_cases hv:V=0
  rotate_left
  ·have v0:(V != 0)=true:=by rw[bne_iff_ne];exact hv
   have m2:(kd != 2)=true:=by rw[bne_iff_ne];exact d2
   obtain⟨y0,y1,y2,y3,y4⟩:=aC _ HK.out;simp only at y0 y1 y2 y3 y4;go_wp2;go_ret;exact⟨JN _ _ (by rw[←HT.out];simp[nl,okC,bb,H1.out,H2.out,H3.out,d2,hv]),HB.out⟩
  subst hv;have m2:(kd != 2)=true:=by rw[bne_iff_ne];exact d2
  have n2:(kd==2)=false:=beq_eq_false_iff_ne.2 d2;have HZ:Hid ((Lib.itoa K).length≤6∧n.size≤1000000):=qid (by obtain⟨_,_,_,_,_,_,lz⟩:=If K H2.out;exact⟨lz,eA.out⟩)
  have q9:¬(9223372036854775807<11+(Lib.itoa K).length):=by have:=HZ.out;omega
  obtain⟨y0,y1,y2,y3,y4⟩:=aC _ HK.out;simp only at y0 y1 y2 y3 y4;go_wp2_with fail;refine(N5 K H2.out _).mono ?_;rintro e x7 ⟨rfl,hb⟩
  replace HB:=qid (HB.out.trans (hb.mono HB.out.size))
  replace HK:=qid (HK.out.below hb (Blk.lt HK.out))
  clear hb y0 y1 y2 y3 y4;obtain⟨y0,y1,y2,y3,y4⟩:=aC _ HK.out;simp only at y0 y1 y2 y3 y4
  by_cases d1:kd=1
  ·subst d1
   clear m2 n2 d2;obtain⟨q0,q1⟩:¬(9223372036854775807<14+n.size)∧¬(9223372036854775807<14+n.size+(11+(Lib.itoa K).length)):=by have:=HZ.out;omega
   go_wp2;go_ret;exact⟨JN _ _ (by rw[←HT.out];rw[show nl (1,n,K,0,true)=[115,101,108,101,99,116,32,42,32,102,114,111,109,32]++n.data.toList++([32,119,104,101,114,101,32,107,32,61,32]++Lib.itoa K) by simp[nl,okC,H1.out,H2.out,H3.out,Nt]];simp only[MW,KH];all_goals rfl),HB.out⟩
  have n1:(kd==1)=false:=beq_eq_false_iff_ne.2 d1
  by_cases d3:kd=3
  ·subst d3
   clear m2 n2 d2 n1 d1;obtain⟨q0,q1,q2,q3⟩:¬(9223372036854775807<7+n.size)∧¬(9223372036854775807<7+n.size+(11+(Lib.itoa K).length))∧¬(9223372036854775807<7+n.size+14)∧¬(9223372036854775807<7+n.size+14+(11+(Lib.itoa K).length)):=by have:=HZ.out;omega
   go_wp2;go_ret;exact⟨JN _ _ (by rw[←HT.out];rw[show nl (3,n,K,0,true)=[117,112,100,97,116,101,32]++n.data.toList++[32,115,101,116,32,118,32,61,32,118,32,43,32,49]++([32,119,104,101,114,101,32,107,32,61,32]++Lib.itoa K) by simp[nl,okC,H1.out,H2.out,H3.out,Nt]];simp only[MW,KH];all_goals rfl),HB.out⟩
  have n3:(kd==3)=false:=beq_eq_false_iff_ne.2 d3
  by_cases d4:kd=4
  ·subst d4
   clear m2 n2 d2 n1 d1 n3 d3;obtain⟨q0,q1⟩:¬(9223372036854775807<12+n.size)∧¬(9223372036854775807<12+n.size+(11+(Lib.itoa K).length)):=by have:=HZ.out;omega
   go_wp2;go_ret;exact⟨JN _ _ (by rw[←HT.out];rw[show nl (4,n,K,0,true)=[100,101,108,101,116,101,32,102,114,111,109,32]++n.data.toList++([32,119,104,101,114,101,32,107,32,61,32]++Lib.itoa K) by simp[nl,okC,H1.out,H2.out,H3.out,Nt]];simp only[MW,KH];all_goals rfl),HB.out⟩
  have n4:(kd==4)=false:=beq_eq_false_iff_ne.2 d4
  by_cases d5:kd=5
  ·subst d5
   clear m2 n2 d2 n1 d1 n3 d3 n4 d4;go_wp2;go_ret;exact⟨JN _ _ (by rw[←HT.out];simp[nl,okC,bb,H1.out,H2.out,H3.out]),HB.out⟩
  have n5:(kd==5)=false:=beq_eq_false_iff_ne.2 d5;go_wp2;go_ret;exact⟨JN _ _ (by rw[←HT.out];simp[nl,okC,bb,H1.out,H2.out,H3.out,d1,d2,d3,d4,d5]),HB.out⟩
end Go.Proofs.YtpgddamhdfmdjaaGreatDoor
