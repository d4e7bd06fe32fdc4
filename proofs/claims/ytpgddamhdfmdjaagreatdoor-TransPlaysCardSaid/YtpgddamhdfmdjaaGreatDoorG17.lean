/- Dmd Rwa Tae Tag Taf Tah Tai Taj Tal Tak Tam Tan -/
import Derived.Test.YtpgddamhdfmdjaaGreatDoorG15
import Derived.Test.YtpgddamhdfmdjaaGreatDoorG16
import Derived.Test.YtpgddamhdfmdjaaGreatDoorG5
import Derived.Test.YtpgddamhdfmdjaaGreatDoorG2
import Derived.Lib.AppendZerosOnto
import Derived.Lib.SliceRun
import Derived.Laws.CopyOwn
import Derived.Deep.AppendLies
import Derived.Deep.DeepAppendRoom
import Derived.Lib.Overlaps
import Derived.Test.YtpgddamhdfmdjaaGreatDoorG3
import Derived.Deep.RegionLaw
import Derived.Test.YtpgddamhdfmdjaaGreatDoorG1
set_option linter.unusedSimpArgs false
set_option linter.unusedVariables false
set_option maxRecDepth 100000
set_option maxHeartbeats 16000000
namespace Go.Proofs.YtpgddamhdfmdjaaGreatDoor
open Go.ChangeShapes Go.WideShapes Go.ChangeAt Go.RowKit
theorem PK(a b:ByteArray)(R:Bool)(hR:decide (a.data.toList<b.data.toList)=R)(ha:a.size≤1000000)(hb:b.size≤1000000)(w:World):
  Calls Tryz.prog 49 #[.string a,.string b] w fun e w'=>e=.returned (.bool R)∧Below w.heap.size w w':=by
 subst hR;refine(Lt a b w (by omega) (by omega)).mono ?_
 rintro e w' ⟨he,n,rfl⟩;exact⟨by rw[he,Lib.toList_data,Lib.toList_data],el _ _ _⟩
theorem Lu{w:World}{b off:Nat}{X:List Tv}(j:Nat)(h:∀(i:Nat) (t:Tv),X[i]? =some t→w.cell? ⟨b,off+i*2,none⟩=some (.string t.1)∧w.cell? ⟨b,off+i*2+1,none⟩=some t.2.1):∀i u,(tcs (X.drop j))[i]? =some u→w.cell? ((⟨b,off+j*2,none⟩:Addr).add i)=some u:=by
 intro i u hu;obtain⟨q,p,hq,lJ⟩:=MD _ i u hu;rw[List.getElem?_map,List.getElem?_drop]at hq
 cases hr:X[j+q]? with
 |none=>rw[hr]at hq;cases hq
 |some r=>
  rw[hr]at hq;injection hq with hq;subst hq;obtain⟨h1,h2⟩:=h _ _ hr;rw[Addr.add_lit];rcases lJ with⟨rfl,rfl⟩|⟨rfl,rfl⟩
  ·rw[show off+j*2+q*2=off+(j+q)*2 by omega];exact h1
  ·rw[show off+j*2+(q*2+1)=off+(j+q)*2+1 by omega];exact h2
theorem Te{X:List Tv}{s:List Tb}{n:ByteArray}{i:Nat}(hX:tbs X=s)(hi:i≤s.length)(h1:∀t x,t<i→s[t]? =some x→ltN n x=true)(h2:∀x,s[i]? =some x→ltN n x=false):tbs (Ia X i n)=H9 s n:=by
 have e:oR s n=i:=Jd _ s i hi h1 h2;rw[Tc,hX];unfold H9;rw[e]
theorem Jc{a b:Value}(ha:a.oneCell'=true)(hb:b.oneCell'=true):∀v∈[a,b],v.oneCell'=true:=by
 intro v hv;rcases List.mem_cons.1 hv with rfl|hv
 ·exact ha
 ·rw[List.mem_singleton]at hv;subst hv;exact hb
theorem My{X:List Tv}(h:∀t∈X,t.2.1.oneCell'=true):∀v∈tcs X,v.oneCell'=true:=Lz _ _ fun p hp=>by
 obtain⟨t,ht,rfl⟩:=List.mem_map.1 hp;exact⟨rfl,h t ht⟩
end Go.Proofs.YtpgddamhdfmdjaaGreatDoor
namespace Go.Proofs.YtpgddamhdfmdjaaGreatDoor.RW
open Go.ChangeShapes Go.WideShapes Go.ChangeAt Go.RowKit
def fz(l:List (List Value)):List Value:=l.flatten
def Uni(z:Nat)(l:List (List Value)):Prop:=∀r∈l,r.length=z
theorem Uni.cons{z:Nat}{r:List Value}{l:List (List Value)}(h:Uni z (r::l)):r.length=z∧Uni z l:=⟨h r (List.mem_cons_self ..),fun x hx=>h x (List.mem_cons_of_mem _ hx)⟩
theorem Uni.rep{z k:Nat}{r:List Value}(h:r.length=z):Uni z (List.replicate k r):=fun x hx=>by rw[List.eq_of_mem_replicate hx];exact h
theorem fz_len{z:Nat}:∀ {l:List (List Value)},Uni z l→(fz l).length=l.length*z
 | [],_=>by simp[fz]
 |r::l,h=>by
  have ih:=fz_len (l:=l) h.cons.2;have h1:=h.cons.1;rw[show fz (r::l)=r++fz l from rfl,List.length_append,ih,List.length_cons,h1,Nat.add_mul];omega
theorem Tf{z:Nat}:∀ {l:List (List Value)},Uni z l→∀i,fz (l.drop i)=(fz l).drop (i*z)
 |l,_,0=>by simp
 | [],_,i+1=>by simp[fz]
 |r::l,h,i+1=>by
  have h1:=h.cons.1;rw[List.drop_succ_cons,show fz (r::l)=r++fz l from rfl,Tf h.cons.2 i,List.drop_append,List.drop_of_length_le (l:=r) (by rw[h1,Nat.add_mul];omega),List.nil_append]
  congr 1
  rw[h1,Nat.add_mul];omega
theorem qcu{z:Nat}{l:List (List Value)}(h:Uni z l){i:Nat}{r:List Value}(hi:l[i]? =some r)(j:Nat)(hj:j<z):(fz l)[i*z+j]? =r[j]? :=by
 have h0:=(List.getElem?_eq_some_iff.1 hi).1;have e1:=Tf h i;rw[List.drop_eq_getElem_cons h0]at e1;have e2:l[i]=r:=by rw[List.getElem?_eq_getElem h0]at hi;injection hi
 rw[e2]at e1;have hr:r.length=z:=h r (List.mem_of_getElem? hi);have e3:=congrArg (fun q=>q[j]?) e1
 simp only[List.getElem?_drop]at e3;rw[←e3,show fz (r::l.drop (i+1))=r++fz (l.drop (i+1))from rfl,List.getElem?_append_left (by omega)]
theorem qbA(cs:List Value)(k:Nat):∀j,j<k*cs.length→(fz (List.replicate k cs))[j]? =cs[j % cs.length]? :=by
 intro j hj;have hz:0<cs.length:=by
  rcases Nat.eq_zero_or_pos cs.length with h|h
  ·rw[h,Nat.mul_zero]at hj;omega
  ·exact h
 have h1:j / cs.length<k:=Nat.div_lt_of_lt_mul (by rw[Nat.mul_comm];exact hj)
 have:=qcu (z:=cs.length) (l:=List.replicate k cs) (Uni.rep rfl) (i:=j / cs.length) (r:=cs) (by rw[List.getElem?_replicate,if_pos h1]) (j % cs.length) (Nat.mod_lt _ hz)
 rwa[show j / cs.length*cs.length+j % cs.length=j from Nat.div_add_mod' ..]at this
theorem Zt(cs:Array Value)(k:Nat):(Builtin.zeroCells cs k).toList=fz (List.replicate k cs.toList):=by
 apply List.ext_getElem?
 intro j
 by_cases hj:j<k*cs.size
 ·have hz:0<cs.size:=by
   rcases Nat.eq_zero_or_pos cs.size with h|h
   ·rw[h,Nat.mul_zero]at hj;omega
   ·exact h
  have h2:=Nat.mod_lt j hz;rw[qbA cs.toList k j (by simpa using hj)]
  simp[Builtin.zeroCells,hj,h2]
 ·have e2:(fz (List.replicate k cs.toList))[j]? =none:=by
   rw[List.getElem?_eq_none_iff,fz_len (z:=cs.size) (Uni.rep (by simp)),List.length_replicate];omega
  rw[e2];simp[Builtin.zeroCells];omega
section
variable {P:Program} {w:World} {B g n cap z:Nat} {e:TypeId} {xs:List Value}
theorem own_more(h:w.ownsRow B e z (.slice (some ⟨g,0,none⟩) n cap) n xs)(k:Nat)(hn:n≤k)(hk:k≤cap):∃ys,ys.length=(k-n)*z∧w.ownsRow B e z (.slice (some ⟨g,0,none⟩) k cap) k (xs++ys):=by
 rcases h.2 with⟨h',_⟩|⟨g',jm,cur,h',hb,hg,ns,kO,gC,jA⟩
 ·simp at h'
 ·simp only[Value.slice.injEq,Option.some.injEq,Addr.mk.injEq,and_true,true_and]at h'
  obtain⟨rfl,rfl⟩:=h';have DE:k*z≤cap*z:=Nat.mul_le_mul_right _ hk;have AK:n*z≤k*z:=Nat.mul_le_mul_right _ hn;have hl:cur.toList.length=cap*z:=by simpa using gC
  refine⟨(cur.toList.take (k*z)).drop (n*z),by rw[List.length_drop,List.length_take,hl,Nat.sub_mul];omega,?_,.inr ⟨g,cap,cur,rfl,hb,hg,by omega,kO,gC,?_⟩⟩
  ·rw[List.length_append,List.length_drop,List.length_take,hl,h.1];omega
  ·rw[←jA,←show(cur.toList.take (k*z)).take (n*z)=cur.toList.take (n*z) by rw[List.take_take];congr 1;omega,List.take_append_drop]
theorem run_app_zeros(t tn ty:TypeId)(i:TypeInfo)(zc:Array Value)(bytes:Nat)(kq kn:IntKind)(ht:P.underlying t=some (.slice e))(jw:P.underlying tn=some (.int kn))(hi:P.info? e=some i)(hz:i.zero=some (.agg zc))(Ag:zc.size=z)(eK:0<z)(bH:i.size=z)(uB:i.bytes=bytes)(base:Option Addr)(m ba:Nat)(olds:List Value)(jB:olds.length=m*z)(hold:0<m→∃ad,base=some ad∧∀j v,olds[j]? =some v→w.cell? (ad.add j)=some v)(k:Nat)(h0:0<k)(hg:ba<m+k)(hb:B≤w.heap.size)(y':(m+k)*bytes≤140737488355328)(uC:m+k≤maxLen):
  ∃c w',(Builtin.append_ #[t,tn] ty #[.slice base m ba,.int kq k]).run P w=.ok (.slice (some ⟨w.heap.size,0,none⟩) (m+k) c) w'∧
   w'.ownsRow B e z (.slice (some ⟨w.heap.size,0,none⟩) (m+k) c) (m+k) (olds++fz (List.replicate k zc.toList))∧w.grownBy w' none:=by
 have hf:(Builtin.firstCells i.size m (.slice base m ba)).run P w.drew=.ok olds.toArray w.drew:=by
  rw[bH]
  by_cases hm:0<m
  ·obtain⟨ad,rfl,hc⟩:=hold hm
   exact run_firstCells_some w.drew z m ad m ba olds jB hc
  ·have:m=0:=by omega
   subst this;have:olds=[]:=List.eq_nil_of_length_eq_zero (by simpa using jB)
   subst this
   cases base with
   |none=>exact run_firstCells_none w.drew z 0 0 ba
   |some ad=>exact run_firstCells_some w.drew z 0 ad 0 ba [] (by simp) (fun j v hj=>by simp at hj)
 have sG:k*bytes≤(m+k)*bytes:=Nat.mul_le_mul_right _ (by omega)
 have hr:=Lib.run_append_grow_zeros w t tn ty e i (.agg zc) kq kn ht jw hi hz base m ba olds hf k h0 (by omega) hg (by unfold maxLen at uC;omega) (by rw[uB];omega) (by rw[uB];exact growslice_fits hg y')
 refine⟨_,_,hr,?_,?_⟩
 ·have e1:(Value.agg zc).cells=zc:=rfl
  rw[e1];have kP:m+k≤grownCap w (m+k) ba e:=grownCap_ge w _ _ _;have bC:∀q,(Builtin.zeroCells zc q).size=q*z:=fun q=>by rw[size_zeroCells,Ag]
  have oy:(fz (List.replicate k zc.toList)).length=k*z:=by rw[fz_len (z:=z) (Uni.rep (by simpa using Ag)),List.length_replicate]
  refine⟨by rw[List.length_append,jB,oy,Nat.add_mul],.inr ⟨w.heap.size,_,(olds.toArray++Builtin.zeroCells zc k++Builtin.zeroCells zc (grownCap w (m+k) ba e-(m+k))),rfl,hb,?_,kP,grownCap_le_maxLen w _ _ _ uC,?_,?_⟩⟩
  ·exact heap_alloc_new w.drew _
  ·rw[Array.size_append,Array.size_append,bC,bC,List.size_toArray,jB,←Nat.add_mul,←Nat.add_mul];congr 1;omega
  ·rw[Array.toList_append,Array.toList_append,Zt,List.take_append_of_le_length (by rw[List.length_append,oy,jB,Nat.add_mul];omega),List.take_of_length_le (by rw[List.length_append,oy,jB,Nat.add_mul];omega)]
 ·have G:=World.grownBy_alloc w.drew (.cells (olds.toArray++Builtin.zeroCells (Value.agg zc).cells k++Builtin.zeroCells (Value.agg zc).cells (grownCap w (m+k) ba e-(m+k))) e) none
  exact⟨G.os,G.tape,G.output,G.size,fun j hj hn=>G.block j hj hn⟩
end
end Go.Proofs.YtpgddamhdfmdjaaGreatDoor.RW
namespace Go.Proofs.YtpgddamhdfmdjaaGreatDoor.TT
open Go.ChangeShapes Go.WideShapes Go.ChangeAt Go.RowKit
def EQ(B:Nat)(w:World)(v:Value)(l:List Tv):Prop:=w.ownsRow B 55 2 v l.length (tcs l)
def Lv(x:Tv):List Value:=[.string x.1,x.2.1]
theorem Jy(x:Tv):tcs [x]=Lv x:=rfl
theorem tcs_oneY{X:List Tv}(h:∀t∈X,t.2.1.oneCell'=true):∀v∈tcs X,v.oneCell'=true:=Lz _ _ fun p hp=>by
 obtain⟨t,ht,rfl⟩:=List.mem_map.1 hp;exact⟨rfl,h t ht⟩
section
variable {B:Nat} {w w':World} {v:Value} {l:List Tv}
theorem EQ.lt(h:EQ B w v l)(g:Nat)(hg:v.ownBlock=some g):B≤g∧g<w.heap.size:=World.ownsRow.lt h g hg
theorem EQ.inv(h:EQ B w v l):(v=.slice none 0 0∧l=[])∨∃g cap,v=.slice (some ⟨g,0,none⟩) l.length cap∧l.length≤cap∧cap≤maxLen∧B≤g∧g<w.heap.size:=by
 rcases h.2 with⟨rfl,hz⟩|⟨g,cap,cur,rfl,hb,hg,hc,hm,_⟩
 ·exact .inl ⟨rfl,List.eq_nil_of_length_eq_zero hz⟩
 ·exact .inr ⟨g,cap,rfl,hc,hm,hb,(h.lt g rfl).2⟩
theorem EQ.of{m:Nat}{X:List Value}{A:List Tv}(h:w.ownsRow B 55 2 v m X)(hm:A.length=m)(hx:tcs A=X):EQ B w v A:=by
 subst hm hx;exact h
end
theorem OK{α:Type}(A D Y N:List α)(o z:Nat)(ho:A.length=o)(hY:Y.length=z)(hN:N.length=z):splice (splice (A++D++Y) (o+z) D) o N=A++N++D:=by
 subst ho;unfold splice;have e1:(A++D++Y).take (A.length+z)=A++(D++Y).take z:=by
  rw[List.append_assoc,List.take_append,List.take_of_length_le (l:=A) (by omega)]
  congr 2
  omega
 have e2:(A++D++Y).drop (A.length+z+D.length)=[]:=List.drop_eq_nil_of_le (by simp;omega)
 have hz:((D++Y).take z).length=z:=by rw[List.length_take,List.length_append];omega
 rw[e1,e2,List.append_nil];have e3:(A++(D++Y).take z++D).take A.length=A:=by rw[List.append_assoc,List.take_left]
 have e4:(A++(D++Y).take z++D).drop (A.length+N.length)=D:=by
  rw[List.drop_append,List.drop_of_length_le (by rw[List.length_append,hz];omega),List.nil_append]
  rw[List.length_append,hz,hN,Nat.sub_self,List.drop_zero]
 rw[e3,e4,List.append_assoc]
def MA(B:Nat)(row:Option Nat)(R:List Tv)(w:World)(e:Ending)(w':World):Prop:=
 ∃a c,e=.returned (.slice a R.length c)∧EQ B w' (.slice a R.length c) R∧w.grownBy w' row∧∀q,(Value.slice a R.length c).ownBlock=some q→row=some q∨w.heap.size≤q
theorem Lw(l:List Tv)(i:Nat)(x:Tv)(h:i≤l.length):(l.take i++x::l.drop i).length=l.length+1:=by
 rw[List.length_append,List.length_cons,List.length_take,List.length_drop];omega
theorem Tg{w:World}{vb:Nat}{x:Tv}(h:SL.Bk w vb 55 #[.string x.1,x.2.1]):∀j u,(Lv x)[j]? =some u→w.cell? ((⟨vb,0,none⟩:Addr).add j)=some u:=by
 intro j u hu;rw[Addr.add_lit,Nat.zero_add];have:=h.cell j;rw[this]
 simpa[Lv]using hu
theorem KV(x:Tv)(hx:x.2.1.oneCell'=true):∀u∈Lv x,u.oneCell'=true:=by
 intro u hu;simp only[Lv,List.mem_cons,List.not_mem_nil,or_false]at hu;rcases hu with rfl|rfl
 ·rfl
 ·exact hx
theorem WV(B:Nat)(v:Value)(l:List Tv)(x:Tv)(vb:Nat)(w:World)(h:EQ B w v l)(hv:SL.Bk w vb 55 #[.string x.1,x.2.1])(h1:∀t∈l,t.2.1.oneCell'=true)(ct:x.2.1.oneCell'=true)(hl:l.length≤1000000)(hB:B≤w.heap.size):
  Calls Tryz.prog 68 #[v,.int .i64 (l.length:Int),.slice (some ⟨vb,0,none⟩) 1 1] w (MA B v.ownBlock (l++[x]) w):=by
 obtain⟨H1,bX⟩:=hZ2 h1 ct;clear h1 ct;obtain⟨i30,bQ,cS,bR,cY⟩:=OX;have bE:=I8;have HO:=qid h;rcases h.inv with⟨rfl,rfl⟩|⟨g,cap,rfl,bn,Ah,sH,cx⟩
 ·have HN:=qid (Tg hv)
  have HB:=qid hB;clear h hv hl hB;go_enter Tryz.func68,Tryz.ntmps68;go_wp2_with (at_builtin;refine wpList_append_lies _ rfl _ _ 22 rfl B 55 i30 (.agg #[.string ByteArray.empty,.slice none 0 0]) 2 40 bE bQ cS bR cY rfl (by decide) _ 0 [] rfl HO.out ⟨vb,0,none⟩ 1 1 (Lv x) rfl rfl ?_ ?_ (by decide) ?_ ?_ ?_ _ rfl ?_)
  any_goals first
   |exact HN.out
   |exact KV x bX.out
   |(unfold maxLen;omega)
   |omega
   |exact HB.out
  all_goals
   intro g9 bN w9 aB aM af cE;have cX:Hid (EQ B w9 (.slice (some ⟨g9,0,none⟩) 1 bN) [x]):=qid (EQ.of aB rfl (by rw[Jy]))
   have nh:=qid aM;have qA:Hid (∀q,(Value.slice (some ⟨g9,0,none⟩) 1 bN).ownBlock=some q→(Value.slice none 0 0).ownBlock=some q∨w.heap.size≤q):=qid fun q hq=>by have gG:g9=q:=(by injection hq);rw[←gG];rcases af with h|h;exact .inl h;exact .inr (by omega)
   clear aB aM af;go_wp2;go_ret;exact⟨_,bN,rfl,cX.out,nh.out,qA.out⟩
 ·have kO:cap≤9223372036854775807:=by unfold maxLen at Ah;omega
  have HN:=qid (Tg hv);obtain⟨HL,HB⟩:=hZ2 hl hB;obtain⟨n1,dj⟩:∃n1,l.length+1=n1:=⟨_,rfl⟩;have cu:=qid dj;have eY:(l++[x]).length=n1:=by rw[List.length_append];simpa using dj
  have iR:=qid eY;have l0:(0:Int)≤(l.length:Int):=by omega
  clear h hv hl hB dj eY;go_enter Tryz.func68,Tryz.ntmps68;go_wp2_with (at_builtin;refine wpList_append_lies _ rfl _ _ 22 rfl B 55 i30 (.agg #[.string ByteArray.empty,.slice none 0 0]) 2 40 bE bQ cS bR cY rfl (by decide) _ l.length (tcs l) rfl HO.out ⟨vb,0,none⟩ 1 1 (Lv x) rfl rfl ?_ ?_ (by decide) ?_ ?_ ?_ _ rfl ?_)
  any_goals first
   |exact HN.out
   |exact KV x bX.out
   |(have:=HL.out;unfold maxLen;omega)
   |(have:=HL.out;omega)
   |exact HB.out
  all_goals
   intro g9 bN w9 aB aM af cE;have cX:Hid (EQ B w9 (.slice (some ⟨g9,0,none⟩) n1 bN) (l++[x])):=qid (EQ.of (by rw[cu.out]at aB;exact aB) iR.out (by rw[ip,Jy]))
   have nh:=qid aM;have aJ:=cu.out;have qA:Hid (∀q,(Value.slice (some ⟨g9,0,none⟩) n1 bN).ownBlock=some q→(Value.slice (some ⟨g,0,none⟩) l.length cap).ownBlock=some q∨w.heap.size≤q):=qid fun q hq=>by have gG:g9=q:=(by injection hq);rw[←gG];rcases af with h|h;exact .inl h;exact .inr (by omega)
   clear aB aM af
   try rw[aJ]
   go_wp2;go_ret;exact⟨some ⟨g9,0,none⟩,bN,by rw[iR.out];rfl,by rw[iR.out];exact cX.out,nh.out,by rw[iR.out];exact qA.out⟩
theorem Rq(B g cap:Nat)(l:List Tv)(i:Nat)(x:Tv)(vb:Nat)(w:World)(h:EQ B w (.slice (some ⟨g,0,none⟩) l.length cap) l)(hv:SL.Bk w vb 55 #[.string x.1,x.2.1])(uD:vb≠g)(hi:i<l.length)(hc:l.length+1≤cap)(h1:∀t∈l,t.2.1.oneCell'=true)(ct:x.2.1.oneCell'=true)(hl:l.length≤1000000):
  Calls Tryz.prog 68 #[.slice (some ⟨g,0,none⟩) l.length cap,.int .i64 (i:Int),.slice (some ⟨vb,0,none⟩) 1 1] w (MA B (some g) (l.take i++x::l.drop i) w):=by
 obtain⟨H1,bX⟩:=hZ2 h1 ct;clear h1 ct;obtain⟨i30,bQ,cS,bR,cY⟩:=OX;have bE:=I8;have kO:cap≤9223372036854775807:=by
  rcases h.2 with⟨h',_⟩|⟨_,c',cur,h',_,_,_,hm,_⟩
  ·cases h'
  ·injection h' with _ _ h';subst h';unfold maxLen at hm;omega
 obtain⟨ys,yA,aE⟩:=RW.own_more h (l.length+1) (by omega) hc
 obtain⟨n1,dj⟩:∃n1,l.length+1=n1:=⟨_,rfl⟩;rw[dj]at aE yA;obtain⟨i1,aN⟩:∃i1,i+1=i1:=⟨_,rfl⟩;have eB:=aE;obtain⟨cur,cT,gC⟩:∃cur,w.heap[g]? =some (.cells cur 55 (0,0))∧cur.size=cap*2:=by
  rcases h.2 with⟨h',_⟩|⟨g',c',cur,h',_,yB,_,_,gC,_⟩
  ·cases h'
  ·injection h' with e1 _ e2;injection e1 with e1;injection e1 with e1;subst e1 e2;exact⟨cur,yB,gC⟩
 have bH:(Tryz.prog.info? 55).map (·.size)=some 2:=by rw[bQ];simp[bR]
 have DF:∀lb cb,(callFunc 91 #[.slice (some ⟨vb,0,none⟩) 1 1,.slice (some ⟨g,i1*2,none⟩) lb cb]).run Tryz.prog w=.ok (.value (.bool false)) w:=fun lb cb=>by
  rw[run_callFunc_extern Tryz.func91 (by kernel_rfl) (by kernel_rfl) (by kernel_rfl) (e:=Extern.SlicesOverlaps.overlaps #[22,22] #[4]) (by kernel_rfl),
   Lib.run_overlaps_apart w 22 4 55 bE 2 (fun W=>by simp[sizeOf,typeInfo,bQ,bR]) ⟨vb,0,none⟩ ⟨g,i1*2,none⟩ 1 1 lb cb uD 55 55 2 (cap*2) (by
    have:=hv;unfold SL.Bk at this;unfold World.shape?;rw[this];rfl) (by
    unfold World.shape?;rw[cT,←gC]) (by omega) (hv.frozen _) (hv.frozen _)]
  rfl
 obtain⟨HO,iC⟩:=hZ2 h aE;have HV:=qid (Tg hv);obtain⟨yC,HI,aQ,cu,DG⟩:=hZ5 hv.lt hi aN dj yA;obtain⟨DH,HL⟩:=hZ2 uD hl;have l0:(0:Int)≤(i:Int):=by omega
 have l1:(i:Int)≤(l.length:Int):=by omega
 have l2:¬((i:Int)=(l.length:Int)):=by omega
 have wk:IntKind.i64.wrap ((l.length:Int)+1)=(n1:Int):=by rw[show(l.length:Int)+1=(n1:Int) by omega];exact IntWalk.i64_in _ (by omega)
 have yD:IntKind.i64.wrap ((i:Int)+1)=(i1:Int):=by rw[show(i:Int)+1=(i1:Int) by omega];exact IntWalk.i64_in _ (by omega)
 have l3:¬((cap:Int)<(n1:Int)):=by omega
 have l4:(n1:Int)≤(cap:Int):=by omega
 have l5:(0:Int)≤(n1:Int):=by omega
 have l6:(0:Int)≤(i1:Int):=by omega
 have l7:(i1:Int)≤(n1:Int):=by omega
 have l8:(i:Int)≤(n1:Int):=by omega
 have l9:¬(cap=i):=by omega
 have l10:¬(cap=i1):=by omega
 have Fl:Hid (n1≤cap):=qid (by omega)
 obtain⟨R,hR⟩:∃R,l.take i++x::l.drop i=R:=⟨_,rfl⟩;have fw:R.length=n1:=by rw[←hR,Lw l i x (by omega)];exact dj
 obtain⟨HR,o7⟩:=hZ2 hR fw;rw[hR];unfold MA;rw[fw];clear h hv hi aN dj yA aE eB cT gC bH uD hl hc hR fw kO;go_enter Tryz.func68,Tryz.ntmps68;go_wp2_with fail;have jx:(tcs (l.drop i)).length=(l.length-i)*2:=by rw[It,List.length_drop]
 have i':Nat.min (n1-i) (n1-i1)=l.length-i:=by have:=HI.out;have:=cu.out;have:=aQ.out;rw[show Nat.min (n1-i) (n1-i1)=n1-i1 from Nat.min_eq_right (by omega)];omega
 have dw:∀j v,(tcs (l.drop i))[j]? =some v→w.cell? ((⟨g,i*2,none⟩:Addr).add j)=some v:=by
  intro j v hj;rw[PX,List.getElem?_drop]at hj;have h1:=World.ownsRow.cells HO.out (g:=g) rfl (i*2+j) v hj;rw[Addr.add_lit,Nat.zero_add]at h1;rw[Addr.add_lit];exact h1
 obtain⟨jy,lM,iQ⟩:=hZ3 dw jx i';have eh:i1*2+(tcs (l.drop i)).length≤n1*2:=by rw[jx];have:=HI.out;have:=cu.out;have:=aQ.out;omega
 have qB:=qid eh;clear dw jx i' eh DF
 go_region_law (refine JE rfl _ _ 22 22 rfl i30 bE bQ bR (i1*2) (n1-i1) (cap-i1) (some ⟨g,i*2,none⟩) (n1-i) (cap-i) (by simp[Act.eval,Act.put]) (by simp[Act.eval,Act.put]) iC.out.drew (tcs (l.drop i)) (by rw[iQ.out];exact lM.out) (fun _=>⟨_,rfl,jy.out⟩) qB.out (tcs_oneY fun t ht=>H1.out t (List.mem_of_mem_drop ht)) ?_;intro w4 eM eW)
 obtain⟨iV,ed⟩:=hZ2 eM eW;have Ai:∀j u,(Lv x)[j]? =some u→w4.cell? ((⟨vb,0,none⟩:Addr).add j)=some u:=fun j u hu=>(eW.cell (a:=(⟨vb,0,none⟩:Addr).add j) (HV.out j u hu) (by rw[Addr.add_lit];intro e;injection e with e;exact DH.out e))
 have DI:=qid Ai;have gZ:Nat.min 1 (n1-i)=1:=Nat.min_eq_left (by have:=HI.out;have:=cu.out;omega)
 have nL:=qid gZ;have oz:i*2+(Lv x).length≤n1*2:=by show i*2+2≤n1*2;have:=HI.out;have:=cu.out;omega
 have uE:=qid oz;clear eM eW Ai gZ oz;go_wp2_with (refine Ht rfl _ _ 22 22 rfl i30 bE bQ bR _ _ _ _ _ _ rfl rfl iV.out (Lv x) (by rw[nL.out];rfl) (fun _=>⟨_,rfl,DI.out⟩) uE.out (KV x bX.out) ?_;intro w5 Aj jt)
 have uF:=qid jt;have sI:EQ B w5 (.slice (some ⟨g,0,none⟩) n1 cap) R:=by
  refine EQ.of Aj o7.out ?_;have e1:tcs l=tcs (l.take i)++tcs (l.drop i):=by rw[←ip,List.take_append_drop]
  have e2:i1*2=i*2+2:=by have:=aQ.out;omega
  rw[e1,e2,OK (tcs (l.take i)) (tcs (l.drop i)) ys (Lv x) (i*2) 2 (by rw[It,List.length_take];have:=HI.out;omega) (by rw[DG.out];have:=cu.out;omega) rfl,←HR.out,ip,show x::l.drop i=[x]++l.drop i from rfl,ip,Jy,List.append_assoc]
 have yE:=qid sI;clear Aj jt sI;go_wp2;go_ret;exact⟨some ⟨g,0,none⟩,cap,rfl,yE.out,⟨uF.out.os.trans ed.out.os,uF.out.tape.trans ed.out.tape,uF.out.output.trans ed.out.output,Nat.le_trans ed.out.size uF.out.size,fun k hk hn=>(uF.out.block k (Nat.lt_of_lt_of_le hk ed.out.size) hn).trans (ed.out.block k hk hn)⟩,fun q hq=>.inl hq⟩
theorem IE{α:Type}(A Z X:List α)(k:Nat)(hk:A.length=k)(h:X.length≤Z.length):splice (A++Z) k X=A++X++Z.drop X.length:=by
 subst hk;unfold splice;rw[List.take_left,List.drop_append,List.drop_of_length_le (by omega:A.length≤A.length+X.length),List.nil_append,←List.append_assoc]
 congr 2
 omega
theorem Jz{α:Type}(A Z X Y:List α)(k m:Nat)(hk:A.length=k)(hm:k+X.length=m)(hz:Z.length=X.length+Y.length):splice (splice (A++Z) k X) m Y=A++(X++Y):=by
 rw[IE A Z X k hk (by omega)]
 have h2:(A++X).length=m:=by rw[List.length_append];omega
 have h3:(Z.drop X.length).length=Y.length:=by rw[List.length_drop];omega
 rw[IE (A++X) (Z.drop X.length) Y m h2 (by omega),List.drop_of_length_le (by omega),List.append_nil,List.append_assoc]
theorem US(B g:Nat)(l:List Tv)(i:Nat)(x:Tv)(vb:Nat)(w:World)(h:EQ B w (.slice (some ⟨g,0,none⟩) l.length l.length) l)(hv:SL.Bk w vb 55 #[.string x.1,x.2.1])(hi:i<l.length)(h1:∀t∈l,t.2.1.oneCell'=true)(ct:x.2.1.oneCell'=true)(hl:l.length≤1000000)(hB:B≤w.heap.size):
  Calls Tryz.prog 68 #[.slice (some ⟨g,0,none⟩) l.length l.length,.int .i64 (i:Int),.slice (some ⟨vb,0,none⟩) 1 1] w (MA B (some g) (l.take i++x::l.drop i) w):=by
 obtain⟨H1,bX⟩:=hZ2 h1 ct;clear h1 ct;obtain⟨i30,bQ,cS,bR,cY⟩:=OX;have bE:=I8;obtain⟨HO,HB,HL⟩:=hZ3 h hB hl;have ks:=qid (h.lt g rfl).2;have yC:=qid hv.lt;have HV:=qid (Tg hv);obtain⟨R,hR⟩:∃R,l.take i++x::l.drop i=R:=⟨_,rfl⟩;obtain⟨n1,dj⟩:∃n1,l.length+1=n1:=⟨_,rfl⟩;have fw:R.length=n1:=by rw[←hR,Lw l i x (by omega)];exact dj
 obtain⟨HR,o7,cu,dM⟩:=hZ4 hR fw dj hi;rw[hR];unfold MA;rw[fw];have l0:(0:Int)≤(i:Int):=by omega
 have l1:(i:Int)≤(l.length:Int):=by omega
 have wk:IntKind.i64.wrap ((l.length:Int)+1)=(n1:Int):=by rw[show(l.length:Int)+1=(n1:Int) by omega];exact IntWalk.i64_in _ (by omega)
 obtain⟨k,hk⟩:∃k,n1-i=k:=⟨_,rfl⟩;have HK:=qid hk;have sJ:IntKind.i64.wrap ((n1:Int)-(i:Int))=(k:Int):=by rw[show(n1:Int)-(i:Int)=(k:Int) by omega];exact IntWalk.i64_in _ (by omega)
 have l2:¬((i:Int)=(l.length:Int)):=by omega
 have l3:(l.length:Int)<(n1:Int):=by omega
 have l4:¬(l.length=i):=by omega
 obtain⟨i1,aN⟩:∃i1,i+1=i1:=⟨_,rfl⟩;have aQ:=qid aN;have yD:IntKind.i64.wrap ((i:Int)+1)=(i1:Int):=by rw[show(i:Int)+1=(i1:Int) by omega];exact IntWalk.i64_in _ (by omega)
 have uG:(i+k)*40≤140737488355328:=by omega
 obtain⟨c,w1,dK,aE,eB⟩:=RW.run_app_zeros (P:=Tryz.prog) (w:=w) (B:=B) (z:=2) (e:=55) 22 3 22 i30 #[.string ByteArray.empty,.slice none 0 0] 40 .i64 .i64 bE Tryz.underlying3 bQ cS rfl (by omega) bR cY
  (some ⟨g,0,none⟩) i l.length (tcs (l.take i)) (by rw[It,List.length_take];omega) (fun _=>⟨_,rfl,fun j v hj=>by
   rw[Xf,List.getElem?_take]at hj
   split at hj
   ·have:=World.ownsRow.cells HO.out (g:=g) rfl j v hj
    exact this
   ·cases hj⟩) k (by omega) (by omega) HB.out uG (by unfold maxLen;omega)
 have fV:i+k=n1:=by omega
 rw[fV]at dK aE;have bn:n1≤c:=by
  rcases aE.2 with⟨h',_⟩|⟨g',jm,cur,h',_,_,ns,_⟩
  ·cases h'
  ·injection h' with _ _ h';omega
 have l5:(n1:Int)≤(c:Int):=by omega
 have l6:¬(c=i):=by omega
 have l7:¬(c=i1):=by omega
 have l8:(i:Int)≤(n1:Int):=by omega
 have l9:(i1:Int)≤(n1:Int):=by omega
 have l10:(0:Int)≤(i1:Int):=by omega
 obtain⟨qC,HC,iC,iD⟩:=hZ4 fV bn aE eB;have HX:Hid (∀j u,(Lv x)[j]? =some u→w1.cell? ((⟨vb,0,none⟩:Addr).add j)=some u):=qid fun j u hu=>eB.cell (a:=(⟨vb,0,none⟩:Addr).add j) (HV.out j u hu) (by simp)
 clear h hv hi hl hB hR dj fw hk aN aE eB fV bn uG;obtain⟨H,hH⟩:∃H,w.heap.size=H:=⟨_,rfl⟩;have HH:=qid hH;rw[hH]at dK iC;clear hH;go_enter Tryz.func68,Tryz.ntmps68;go_wp2_with (first
  |(at_builtin;refine Lib.wpList_append_run _ rfl _ _ _ _ rfl _ _ rfl rfl _ _ dK ?_)
  |(refine Ht rfl _ _ 22 22 rfl i30 bE bQ bR _ _ _ _ _ _ rfl rfl iC.out (Lv x) ?d1 ?d2 ?d3 (KV x bX.out) ?_))
 case d1=>
  have:=dM.out;have:=cu.out;rw[show Nat.min 1 (n1-i)=1 from Nat.min_eq_left (by omega)];rfl
 case d2=>first
  |exact fun _=>⟨_,rfl,HX.out⟩
  |(intro j v hj;have h9:=HX.out j v hj;rw[Addr.add_lit,Nat.zero_add]at h9;exact h9)
  |(intro _ j v hj;have h9:=HX.out j v hj;rw[Addr.add_lit,Nat.zero_add]at h9;exact h9)
 case d3=>
  have:=dM.out;have:=cu.out;show i*2+2≤n1*2;omega
 intro w3 jC ez;have gZ:Nat.min 1 (n1-i)=1:=Nat.min_eq_left (by have:=dM.out;have:=cu.out;omega)
 have i':Nat.min (l.length-i) (n1-i1)=l.length-i:=Nat.min_eq_left (by have:=dM.out;have:=cu.out;have:=aQ.out;omega)
 have jx:(tcs (l.drop i)).length=(l.length-i)*2:=by rw[It,List.length_drop]
 have dw:∀j v,(tcs (l.drop i))[j]? =some v→w3.cell? ((⟨g,i*2,none⟩:Addr).add j)=some v:=by
  intro j v hj;rw[PX,List.getElem?_drop]at hj;have h1:=World.ownsRow.cells HO.out (g:=g) rfl (i*2+j) v hj;rw[Addr.add_lit,Nat.zero_add]at h1;rw[Addr.add_lit];have b7:g≠H:=by have:=ks.out;have:=HH.out;omega
  exact ez.cell (a:=⟨g,i*2+j,none⟩) (iD.out.cell (a:=⟨g,i*2+j,none⟩) h1 (by simp)) (fun e=>b7 (by injection e))
 have eh:i1*2+(tcs (l.drop i)).length≤n1*2:=by rw[jx];have:=dM.out;have:=cu.out;have:=aQ.out;omega
 obtain⟨qB,jy,dt,gM,iQ,lM⟩:=hZ6 eh dw jC ez i' jx;clear dw jC ez i' jx eh;rw[gZ];clear gZ;go_wp2_with fail
 go_region_law (refine JE rfl _ _ 22 22 rfl i30 bE bQ bR (i1*2) (n1-i1) (c-i1) (some ⟨g,i*2,none⟩) (l.length-i) (l.length-i) (by simp[Act.eval,Act.put]) (by simp[Act.eval,Act.put]) dt.out.drew (tcs (l.drop i)) (by rw[iQ.out];exact lM.out) (fun _=>⟨_,rfl,jy.out⟩) qB.out (tcs_oneY fun t ht=>H1.out t (List.mem_of_mem_drop ht)) ?_;intro w4 eM eW)
 obtain⟨iV,ed⟩:=hZ2 eM eW;clear eM eW;go_wp2;go_ret;have hO:EQ B w4 (.slice (some ⟨H,0,none⟩) n1 c) R:=by
  refine EQ.of iV.out o7.out ?_;rw[Jz _ _ _ _ _ _ (by rw[It,List.length_take,Nat.min_eq_left (Nat.le_of_lt dM.out)]) (by have:=aQ.out;show i*2+2=i1*2;omega) (by rw[RW.fz_len (z:=2) (RW.Uni.rep rfl),List.length_replicate,lM.out];have:=qC.out;have:=cu.out;have:=dM.out;show k*2=2+_;omega),←HR.out,ip,show x::l.drop i=[x]++l.drop i from rfl,ip,Jy]
 have hG:w.grownBy w4 (some g):=by
  have g1:=iD.out;have bH:=HH.out;refine⟨ed.out.os.trans (gM.out.os.trans g1.os),ed.out.tape.trans (gM.out.tape.trans g1.tape),ed.out.output.trans (gM.out.output.trans g1.output),Nat.le_trans g1.size (Nat.le_trans gM.out.size ed.out.size),fun q hq _=>?_⟩
  have p4:some q≠some H:=fun e=>by injection e with e;omega
  have h1:=g1.size;exact(ed.out.block q (Nat.lt_of_lt_of_le hq (Nat.le_trans h1 gM.out.size)) p4).trans ((gM.out.block q (Nat.lt_of_lt_of_le hq h1) p4).trans (g1.block q hq (by simp)))
 exact⟨some ⟨H,0,none⟩,c,rfl,hO,hG,fun q hq=>.inr (by have gG:H=q:=(by injection hq);have:=HH.out;omega)⟩
theorem einsert_any(B:Nat)(v:Value)(l:List Tv)(i:Nat)(x:Tv)(vb:Nat)(w:World)(h:EQ B w v l)(hv:SL.Bk w vb 55 #[.string x.1,x.2.1])(uD:∀q,v.ownBlock=some q→vb≠q)(hi:i≤l.length)(h1:∀t∈l,t.2.1.oneCell'=true)(ct:x.2.1.oneCell'=true)(hl:l.length≤1000000)(hB:B≤w.heap.size):
  Calls Tryz.prog 68 #[v,.int .i64 (i:Int),.slice (some ⟨vb,0,none⟩) 1 1] w (MA B v.ownBlock (l.take i++x::l.drop i) w):=by
 by_cases he:i=l.length
 ·subst he
  rw[List.take_of_length_le (Nat.le_refl _),List.drop_of_length_le (Nat.le_refl _)];exact WV B v l x vb w h hv h1 ct hl hB
 ·rcases h.inv with⟨rfl,rfl⟩|⟨g,cap,rfl,bn,Ah,sH,cx⟩
  ·simp at hi he;omega
  ·by_cases hc:l.length+1≤cap
   ·exact Rq B g cap l i x vb w h hv (uD g rfl) (by omega) hc h1 ct hl
   ·have:cap=l.length:=by omega
    subst this;exact US B g l i x vb w h hv (by omega) h1 ct hl hB
end Go.Proofs.YtpgddamhdfmdjaaGreatDoor.TT
namespace Go.Proofs.YtpgddamhdfmdjaaGreatDoor
open Go.ChangeShapes Go.WideShapes Go.ChangeAt Go.RowKit
def TX(w:World)(v:Value)(X:List Tv):Prop:=(X=[]∧∃a c,v=.slice a 0 c)∨∃g off cap,v=.slice (some ⟨g,off,none⟩) X.length cap∧∀(i:Nat) (t:Tv),X[i]? =some t→w.cell? ⟨g,off+i*2,none⟩=some (.string t.1)∧w.cell? ⟨g,off+i*2+1,none⟩=some t.2.1
theorem SQ.tx{w:World}{v:Value}{s:List Tb}(h:SQ w v s):∃X:List Tv,tbs X=s∧TX w v X∧∀t∈X,RQ w t.2.1 t.2.2:=by
 by_cases hp:0<s.length
 ·obtain⟨g,off,cap,rfl,hc,X,hX,hx⟩:=h.tv hp
  refine⟨X,hX,.inr ⟨g,off,cap,by rw[←hX,mt],fun i t hi=>⟨(hx i t hi).1,(hx i t hi).2.1⟩⟩,fun t ht=>?_⟩
  obtain⟨i,hi⟩:=List.getElem?_of_mem ht;exact(hx i t hi).2.2
 ·have hs:s=[]:=List.eq_nil_of_length_eq_zero (by omega)
  subst hs;obtain⟨a,c,rfl⟩:=h.form;exact⟨[],rfl,.inl ⟨rfl,a,c,rfl⟩,fun t ht=>by simp at ht⟩
theorem TX.ones{w:World}{X:List Tv}(h:∀t∈X,RQ w t.2.1 t.2.2):∀t∈X,t.2.1.oneCell'=true:=fun t ht=>(h t ht).one
theorem OL(v:Value)(X:List Tv)(w:World)(h:TX w v X)(h1:∀t∈X,t.2.1.oneCell'=true)(hl:X.length≤1000000):
  Calls Tryz.prog 64 #[v] w fun e w'=>∃v',e=.returned v'∧TT.EQ w.heap.size w' v' X∧Below w.heap.size w w':=by
 obtain⟨i30,bQ,cS,bR,cY⟩:=OX;have Fo:∀(w:World) (a:Option Addr) (n c n' c':Nat),(binOp .eql 22 (.slice a n c) (.slice none n' c')).run Tryz.prog w=.ok (.bool a.isNone) w:=fun w a n c n' c'=>Lib.run_eql_slice_nil w _ _ a n c n' c' I8
 have jz:(∃c,v=.slice none 0 c∧X=[])∨∃ad c,v=.slice (some ad) X.length c∧∀j u,(tcs X)[j]? =some u→w.cell? (ad.add j)=some u:=by
  rcases h with⟨rfl,A,cap,rfl⟩|⟨g,off,cap,rfl,hx⟩
  ·cases A with
   |none=>exact .inl ⟨_,rfl,rfl⟩
   |some ad=>exact .inr ⟨ad,_,rfl,fun j u hj=>by simp[tcs,fl]at hj⟩
  ·refine .inr ⟨_,_,rfl,fun j u hj=>?_⟩
   obtain⟨i,p,hp,hq⟩:=MD _ j u hj;rw[List.getElem?_map]at hp
   cases hX:X[i]? with
   |none=>rw[hX]at hp;cases hp
   |some t=>
    rw[hX]at hp;injection hp with hp;subst hp;obtain⟨c0,c1⟩:=hx i t hX;rw[Addr.add_lit];rcases hq with⟨rfl,rfl⟩|⟨rfl,rfl⟩
    ·exact c0
    ·rw[←Nat.add_assoc];exact c1
 clear h;rcases jz with⟨c,rfl,rfl⟩|⟨ad,c,rfl,hc⟩
 ·go_enter Tryz.func64,Tryz.ntmps64
  go_wp2;go_ret;exact⟨_,rfl,World.ownsRow_nil _ _ _ _,Below.refl _ _⟩
 ·have HC:=qid hc
  have H1:=qid h1;clear hc h1;go_enter Tryz.func64,Tryz.ntmps64;go_wp2_with (at_builtin;refine wpList_append_own _ rfl _ _ 22 rfl w.heap.size 55 i30 (.agg #[.string ByteArray.empty,.slice none 0 0]) 2 40 I8 bQ cS bR cY rfl (by decide) _ _ _ rfl (World.ownsRow_made w #[] 0 (Nat.le_refl _) (Nat.zero_le _) (by simp)) ad X.length c (tcs X) rfl ?qc1 ?qc2 ?qc3 ?qc4 ?qc5 ?qc6 ?_)
  case qc1=>exact It X
  case qc2=>
   intro j u hj;exact Lib.cell?_alloc_some _ (HC.out j u hj)
  case qc3=>exact TT.tcs_oneY H1.out
  case qc4=>unfold maxLen;omega
  case qc5=>omega
  case qc6=>simp
  intro v' w1 aE aj ji;go_wp2;go_ret;refine⟨v',rfl,by simpa[TT.EQ]using aE,?_⟩
  exact((Below.refl _ w).alloc (Nat.le_refl _) _).grown aj (by simp) (by intro k hk;simp[Value.ownBlock]at hk;omega)
end Go.Proofs.YtpgddamhdfmdjaaGreatDoor
namespace Go.Proofs.YtpgddamhdfmdjaaGreatDoor
open Go.ChangeShapes Go.WideShapes Go.ChangeAt Go.RowKit Go.Deep
theorem PM(n:ByteArray)(u:Value)(m:ByteArray)(w:World):Calls Tryz.prog 66 #[.agg #[.string n,u],.string m] w fun e w'=>e=.returned (.int .i64 (Lib.compareBytes n.data.toList m.data.toList))∧Below w.heap.size w w':=by
 have HC:=qid (fun W=>Tryz.strings_Compare n m W)
 have HB:=qid ((Below.refl w.heap.size w).alloc (Nat.le_refl _) (.cells #[.string n,u] 55));go_enter Tryz.func66,Tryz.ntmps66;go_wp2_with (go_at_call 67;(refine(HC.out _).mono ?_);rintro e w2 ⟨rfl,hw⟩;obtain rfl:=hw);go_ret;exact⟨rfl,HB.out⟩
theorem PN(v:Value)(l:List Tb)(k:ByteArray)(w:World)(h:SR w v l)(hm:PZ (ltN k) l)(hl:l.length≤1000000):
  Calls Tryz.prog 65 #[v,.string k,.func (.func 66) #[] #[]] w fun e w'=>e=.returned (.tuple #[.int .i64 (oR l k:Nat),.bool (IR l k)])∧Below w.heap.size w w':=by
 obtain⟨R,hR⟩:∃R,oR l k=R:=⟨_,rfl⟩;obtain⟨F,hF⟩:∃F,IR l k=F:=⟨_,rfl⟩;rw[hR,hF];obtain⟨a,cap,rfl⟩:=h.form;obtain⟨HH,HM,HR,HF⟩:=hZ4 h hm hR hF;clear h hm hR hF;have fC:∀args w,(callFunc 66 args).run Tryz.prog w=.ok (.enter 66 args) w:=fun args w=>by show Sem.run Tryz.prog (callFunc 66 args) w=_;go_simp
 go_enter Tryz.func65,Tryz.ntmps65;go_wp2
 go_loopg [9,10] l.length (fun gk u9 iW wx=>∃lo hi:Nat,u9=.int .i64 (lo:Int)∧iW=.int .i64 (hi:Int)∧lo≤hi∧hi≤l.length∧hi-lo≤gk∧Hid (Below w.heap.size w wx)∧Hid ((∀(t:Nat) (x:Tb),t<lo→l[t]? =some x→ltN k x=true)∧(∀(t:Nat) (x:Tb),hi≤t→l[t]? =some x→ltN k x=false)))
 case atStart=>exact⟨0,l.length,rfl,rfl,Nat.zero_le _,Nat.le_refl _,by omega,Below.refl _ _,⟨fun t x ht=>absurd ht (Nat.not_lt_zero _),fun t x h1 h2=>by have:=(List.getElem?_eq_some_iff.1 h2).1;omega⟩⟩
 case round=>
  obtain⟨lo,hi,rfl,rfl,Ak,eO,hg,HB,I⟩:=hrel
  by_cases aD:lo<hi
  ·obtain⟨m,jD⟩:∃m,(lo+hi) / 2=m:=⟨_,rfl⟩
   have ja:m<l.length:=by omega
   have dP:=HH.out.below HB.out;obtain⟨b,o,cp,he,cL,hx⟩:=dP.inv (by omega)
   injection he with ea _ ec;subst ea ec;obtain⟨r,bJ⟩:∃r,l[m]=r:=⟨_,rfl⟩;have gN:l[m]? =some r:=by rw[List.getElem?_eq_getElem ja,bJ]
   obtain⟨x0,u,x1,hu⟩:=hx m r gN;have wm:((lo:Int)+(hi:Int)) / 2=(m:Int):=by omega
   obtain⟨iQ,ej⟩:=hZ2 gN jD;have l0:(0:Int)≤(m:Int):=by omega
   have l1:(m:Int)<(l.length:Int):=by omega
   obtain⟨r0,r1⟩:=r;have HC:=qid (PM r0 u k wr);obtain⟨m1,gZ⟩:∃m1,m+1=m1:=⟨_,rfl⟩;have wk:IntKind.i64.wrap ((m:Int)+1)=(m1:Int):=by rw[show(m:Int)+1=(m1:Int) by omega];exact IntWalk.i64_in _ (by omega)
   have nL:=qid gZ;clear hu hx gN dP jD bJ ja gZ
   by_cases hc:r0.data.toList<k.data.toList
   ·have hq:=(LC _ _).1 hc
    rw[hq]at HC;have qD:=qid hc;clear hc hq;go_wp2_with (go_at_call 66;(refine HC.out.mono ?_);rintro e w2 ⟨rfl,aA⟩;have aL:=qid aA;clear aA);go_roundg (hi-m1)
    case measure=>have:=ej.out;have:=nL.out;omega
    case rel=>
     have e1:=ej.out;have e2:=nL.out;refine⟨m1,hi,rfl,rfl,by omega,eO,by omega,HB.out.trans (aL.out.mono HB.out.size),fun t x ht hx=>?_,I.out.2⟩
     exact HM.out t m x _ (by omega) hx iQ.out (decide_eq_true qD.out)
   ·have hq:Lib.compareBytes r0.data.toList k.data.toList=0∨Lib.compareBytes r0.data.toList k.data.toList=1:=by
     rcases Decidable.em (r0.data.toList=k.data.toList)with h|h
     ·exact .inl ((LC _ _).2.1 h)
     ·exact .inr ((LC _ _).2.2 (LA _ _ hc h))
    have yF:Hid (¬(r0.data.toList<k.data.toList)):=qid hc;clear hc;rcases hq with hq|hq
    all_goals
     rw[hq]at HC;clear hq;go_wp2_with (go_at_call 66;(refine HC.out.mono ?_);rintro e w2 ⟨rfl,aA⟩;have aL:=qid aA;clear aA);go_roundg (m-lo)
     case measure=>have:=ej.out;omega
     case rel=>
      have e1:=ej.out;refine⟨lo,m,rfl,rfl,by omega,by omega,Nat.le_refl _,HB.out.trans (aL.out.mono HB.out.size),I.out.1,fun t x ht hx=>?_⟩
      cases hp:ltN k x with
      |false=>rfl
      |true=>
       have:=HM.out m t _ x ht iQ.out hx hp;exact absurd (of_decide_eq_true this) yF.out
  ·obtain rfl:hi=lo:=by omega
   have uH:R=hi:=by
    rw[←HR.out];exact Jd (ltN k) l hi eO I.out.1 (fun x hx=>I.out.2 hi x (Nat.le_refl _) hx)
   subst uH
   by_cases hn:R<l.length
   ·have dP:=HH.out.below HB.out
    obtain⟨b,o,cp,he,cL,hx⟩:=dP.inv (by omega)
    injection he with ea _ ec;subst ea ec;obtain⟨r,bJ⟩:∃r,l[R]=r:=⟨_,rfl⟩;have gN:l[R]? =some r:=by rw[List.getElem?_eq_getElem hn,bJ]
    obtain⟨x0,u,x1,hu⟩:=hx R r gN;have hf:F=decide (r.1.data.toList=k.data.toList):=by
     rw[←HF.out];unfold IR;rw[HR.out,gN]
    obtain⟨r0,r1⟩:=r;have HC:=qid (fun W=>PM r0 u k W)
    clear hu hx gN dP bJ;simp only at hf;have l0:(0:Int)≤(R:Int):=by omega
    have l1:(R:Int)<(l.length:Int):=by omega
    by_cases hc:r0.data.toList=k.data.toList
    ·have hq:=(LC _ _).2.1 hc
     rw[hq]at HC;have jE:F=true:=by rw[hf];exact decide_eq_true hc
     subst jE;clear hc hq hf;go_wp2_with (go_at_call 66;(refine(HC.out _).mono ?_);rintro e w2 ⟨rfl,aA⟩;have aL:=qid (HB.out.trans (aA.mono HB.out.size));clear aA)
     go_ret2
     exact⟨rfl,aL.out⟩
    ·have hq:Lib.compareBytes r0.data.toList k.data.toList= -1∨Lib.compareBytes r0.data.toList k.data.toList=1:=by
      rcases Decidable.em (r0.data.toList<k.data.toList)with h|h
      ·exact .inl ((LC _ _).1 h)
      ·exact .inr ((LC _ _).2.2 (LA _ _ h hc))
     have jE:F=false:=by rw[hf];exact decide_eq_false hc
     subst jE;clear hc hf;rcases hq with hq|hq
     all_goals
      rw[hq]at HC;clear hq;go_wp2_with (go_at_call 66;(refine(HC.out _).mono ?_);rintro e w2 ⟨rfl,aA⟩;have aL:=qid (HB.out.trans (aA.mono HB.out.size));clear aA)
      go_ret2
      exact⟨rfl,aL.out⟩
   ·have jE:F=false:=by
     rw[←HF.out];unfold IR;rw[HR.out,List.getElem?_eq_none (by omega)]
    subst jE;go_wp2
    go_ret2
    exact⟨rfl,HB.out⟩
theorem qbB:∃j,Tryz.prog.info? 62=some j:=Option.isSome_iff_exists.1 (by kernel_rfl)
theorem UT(w:World)(a:Addr):(binOp .eql 26 (.pointer (some a)) (.pointer (some a))).run Tryz.prog w=.ok (.bool true) w:=by
 obtain⟨j,hj⟩:=qbB;exact run_eql_ptr_same (P:=Tryz.prog) w a Tryz.underlying26 hj
theorem d9(w:World)(g:Nat)(h:w.cell? ⟨g,0,none⟩=some (SL.ptr g)):
  Calls Tryz.prog 29 #[SL.ptr g] w fun e w'=>e=.returned (.bool true)∧w=w':=by
 have he:=fun w=>UT w ⟨g,0,none⟩
 go_enter Tryz.func29,Tryz.ntmps29;go_wp2;go_ret;exact⟨rfl,rfl⟩
theorem GT(id:Int)(w:World):Calls Tryz.prog 31 #[.int .i64 id] w fun e w'=>e=.returned (.bool (isS id))∧w=w':=by
 by_cases h0:0≤id
 ·by_cases h1:id≤1000
  ·have e:isS id=true:=by unfold isS;simp[h0,h1]
   rw[e];clear e;go_enter Tryz.func31,Tryz.ntmps31;go_wp2;go_ret;exact⟨by simp[h0,h1],rfl⟩
  ·have e:isS id=false:=by unfold isS;simp[h1]
   rw[e];clear e;go_enter Tryz.func31,Tryz.ntmps31;go_wp2;go_ret;exact⟨by simp[h0,h1],rfl⟩
 ·have e:isS id=false:=by unfold isS;simp[h0]
  rw[e];clear e;go_enter Tryz.func31,Tryz.ntmps31;go_wp2;go_ret;exact⟨by simp[h0],rfl⟩
def qcv(B:Nat)(v:Value)(S:List Tb)(w:World)(e:Ending)(w':World):Prop:=∃g C,e=.returned (SL.ptr g)∧CD B w' g 0 C (S,fun _=>none)∧(∀b,C.own g b→w.heap.size≤b)∧C.vs=v∧(∀i,C.G i=none)∧Below w.heap.size w w'
theorem NS(B:Nat)(v:Value)(S:List Tb)(w:World)(h:SQ w v S)(hB:B≤w.heap.size):
  Calls Tryz.prog 25 #[v] w (qcv B v S w):=by
 have pc:=@run_makeMap Tryz.prog;obtain⟨a,c,rfl⟩:=h.form;obtain⟨HV,HB⟩:=hZ2 h hB;clear h hB;obtain⟨W1,cF⟩:∃W,w.alloc (.map #[] 0)=W:=⟨_,rfl⟩;have m1:MV.MapV Tryz.prog 3 W1 w.heap.size 0 (fun _=>none):=by rw[←cF];exact MV.MapV.made _ _ w
 have b1:Below w.heap.size w W1:=by rw[←cF];exact(Below.refl _ _).alloc (Nat.le_refl _) _
 have s1:W1.heap.size=w.heap.size+1:=by rw[←cF];simp
 obtain⟨W2,dY⟩:∃W,W1.alloc (.cells #[.pointer none,.slice a S.length c,.map (some w.heap.size)] 62)=W:=⟨_,rfl⟩;have k2:SL.Bk W2 W1.heap.size 62 #[.pointer none,.slice a S.length c,.map (some w.heap.size)]:=by rw[←dY];exact SL.Bk.new _ _ _
 have b2:Below W1.heap.size W1 W2:=by rw[←dY];exact(Below.refl _ _).alloc (Nat.le_refl _) _
 obtain⟨g,hg⟩:∃g,W1.heap.size=g:=⟨_,rfl⟩;obtain⟨M1,B1,S1,K2,B2,G⟩:=hZ6 m1 b1 s1 k2 b2 hg;have f0:W2.frozen? ⟨g,0,none⟩=false:=by rw[←hg];exact k2.frozen 0
 have c0:W2.cell? ⟨g,0,none⟩=some (.pointer none):=by rw[←hg];exact k2.cell 0
 clear m1 b1 s1 k2 b2;go_enter Tryz.func25,Tryz.ntmps25;go_wp2_with fail
 try rw[cF]
 try rw[hg]
 try rw[dY]
 clear cF dY hg;go_wp2;go_ret;have ot:=G.out;have az:=S1.out;have k3:SL.Bk (W2.setCell ⟨g,0,none⟩ (SL.ptr g)) g 62 #[SL.ptr g,.slice a S.length c,.map (some w.heap.size)]:=by
  have:=K2.out.set_ 0 (SL.ptr W1.heap.size);rw[ot]at this;exact this
 have b3:Below w.heap.size w (W2.setCell ⟨g,0,none⟩ (SL.ptr g)):=(B1.out.trans (B2.out.mono B1.out.size)).setCell (p:=⟨g,0,none⟩) (by show w.heap.size≤g;omega) _
 have m3:MV.MapV Tryz.prog 3 (W2.setCell ⟨g,0,none⟩ (SL.ptr g)) w.heap.size 0 (fun _=>none):=(M1.out.below B2.out).keep (Below.heap_setCell _ _ _ _ (by show w.heap.size≠g;omega))
 refine⟨g,⟨w.heap.size,.slice a S.length c,fun _=>none⟩,rfl,⟨k3,HV.out.bel b3,m3.congr fun kl=>?_,fun i p hp=>(by cases hp),fun i _=>rfl,fun i j p q hp=>(by cases hp),fun i p hp=>(by cases hp),fun b hb=>?_⟩,fun b hb=>?_,rfl,fun _=>rfl,b3⟩
 ·unfold gF MV.fI
  cases kl with
  |int q n=>cases q<;>rfl
  |_=>rfl
 ·have:=HB.out
  rcases hb with rfl|rfl|⟨i,p,hp,_⟩
  ·omega
  ·exact this
  ·cases hp
 ·rcases hb with rfl|rfl|⟨i,p,hp,_⟩
  ·omega
  ·exact Nat.le_refl _
  ·cases hp
theorem Zu(w:World):(zeroValue 65).run Tryz.prog w=.ok (.pointer none) w:=by
 have h:(Tryz.prog.info? 65).bind (fun i=>i.zero)=some (.pointer none):=by kernel_rfl
 cases hi:Tryz.prog.info? 65 with
 |none=>rw[hi]at h;cases h
 |some j=>
  rw[hi]at h;simp[zeroValue,typeInfo,hi,show j.zero=some (.pointer none)from h]
theorem Kh{B:Nat}{w:World}{g n:Nat}{C:Cdb}{D:Dbp}(h:CD B w g n C D)(id:Int)(hi:I9 id):
  (Instr.lookup 60 (.map (some C.mb)) (.int .i64 id) true).run Tryz.prog w=.ok (.tuple #[((C.G id).map fun p=>SL.ptr p.1).getD (.pointer none),.bool (C.G id).isSome]) w:=by
 have:=h.mp.look M4 Tryz.underlying60 (Zu w) (Oa id hi);rw[this];simp only[gF,MV.fI,Option.isSome_map]
theorem PO(B:Nat)(w:World)(g n:Nat)(C:Cdb)(D:Dbp)(h:CD B w g n C D)(id:Int)(hi:I9 id):
  Calls Tryz.prog 44 #[SL.ptr g,.int .i64 id] w fun e w'=>e=.returned (.map ((C.G id).map (·.2)))∧w=w':=by
 obtain⟨c0,c1,c2⟩:=h.cells;have hl:=Kh h id hi;rcases h.at_ id with⟨hg,_⟩|⟨p,q,hg,_,hk,_⟩
 ·rw[hg]at hl⊢
  clear h c0 c1;simp only[Option.map_none,Option.getD_none,Option.isSome_none]at hl⊢;go_enter Tryz.func44,Tryz.ntmps44;go_wp2;go_ret;exact⟨rfl,rfl⟩
 ·rw[hg]at hl⊢
  have k1:w.cell? ⟨p.1,1,none⟩=some (.map (some p.2)):=hk.cell 1;clear h c0 c1 hk;simp only[Option.map_some,Option.getD_some,Option.isSome_some]at hl⊢;go_enter Tryz.func44,Tryz.ntmps44;go_wp2;go_ret;exact⟨rfl,rfl⟩
theorem qbC(b:Bool)(T:List Tb):(if b=true then(69:Int)else 84)=stO (some (b,T)):=by cases b<;>rfl
theorem ol(B:Nat)(w:World)(g n:Nat)(C:Cdb)(D:Dbp)(h:CD B w g n C D)(id:Int)(hi:I9 id)(R:Int)(hR:dg D id=R):
  Calls Tryz.prog 16 #[SL.ptr g,.int .i64 id] w fun e w'=>e=.returned (.int .u8 R)∧w=w':=by
 obtain⟨c0,c1,c2⟩:=h.cells;have hl:=Kh h id hi;unfold dg at hR
 cases hs:isS id with
 |false=>
  rw[hs]at hR;simp only[Bool.false_eq_true,if_false]at hR;subst hR;have HI:=qid (GT id w);rw[hs]at HI;have HG:=qid (d9 w g c0);clear h hl c1 c2 hs hi;go_enter Tryz.func16,Tryz.ntmps16;go_wp2_with fail;refine HG.out.mono ?_;rintro e w' ⟨rfl,rfl⟩;go_wp2_with fail;refine HI.out.mono ?_;rintro e w' ⟨rfl,rfl⟩;go_wp2;go_ret;exact⟨rfl,rfl⟩
 |true=>
  rw[hs]at hR;simp only[if_true]at hR;have HI:=qid (GT id w);rw[hs]at HI;have HG:=qid (d9 w g c0);rcases h.at_ id with⟨hg,hd⟩|⟨p,q,hg,hd,hk,_⟩
  ·rw[hg]at hl
   rw[hd]at hR;have dC:R=73:=hR.symm;subst dC;clear h c0 c1 hs hi hR;simp only[Option.map_none,Option.getD_none,Option.isSome_none]at hl;go_enter Tryz.func16,Tryz.ntmps16;go_wp2_with fail;refine HG.out.mono ?_;rintro e w' ⟨rfl,rfl⟩;go_wp2_with fail;refine HI.out.mono ?_;rintro e w' ⟨rfl,rfl⟩;go_wp2;go_ret;exact⟨rfl,rfl⟩
  ·rw[hg]at hl
   have k0:w.cell? ⟨p.1,0,none⟩=some (.int .u8 R):=by
    have:=hk.cell 0;rw[this,←hR,hd,←qbC q.1 q.2];rfl
   clear h c0 c1 hs hi hR hk hd;simp only[Option.map_some,Option.getD_some,Option.isSome_some]at hl;go_enter Tryz.func16,Tryz.ntmps16;go_wp2_with fail;refine HG.out.mono ?_;rintro e w' ⟨rfl,rfl⟩;go_wp2_with fail;refine HI.out.mono ?_;rintro e w' ⟨rfl,rfl⟩;go_wp2;go_ret;exact⟨rfl,rfl⟩
def H7(G:Int→Option (Nat×Nat))(id:Int)(o:Option (Nat×Nat)):Int→Option (Nat×Nat):=fun x=>if x=id then o else G x
theorem NT(G:Int→Option (Nat×Nat))(id:Int):H7 G id (G id)=G:=funext fun x=>by
 unfold H7
 split
 ·rename_i h;rw[h]
 ·rfl
theorem OM(C:Cdb)(id:Int)(o:Option (Nat×Nat))(kl:Lit)(c:Decidable (kl=.int .i64 id)):(@ite _ (kl=.int .i64 id) c (o.map fun p=>SL.ptr p.1) (gF C kl))=gF ⟨C.mb,C.vs,H7 C.G id o⟩ kl:=by
 have h:=MV.fI_put (fun i=>(C.G i).map fun p=>SL.ptr p.1) id (o.map fun p=>SL.ptr p.1) kl
 have e:(fun x=>if x=id then(o.map fun p=>SL.ptr p.1)else(C.G x).map fun p=>SL.ptr p.1)=fun i=>(H7 C.G id o i).map fun p=>SL.ptr p.1:=funext fun x=>by
  unfold H7
  split<;>rfl
 rw[e]at h;show _=MV.fI (fun i=>(H7 C.G id o i).map fun p=>SL.ptr p.1) kl
 rw[←h];unfold gF
 split<;>rfl
section
variable {B:Nat} {w w':World} {g n m:Nat} {C:Cdb} {D:Dbp}
theorem us{t:TypeId}{cs:Array Value}{a b:Nat}(h:SL.Bk w a t cs)(k:∃es ck,w.heap[b]? =some (.map es ck)):a≠b:=by
 rintro rfl;obtain⟨es,ck,k⟩:=k;unfold SL.Bk at h;rw[h]at k
 cases k
theorem PP:(62:TypeId)≠68:=by decide
theorem CD.alt(h:CD B w g n C D)(hn:n≤m)(hB:B≤w.heap.size)(hc:SL.Chg (C.own g) w w')(id:Int)(o:Option (Nat×Nat))(q:Ses)(hg:w'.heap[g]? =w.heap[g]?)(yG:MV.MapV Tryz.prog 3 w' C.mb m (gF ⟨C.mb,C.vs,H7 C.G id o⟩))(qE:∀i p,i≠id→C.G i=some p→w'.heap[p.1]? =w.heap[p.1]? ∧w'.heap[p.2]? =w.heap[p.2]?)(hid:∀p,o=some p→∃x,q=some x∧SL.Bk w' p.1 68 (trC x.1 p.2)∧In w' p.2 m x.2∧p.2≠C.mb∧(∀i r,i≠id→C.G i=some r→p.1≠r.1∧p.2≠r.2)∧((C.own g p.1∧C.own g p.2)∨(w.heap.size≤p.1∧w.heap.size≤p.2)))(cW:o=none→q=none):StD B g m C (D.1,pi D.2 id q) w w':=by
 have hk:=(h.kc hc fun _ e=>e).kt
 have aE:∀b,Cdb.own ⟨C.mb,C.vs,H7 C.G id o⟩ g b→C.own g b∨w.heap.size≤b:=by
  rintro b (rfl|rfl|⟨i,p,hp,hb⟩)
  ·exact .inl (.inl rfl)
  ·exact .inl (.inr (.inl rfl))
  ·simp only[H7]at hp
   split at hp
   ·obtain⟨x,_,_,_,_,_,h1|h1⟩:=hid p hp
    ·rcases hb with rfl|rfl
     ·exact .inl h1.1
     ·exact .inl h1.2
    ·rcases hb with rfl|rfl
     ·exact .inr h1.1
     ·exact .inr h1.2
   ·exact .inl (.inr (.inr ⟨i,p,hp,hb⟩))
 refine⟨⟨C.mb,C.vs,H7 C.G id o⟩,⟨h.bk.heap hg,h.sq.kt hk,yG,fun i p hp=>?_,fun i hi=>?_,fun i j p r hp hr eT=>?_,fun i p hp=>?_,fun b hb=>?_⟩,hc,aE⟩
 ·simp only[H7]at hp
  by_cases e:i=id
  ·rw[if_pos e]at hp
   obtain⟨x,h1,h2,h3,_⟩:=hid p hp;refine⟨x,?_,h2,h3⟩;show pi D.2 id q i=_;rw[e,K6];exact h1
  ·rw[if_neg e]at hp
   obtain⟨x,h1,h2,h3⟩:=h.tr i p hp;obtain⟨e1,e2⟩:=qE i p e hp;refine⟨x,?_,h2.heap e1,(h3.keep hk e2).mono hn⟩;show pi D.2 id q i=_;rw[Kk _ _ e];exact h1
 ·show pi D.2 id q i=none
  simp only[H7]at hi
  by_cases e:i=id
  ·rw[if_pos e]at hi
   rw[e,K6];exact cW hi
  ·rw[if_neg e]at hi
   rw[Kk _ _ e];exact h.no i hi
 ·simp only[H7]at hp hr
  by_cases e:i=id
  ·rw[if_pos e]at hp
   rw[if_neg (fun e2=>eT (by rw[e,e2]))]at hr
   obtain⟨x,_,_,_,_,h5,_⟩:=hid p hp;exact h5 j r (fun e2=>eT (by rw[e,e2])) hr
  ·rw[if_neg e]at hp
   by_cases e2:j=id
   ·rw[if_pos e2]at hr
    obtain⟨x,_,_,_,_,h5,_⟩:=hid r hr;have:=h5 i p e hp;exact⟨this.1.symm,this.2.symm⟩
   ·rw[if_neg e2]at hr
    exact h.ap i j p r hp hr eT
 ·simp only[H7]at hp
  split at hp
  ·obtain⟨x,_,_,_,h4,_⟩:=hid p hp
   exact h4
  ·exact h.mo i p hp
 ·rcases aE b hb with e|e
  ·exact h.bs b e
  ·exact Nat.le_trans hB e
theorem CD.com(h:CD B w g n C D)(v:Value)(S:List Tb)(hv:SQ w v S)(hB:B≤w.heap.size):StD B g n C (S,D.2) w (w.setCell ⟨g,1,none⟩ v):=by
 have hc:SL.Chg (C.own g) w (w.setCell ⟨g,1,none⟩ v):=(SL.Chg.refl _ _).setCell (p:=⟨g,1,none⟩) (.inl rfl) v;have hk:=(h.kc hc fun _ e=>e).kt
 have b7:∀ {b},b≠g→(w.setCell ⟨g,1,none⟩ v).heap[b]? =w.heap[b]? :=fun hb=>Below.heap_setCell _ _ _ _ hb
 have yH:C.mb≠g:=(us h.bk h.mp.obj).symm;refine⟨⟨C.mb,v,C.G⟩,⟨h.bk.set_ 1 v,hv.kt hk,h.mp.keep (b7 yH),fun i p hp=>?_,h.no,h.ap,h.mo,fun b hb=>h.bs b hb⟩,hc,fun b hb=>.inl hb⟩
 obtain⟨x,h1,h2,h3⟩:=h.tr i p hp;exact⟨x,h1,h2.heap (b7 (h2.ne_ h.bk PP.symm)),h3.keep hk (b7 (us h.bk h3.obj).symm)⟩
theorem CD.ends(h:CD B w g n C D)(hB:B≤w.heap.size)(id:Int)(hm:MV.MapV Tryz.prog 3 w' C.mb n (gF ⟨C.mb,C.vs,H7 C.G id none⟩))(ht:w.mapTurned w' C.mb):StD B g n C (IS D id) w w':=by
 have hg:=ht.grown;have hc:SL.Chg (C.own g) w w':=(SL.Chg.refl _ _).grown hg fun k hk _=>by injection hk with hk;subst hk;exact .inr (.inl rfl)
 refine h.alt (Nat.le_refl _) hB hc id none none (hg.block g h.bk.lt (fun e=>us h.bk h.mp.obj (by injection e))) hm (fun i p _ hp=>?_) (fun p hp=>(by cases hp)) (fun _=>rfl)
 obtain⟨x,_,h2,h3⟩:=h.tr i p hp;exact⟨hg.block p.1 h2.lt (fun e=>us h2 h.mp.obj (by injection e)),hg.block p.2 h3.lt (fun e=>h.mo i p hp (by injection e))⟩
end
theorem Th(B:Nat)(w:World)(g n:Nat)(C:Cdb)(D:Dbp)(h:CD B w g n C D)(hB:B≤w.heap.size)(id:Int)(hi:I9 id):
  Calls Tryz.prog 8 #[SL.ptr g,.int .i64 id] w fun e w'=>e=.returned (.tuple #[])∧StD B g n C (IS D id) w w':=by
 obtain⟨c0,c1,c2⟩:=h.cells;have HG:=qid (d9 w g c0);obtain⟨H,HB⟩:=hZ2 h hB;have HK:=qid (Oa id hi);clear h c1 hB hi;go_enter Tryz.func8,Tryz.ntmps8;go_wp2_with fail;refine HG.out.mono ?_;rintro e w' ⟨rfl,rfl⟩;go_wp2_with (at_delete;refine MV.wpList_del rfl _ _ 60 rfl 65 M4 Tryz.underlying60 rfl H.out.mp _ _ rfl HK.out ?_;intro w2 i' fK;have HS:=qid (H.out.ends HB.out id (i'.congr fun kl=>OM C id none kl _) fK);clear i' fK)
 first|go_end0|(refine bodyPost_ret (v:=.tuple #[]) (by simp[results,Tryz.results8,go_sem]) rfl ?_)
 exact⟨rfl,HS.out⟩
theorem PQ(B:Nat)(w:World)(g n:Nat)(C:Cdb)(D:Dbp)(h:CD B w g n C D)(hB:B≤w.heap.size)(id:Int)(hi:I9 id)(hs:isS id=true)(R:Dbp×Int)(hR:Fr D id=R):
  Calls Tryz.prog 34 #[SL.ptr g,.int .i64 id] w fun e w'=>e=.returned (.int .i64 R.2)∧StD B g n C R.1 w w':=by
 obtain⟨c0,c1,c2⟩:=h.cells;have ah:dg D id=stO (D.2 id):=by unfold dg;rw[hs];rfl
 have aY:=qid (ol B w g n C D h id hi _ ah);obtain⟨H,HB⟩:=hZ2 h hB;have HK:=qid (Oa id hi);unfold Fr at hR
 cases hd:D.2 id with
 |none=>
  rw[hd]at aY hR;subst hR;have aY:Hid (Calls Tryz.prog 16 #[SL.ptr g,.int .i64 id] w fun e w'=>e=.returned (.int .u8 73)∧w=w'):=aY
  clear h c0 c1 c2 hB hi hd ah hs;go_enter Tryz.func34,Tryz.ntmps34;go_wp2_with fail;refine aY.out.mono ?_;rintro e w' ⟨rfl,rfl⟩;go_wp2;go_ret;exact⟨rfl,.refl H.out (Below.refl _ _)⟩
 |some p=>
  rw[hd]at aY hR;subst hR;obtain⟨z,hz⟩:∃z,stO (some p)=z:=⟨_,rfl⟩;have bg:z≠73:=by
   rw[←hz];obtain⟨b,T⟩:=p
   cases b<;>simp[stO]
  rw[hz]at aY;clear h c0 c1 hB hi hd ah hs hz;go_enter Tryz.func34,Tryz.ntmps34;go_wp2_with fail;refine aY.out.mono ?_;rintro e w' ⟨rfl,rfl⟩;go_wp2_with (at_delete;refine MV.wpList_del rfl _ _ 60 rfl 65 M4 Tryz.underlying60 rfl H.out.mp _ _ rfl HK.out ?_;intro w2 i' fK;have HS:=qid (H.out.ends HB.out id (i'.congr fun kl=>OM C id none kl _) fK);clear i' fK)
  go_ret;exact⟨rfl,HS.out⟩
end Go.Proofs.YtpgddamhdfmdjaaGreatDoor
namespace Go.Proofs.YtpgddamhdfmdjaaGreatDoor
open Go.ChangeShapes Go.WideShapes Go.ChangeAt Go.RowKit
theorem Zv(x:List Tv)(i:Nat)(t q:Tv)(h:x[i]? =some t):((tcs x).set (i*2) (.string q.1)).set (i*2+1) q.2.1=tcs (x.set i q):=by
 have hl:=(List.getElem?_eq_some_iff.1 h).1;rw[PY x i t q.1 t.2.2 h,OP (x.set i (q.1,t.2.1,t.2.2)) i (q.1,t.2.1,t.2.2) q.2.1 q.2.2 (by rw[List.getElem?_set_self hl]),List.set_set]
theorem TT.EQ.set{B g cap:Nat}{w:World}{l:List Tv}(h:TT.EQ B w (.slice (some ⟨g,0,none⟩) l.length cap) l)(i:Nat)(t q:Tv)(hi:l[i]? =some t):
  TT.EQ B ((w.setCell ⟨g,i*2,none⟩ (.string q.1)).setCell ⟨g,i*2+1,none⟩ q.2.1) (.slice (some ⟨g,0,none⟩) l.length cap) (l.set i q):=by
 obtain⟨a1,a2⟩:=World.ownsRow.stored h (i*2) (.string q.1);obtain⟨b1,b2⟩:=World.ownsRow.stored a1 (i*2+1) q.2.1;rw[Zv l i t q hi]at b1;unfold TT.EQ;rw[List.length_set];exact b1
theorem TT.EQ.at_{B g n cap:Nat}{w:World}{l:List Tv}(h:TT.EQ B w (.slice (some ⟨g,0,none⟩) n cap) l)(i:Nat)(t:Tv)(hi:l[i]? =some t):w.cell? ⟨g,i*2,none⟩=some (.string t.1)∧w.cell? ⟨g,i*2+1,none⟩=some t.2.1∧w.frozen? ⟨g,i*2,none⟩=false∧w.frozen? ⟨g,i*2+1,none⟩=false:=by
 obtain⟨e1,e2⟩:=ME l i t hi;have hn:n=l.length:=by
  rcases h.2 with⟨h',_⟩|⟨_,_,_,h',_⟩
  ·cases h'
  ·injection h'
 subst hn;have c1:=World.ownsRow.cells h (g:=g) rfl _ _ e1;have c2:=World.ownsRow.cells h (g:=g) rfl _ _ e2;rw[Addr.add_lit,Nat.zero_add]at c1 c2;have hf:∀j,w.frozen? ⟨g,j,none⟩=false:=fun j=>by
  rcases h.2 with⟨h',_⟩|⟨g',c',cur,h',_,hg,_⟩
  ·cases h'
  ·injection h' with h'
   injection h' with h';injection h' with h';subst h';simp[World.frozen?,hg]
 exact⟨c1,c2,hf _,hf _⟩
def qcw(s:List Tb)(w:World)(e:Ending)(w':World):Prop:=∃v,e=.returned v∧SQ w' v s∧Below w.heap.size w w'
theorem SQ.ofE{B:Nat}{w:World}{v:Value}{x:List Tv}(h:TT.EQ B w v x)(hr:∀t∈x,RQ w t.2.1 t.2.2):SQ w v (tbs x):=SQ.of_own h hr
theorem qc7{α:Type}{l:List α}{i:Nat}{a x:α}(h:x∈l.set i a):x∈l∨x=a:=by
 rcases List.mem_or_eq_of_mem_set h with h|h
 ·exact .inl h
 ·exact .inr h
theorem WW(x:List Tv)(i:Nat)(n:ByteArray)(u:Value)(l:List Rw):tbs (x.take i++(n,u,l)::x.drop i)=(tbs x).take i++(n,l)::(tbs x).drop i:=by
 unfold tbs;rw[List.map_append,List.map_cons,List.map_take,List.map_drop]
theorem PR(v:Value)(s:List Tb)(n:ByteArray)(u:Value)(l:List Rw)(w:World)(h:SQ w v s)(hu:upW s)(hl:s.length≤1000000)(ht:RQ w u l):
  Calls Tryz.prog 45 #[v,tbV n u] w (qcw (AC s (n,l)) w):=by
 obtain⟨a,c,rfl⟩:=h.form;obtain⟨ua,uc,rfl⟩:=ht.form;have fD:=ht.one;obtain⟨P,hP⟩:∃P,AC s (n,l)=P:=⟨_,rfl⟩;rw[hP];obtain⟨W0,aH⟩:∃W,w.alloc (.cells #[.string n,.slice ua l.length uc] 55)=W:=⟨_,rfl⟩;obtain⟨tb,iX⟩:∃b,w.heap.size=b:=⟨_,rfl⟩;have b0:Below w.heap.size w W0:=by rw[←aH];exact(Below.refl _ _).alloc (Nat.le_refl _) _
 have k0:SL.Bk W0 tb 55 #[.string n,.slice ua l.length uc]:=by rw[←aH,←iX];exact SL.Bk.new _ _ _
 have aD:tb<W0.heap.size:=k0.lt;have oZ:=h.bel b0;have de:=ht.bel b0;obtain⟨X,hX,hx,hr⟩:=oZ.tx;have fN:X.length=s.length:=by rw[←hX,mt]
 have HC:=qid (OL _ X W0 hx (TX.ones hr) (by omega))
 obtain⟨HP,B0,K0,HX,HR,HT⟩:=hZ6 hP b0 k0 hX hr de;obtain⟨HU,HL,sK,DJ,cj,my⟩:=hZ6 hu hl fN iX aD fD;clear h hu hl ht hP b0 k0 aD oZ de hX hx hr fN fD;go_enter Tryz.func45,Tryz.ntmps45;go_wp2_with fail
 try rw[aH]
 try rw[iX]
 refine HC.out.mono ?_;rintro e w1 ⟨v1,rfl,nk,aU⟩;have o8:∀t∈X,RQ w1 t.2.1 t.2.2:=fun t ht=>(HR.out t ht).bel aU
 have o9:=SQ.ofE nk o8;rw[HX.out]at o9;have HS:=qid (PN v1 s n w1 o9.sr (P0 (Iv.2 HU.out) n) HL.out);have K1:=qid (f9 K0.out aU);have B1:=qid (B0.out.trans (aU.mono B0.out.size));obtain⟨Al,eC⟩:=hZ2 nk o8;have nj:=qid (HT.out.bel aU);have gm:∃a1 c1,v1=.slice a1 s.length c1:=o9.form;have q0:w1.cell? ⟨tb,0,none⟩=some (.string n):=(f9 K0.out aU).cell 0;have q1:w1.cell? ⟨tb,1,none⟩=some (.slice ua l.length uc):=(f9 K0.out aU).cell 1;have uI:Hid (tb<w1.heap.size∧W0.heap.size≤w1.heap.size):=qid ⟨(f9 K0.out aU).lt,aU.size⟩;have aX:=qid aU;clear nk o8 o9 aU HC HR HT K0 B0
 try clear aH
 obtain⟨a1,c1,rfl⟩:=gm;go_wp2_with fail;refine HS.out.mono ?_;rintro e w2 ⟨rfl,aA⟩;have K2:=qid (f9 K1.out aA);have B2:=qid (B1.out.trans (aA.mono B1.out.size));have np:TT.EQ W0.heap.size w2 (.slice a1 s.length c1) X:=aS Al.out aA;have uJ:=qid np;have cM:Hid (∀t∈X,RQ w2 t.2.1 t.2.2):=qid fun t ht=>(eC.out t ht).bel aA
 have nG:=qid (nj.out.bel aA);have r0:w2.cell? ⟨tb,0,none⟩=some (.string n):=K2.out.cell 0;have r1:w2.cell? ⟨tb,1,none⟩=some (.slice ua l.length uc):=K2.out.cell 1;have HZ:Hid (w.heap.size≤W0.heap.size∧W0.heap.size≤w2.heap.size):=qid ⟨by have:=cj.out;have:=DJ.out;omega,Nat.le_trans uI.out.2 aA.size⟩
 clear q0 q1 aA np Al eC nj K1 B1 aX uI HS;obtain⟨at9,al⟩:∃k,oR s n=k:=⟨_,rfl⟩;have uK:at9≤s.length:=by rw[←al];exact IF (ltN n) s
 rw[al]
 cases hh:IR s n with
 |true=>
  have hp:s.set at9 (n,l)=P:=by
   rw[←HP.out];unfold AC;show _=if IR s n=true then s.set (oR s n) (n,l)else _
   rw[if_pos hh,al]
  have dS:at9<s.length:=by
   unfold IR at hh;rw[al]at hh
   split at hh
   ·rename_i t ht;exact(List.getElem?_eq_some_iff.1 ht).1
   ·cases hh
  rcases uJ.out.inv with⟨hv,j5⟩|⟨g1,cap,hv,bn,_,hB,iE⟩
  ·have:=sK.out;rw[j5]at this;simp at this;omega
  ·injection hv with ea _ ec
   subst ea ec;obtain⟨t0,de⟩:∃t0,X[at9]? =some t0:=⟨X[at9]'(by have:=sK.out;omega),List.getElem?_eq_getElem _⟩
   have qF:TT.EQ W0.heap.size w2 (.slice (some ⟨g1,0,none⟩) X.length c1) X:=by
    have:=uJ.out;rw[←sK.out]at this;exact this
   obtain⟨z0,z1,z2,z3⟩:=qF.at_ at9 t0 de;have l0:(0:Int)≤(at9:Int):=by omega
   have l1:(at9:Int)<(s.length:Int):=by omega
   have DK:W0.heap.size≤g1:=hB;have sL:=qid (show W0.heap.size≤g1 from hB);have gL:=qid (qF.set at9 t0 (n,.slice ua l.length uc,l) de);obtain⟨yI,DL⟩:=hZ2 hp dS;obtain⟨cur,cT⟩:=m9 uJ.out (g:=g1) rfl;have iG:Hid (∀(x y:Value) (v:Value) (l:List Rw),RQ w2 v l→RQ ((w2.setCell ⟨g1,at9*2,none⟩ x).setCell ⟨g1,at9*2+1,none⟩ y) v l):=qid fun x y v l hq=>hq.krow fun b cs fr hb=>by
    have b7:b≠g1:=by
     rintro rfl;unfold Blk at cT;rw[cT]at hb;injection hb with hb;injection hb with _ hb _;exact JL hb
    exact(Below.heap_setCell _ _ _ _ b7).trans (Below.heap_setCell _ _ _ _ b7)
   clear hp al hh qF bn iE hB DK de uK dS cT;go_wp2;go_ret;have aG:Below w.heap.size w ((w2.setCell ⟨g1,at9*2,none⟩ (.string n)).setCell ⟨g1,at9*2+1,none⟩ (.slice ua l.length uc)):=by
    have hz:=HZ.out;have hg:=sL.out;exact(B2.out.setCell (p:=⟨g1,at9*2,none⟩) (by show w.heap.size≤g1;omega) _).setCell (p:=⟨g1,at9*2+1,none⟩) (by show w.heap.size≤g1;omega) _
   refine⟨_,rfl,?_,aG⟩;have bP:=SQ.ofE gL.out fun t ht=>by
    rcases qc7 ht with ht|rfl
    ·exact iG.out _ _ _ _ (cM.out t ht)
    ·exact iG.out _ _ _ _ nG.out
   rw[KX,HX.out,yI.out]at bP
   first|exact bP|(rw[sK.out]at bP;exact bP)
 |false=>
  have hp:s.take at9++(n,l)::s.drop at9=P:=by
   rw[←HP.out];unfold AC;show _=if IR s n=true then s.set (oR s n) (n,l)else s.take (oR s n)++(n,l)::s.drop (oR s n)
   rw[if_neg (by rw[hh];simp),al]
  obtain⟨W3,fL⟩:∃W,w2.alloc (.cells #[.string n,.slice ua l.length uc] 55)=W:=⟨_,rfl⟩;obtain⟨vb,yJ⟩:∃b,w2.heap.size=b:=⟨_,rfl⟩;have b3:Below w2.heap.size w2 W3:=by rw[←fL];exact(Below.refl _ _).alloc (Nat.le_refl _) _
  have k3:SL.Bk W3 vb 55 #[.string n,.slice ua l.length uc]:=by rw[←fL,←yJ];exact SL.Bk.new _ _ _
  have qF:TT.EQ W0.heap.size W3 (.slice a1 s.length c1) X:=aS uJ.out b3;have lN:∀t∈X,RQ W3 t.2.1 t.2.2:=fun t ht=>(cM.out t ht).bel b3
  have lg:=nG.out.bel b3;have hz:=HZ.out;obtain⟨R,hR⟩:∃R,X.take at9++(n,.slice ua l.length uc,l)::X.drop at9=R:=⟨_,rfl⟩;have hI:=(TT.einsert_any W0.heap.size _ X at9 (n,.slice ua l.length uc,l) vb W3 qF k3 (fun q hq=>by have:=(uJ.out.lt q hq).2;omega) (by have:=sK.out;omega) (TX.ones cM.out) my.out (by have:=sK.out;have:=HL.out;omega) (by have:=b3.size;omega))
  rw[hR]at hI;obtain⟨HI,dV⟩:=hZ2 hI hR;clear hI hR;obtain⟨s7,iG,pg,yI⟩:=hZ4 qF lN lg hp;have B3:=qid (B2.out.trans (b3.mono B2.out.size));have ly:Hid (w.heap.size≤W0.heap.size):=qid hz.1;clear b3 k3 qF lN lg hz hp al hh uK;go_wp2_with fail
  try rw[fL]
  try rw[yJ]
  refine HI.out.mono ?_;rintro e w4 ⟨a4,c4,rfl,uL,eW,_⟩;obtain⟨yK,ed⟩:=hZ2 uL eW;clear uL eW
  try clear fL yJ
  go_wp2;go_ret;have sM:∀(b:Nat) (cs:Array Value) (fr:Nat×Nat),W3.heap[b]? =some (.cells cs 57 fr)→w4.heap[b]? =W3.heap[b]? :=fun b cs fr hb=>ed.out.block b (Array.getElem?_eq_some_iff.1 hb).1 fun e=>by
   obtain⟨cur,cT⟩:=m9 s7.out (g:=b) e.symm;unfold Blk at cT;rw[cT]at hb;injection hb with hb;injection hb with _ hb _;exact JL hb
  have bP:=SQ.ofE yK.out fun t ht=>by
   rw[←dV.out]at ht;rcases List.mem_append.1 ht with ht|ht
   ·exact(iG.out t (List.mem_of_mem_take ht)).krow sM
   ·rcases List.mem_cons.1 ht with rfl|ht
    ·exact pg.out.krow sM
    ·exact(iG.out t (List.mem_of_mem_drop ht)).krow sM
  rw[←dV.out,WW,HX.out,yI.out,dV.out]at bP;exact⟨_,rfl,bP,B3.out.grown ed.out B3.out.size fun j hj=>by have:=(s7.out.lt j hj).1;have:=ly.out;omega⟩
theorem UU(B:Nat)(w:World)(g n:Nat)(C:Cdb)(D:Dbp)(h:CD B w g n C D)(hn:n≤100000)(hB:B≤w.heap.size)(id:Int)(hi:I9 id)(hs:isS id=true)(R:Dbp×Int)(hR:rW D id=R):
  Calls Tryz.prog 32 #[SL.ptr g,.int .i64 id] w fun e w'=>e=.returned (.int .i64 R.2)∧StD B g (n+1) C R.1 w w':=by
 obtain⟨c0,c1,c2⟩:=h.cells;have ah:dg D id=stO (D.2 id):=by unfold dg;rw[hs];rfl
 have aY:=qid (ol B w g n C D h id hi _ ah);obtain⟨H,HB,HN⟩:=hZ3 h hB hn;have HK:=qid (Oa id hi);unfold rW at hR
 cases hd:D.2 id with
 |some p=>
  rw[hd]at aY hR;subst hR;obtain⟨z,hz⟩:∃z,stO (some p)=z:=⟨_,rfl⟩;have bg:z≠73:=by
   rw[←hz];obtain⟨b,T⟩:=p
   cases b<;>simp[stO]
  rw[hz]at aY;clear h c0 c1 c2 hB hi hd ah hs hz hn;go_enter Tryz.func32,Tryz.ntmps32;go_wp2_with fail;refine aY.out.mono ?_;rintro e w' ⟨rfl,rfl⟩;go_wp2;go_ret;exact⟨rfl,(StD.refl H.out (Below.refl _ _)).mono (Nat.le_succ _)⟩
 |none=>
  rw[hd]at aY hR;subst hR;have aY:Hid (Calls Tryz.prog 16 #[SL.ptr g,.int .i64 id] w fun e w'=>e=.returned (.int .u8 73)∧w=w'):=aY
  have HD:=qid hd;have gO:Hid (n<maxLen):=qid (by unfold maxLen;omega)
  have pc:=@run_makeMap Tryz.prog;obtain⟨W1,cF⟩:∃W,w.alloc (.map #[] 0)=W:=⟨_,rfl⟩;obtain⟨W2,dY⟩:∃W,W1.alloc (.cells #[.int .u8 84,.map (some w.heap.size)] 68)=W:=⟨_,rfl⟩;have b1:Below w.heap.size w W1:=by rw[←cF];exact(Below.refl _ _).alloc (Nat.le_refl _) _
  have b2:Below W1.heap.size W1 W2:=by rw[←dY];exact(Below.refl _ _).alloc (Nat.le_refl _) _
  have s1:W1.heap.size=w.heap.size+1:=by rw[←cF];simp
  have m1:MV.MapV Tryz.prog 9 W2 w.heap.size 0 (fun _=>none):=by
   have:MV.MapV Tryz.prog 9 W1 w.heap.size 0 (fun _=>none):=by rw[←cF];exact MV.MapV.made _ _ w
   exact this.below b2
  have k2:SL.Bk W2 W1.heap.size 68 #[.int .u8 84,.map (some w.heap.size)]:=by rw[←dY];exact SL.Bk.new _ _ _
  obtain⟨tb,iX⟩:∃b,W1.heap.size=b:=⟨_,rfl⟩;have gb:=h.below (b1.trans (b2.mono b1.size));have H2:=qid gb;have B2:=qid (b1.trans (b2.mono b1.size));obtain⟨M1,K2,S1,DM⟩:=hZ4 m1 k2 s1 iX;obtain⟨w3,dK,qG,lg⟩:=gb.mp.put M4 Tryz.underlying60 gO.out (Oa id hi) (SL.ptr tb);have DN:Hid (MV.MapV Tryz.prog 3 w3 C.mb (n+1) (gF ⟨C.mb,C.vs,H7 C.G id (some (tb,w.heap.size))⟩)):=qid (qG.congr fun kl=>OM C id (some (tb,w.heap.size)) kl _)
  have pg:=qid lg;have e2:W2.cell? ⟨g,2,none⟩=some (.map (some C.mb)):=gb.cells.2.2;clear h c0 c1 hB hi hd ah hs hn b1 b2 s1 m1 k2 gb qG lg;go_enter Tryz.func32,Tryz.ntmps32;go_wp2_with fail;refine aY.out.mono ?_;rintro e w' ⟨rfl,rfl⟩;go_wp2;go_ret;refine⟨rfl,?_⟩;have eB:=pg.out.grown;have az:=S1.out;have iX:=DM.out;have hc:SL.Chg (C.own g) w w3:=(SL.Chg.of_below B2.out).grown eB fun k hk _=>by injection hk with hk;subst hk;exact .inr (.inl rfl)
  have cr:∀b,b<w.heap.size→b≠C.mb→w3.heap[b]? =w.heap[b]? :=fun b hb b7=>(eB.block b (Nat.lt_of_lt_of_le hb B2.out.size) (fun e=>b7 (by injection e))).trans (B2.out.block b hb)
  have yH:=H.out.mp.lt;refine H.out.alt (Nat.le_succ n) HB.out hc id (some (tb,w.heap.size)) (some (false,[])) (cr g H.out.bk.lt (us H.out.bk H.out.mp.obj)) DN.out (fun i p _ hp=>?_) (fun p hp=>?_) (fun e=>(by cases e))
  ·obtain⟨x,_,h2,h3⟩:=H.out.tr i p hp
   exact⟨cr p.1 h2.lt (us h2 H.out.mp.obj),cr p.2 h3.lt (H.out.mo i p hp)⟩
  ·injection hp with hp
   subst hp;have k3:SL.Bk w3 tb 68 (trC false w.heap.size):=by
    have hk:=K2.out;rw[iX]at hk;exact hk.heap (eB.block tb hk.lt (fun e=>us hk H2.out.mp.obj (by injection e)))
   have m3:MV.MapV Tryz.prog 9 w3 w.heap.size 0 (fun _=>none):=M1.out.keep (eB.block _ M1.out.lt (fun e=>by injection e with e;omega))
   refine⟨(false,[]),rfl,k3,⟨fun _=>none,(m3.mono (Nat.zero_le _)).congr fun kl=>?_,fun x p hp=>(by cases hp),fun x=>rfl⟩,by show w.heap.size≠C.mb;omega,fun i r hi hr=>?_,.inr ⟨by show w.heap.size≤tb;omega,Nat.le_refl _⟩⟩
   ·cases kl<;>rfl
   ·obtain⟨x,_,h2,h3⟩:=H.out.tr i r hr
    have:=h2.lt;have:=h3.lt;exact⟨by show tb≠r.1;omega,by show w.heap.size≠r.2;omega⟩
theorem PS(B:Nat)(w:World)(g n:Nat)(C:Cdb)(D:Dbp)(h:CD B w g n C D)(hB:B≤w.heap.size)(id:Int)(hi:I9 id):
  Calls Tryz.prog 36 #[SL.ptr g,.int .i64 id] w fun e w'=>e=.returned (.tuple #[])∧StD B g n C (Hg D id) w w':=by
 obtain⟨c0,c1,c2⟩:=h.cells;have hl:=Kh h id hi;obtain⟨H,HB⟩:=hZ2 h hB;rcases h.at_ id with⟨hg,hd⟩|⟨p,q,hg,hd,hk,ho⟩
 ·rw[hg]at hl
  have HD:=qid hd;clear h c0 c1 hB hi hd;simp only[Option.map_none,Option.getD_none,Option.isSome_none]at hl;go_enter Tryz.func36,Tryz.ntmps36;go_wp2
  first|go_end0|(refine bodyPost_ret (v:=.tuple #[]) (by simp[results,Tryz.results36,go_sem]) rfl ?_)
  refine⟨rfl,?_⟩;have e:Hg D id=D:=by
   unfold Hg P7;rw[HD.out];show(D.1,pi D.2 id none)=D;rw[show(none:Ses)=D.2 id from HD.out.symm,NU]
  rw[e];exact .refl H.out (Below.refl _ _)
 ·obtain⟨tb,ob⟩:=p
  rw[hg]at hl;have f0:w.frozen? ⟨tb,0,none⟩=false:=hk.frozen 0;have k0:w.cell? ⟨tb,0,none⟩=some (.int .u8 (if q.1=true then 69 else 84)):=hk.cell 0
  obtain⟨z,hz⟩:∃z:Int,(if q.1=true then 69 else 84)=z:=⟨_,rfl⟩
  rw[hz]at k0;obtain⟨fO,HO,HD,sN⟩:=hZ4 hk ho hd hg;clear h c0 c1 hB hi hk ho hd hg hz;simp only[Option.map_some,Option.getD_some,Option.isSome_some]at hl;go_enter Tryz.func36,Tryz.ntmps36;go_wp2
  first|go_end0|(refine bodyPost_ret (v:=.tuple #[]) (by simp[results,Tryz.results36,go_sem]) rfl ?_)
  refine⟨rfl,?_⟩;have aE:C.own g tb:=.inr (.inr ⟨id,(tb,ob),sN.out,.inl rfl⟩);have hc:SL.Chg (C.own g) w (w.setCell ⟨tb,0,none⟩ (.int .u8 69)):=(SL.Chg.refl _ _).setCell (p:=⟨tb,0,none⟩) aE _;have b7:∀ {b},b≠tb→(w.setCell ⟨tb,0,none⟩ (.int .u8 69)).heap[b]? =w.heap[b]? :=fun hb=>Below.heap_setCell _ _ _ _ hb
  have hk:=((H.out.kc hc fun _ e=>e)).kt
  have e:Hg D id=(D.1,pi D.2 id (some (true,q.2))):=by
   unfold Hg P7;rw[HD.out]
  rw[e];refine H.out.alt (Nat.le_refl _) HB.out hc id (some (tb,ob)) _ (b7 (H.out.bk.ne_ fO.out PP)) ?_ (fun i r hi hr=>?_) (fun r hr=>?_) (fun e=>(by cases e))
  ·rw[←sN.out,NT]
   exact H.out.mp.keep (b7 (us fO.out H.out.mp.obj).symm)
  ·obtain⟨x,_,h2,h3⟩:=H.out.tr i r hr
   exact⟨b7 (H.out.ap i id r (tb,ob) hr sN.out hi).1,b7 (us fO.out h3.obj).symm⟩
  ·injection hr with hr
   subst hr;refine⟨(true,q.2),rfl,fO.out.set_ 0 _,HO.out.keep hk (b7 (us fO.out HO.out.obj).symm),H.out.mo id (tb,ob) sN.out,fun i r hi hr=>?_,.inl ⟨aE,.inr (.inr ⟨id,(tb,ob),sN.out,.inr rfl⟩)⟩⟩
   have:=H.out.ap i id r (tb,ob) hr sN.out hi;exact⟨this.1.symm,this.2.symm⟩
def UV(s:List Tb)(w:World)(e:Ending)(w':World):Prop:=∃v x,e=.returned v∧FS w.heap.size w' v x∧tbs x=s∧Below w.heap.size w w'
theorem Lx(v:Value)(s:List Tb)(w:World)(h:SQ w v s)(hf:IK s):
  Calls Tryz.prog 26 #[v] w (UV s w):=by
 refine(M3 v s w h.sr hf).mono ?_;rintro e w' ⟨g,x,rfl,_,h1,h2,_,h3⟩;have hl:s.length=x.length:=by rw[←h2,mt]
 exact⟨_,x,rfl,h1,h2,h3⟩
theorem Nx(B:Nat)(w:World)(g n:Nat)(C:Cdb)(D:Dbp)(h:CD B w g n C D)(hf:IK D.1):
  Calls Tryz.prog 15 #[SL.ptr g] w (UV D.1 w):=by
 obtain⟨c0,c1,c2⟩:=h.cells;have HG:=qid (d9 w g c0);have HC:=qid (Lx C.vs D.1 w h.sq hf);obtain⟨a,c,hv⟩:=h.sq.form;rw[hv]at c1 HC;clear h hf hv c0 c2;go_enter Tryz.func15,Tryz.ntmps15;go_wp2_with fail;refine HG.out.mono ?_;rintro e w' ⟨rfl,rfl⟩;go_wp2_with fail;refine HC.out.mono ?_;rintro e w' ⟨v,x,rfl,h1,h2,h3⟩;obtain⟨H1,H2,H3⟩:=hZ3 h1 h2 h3;clear h1 h2 h3;go_wp2;go_ret;exact⟨v,x,rfl,H1.out,H2.out,H3.out⟩
theorem Rr(key:Value)(kl:Lit)(h:keyOf Tryz.prog 9 key=some kl):∃x:ByteArray,key=.string x:=by
 cases key<;>simp[keyOf,mapKey,Tryz.underlying9]at h
 exact⟨_,rfl⟩
theorem Rs{x:ByteArray}{kl:Lit}(h:keyOf Tryz.prog 9 (.string x)=some kl):kl=.string x.data.toList:=by
 simp[keyOf,mapKey,Tryz.underlying9]at h;exact h.2.symm
def UW(S T:List Tb)(left:Lit→Bool)(s:List Tb):Prop:=upW s∧∀x:ByteArray,lkT s x=if left (.string x.data.toList)=true then lkT S x else(lkT T x).or (lkT S x)
theorem UW.end_{S T s:List Tb}{left:Lit→Bool}(h:UW S T left s)(hl:∀kl,left kl=false)(hS:upW S)(hT:upW T):s=nE S T:=
 Xl h.1 (Ty hS) fun x=>by
  rw[h.2 x,Tz hS hT,if_neg (by rw[hl];simp)]
theorem UW.step{S T s:List Tb}{left:Lit→Bool}(h:UW S T left s){n:ByteArray}{l:List Rw}(hl:left (.string n.data.toList)=true)(hn:lkT T n=some l):UW S T (fun z=>left z&& !z.sameKey (.string n.data.toList)) (AC s (n,l)):=by
 refine⟨MK h.1 _,fun x=>?_⟩
 rw[RB h.1];show(if n=x then some l else lkT s x)=if(left (.string x.data.toList)&& !(Lit.string x.data.toList).sameKey (.string n.data.toList))=true then lkT S x else(lkT T x).or (lkT S x)
 by_cases e:n=x
 ·subst e
  rw[if_pos rfl,WideAt.sameKey_self (show WideAt.IsKeyLit (Lit.string _)from trivial),hn];simp
 ·have b7:(Lit.string x.data.toList).sameKey (.string n.data.toList)=false:=Maps.sameKey_ne (fun e2=>e (by injection e2 with e2;exact(MV.ba_of e2).symm))
  rw[if_neg e,h.2 x,b7];simp
theorem Ti{w w':World}{r:Nat}(hr:∃m s se c,w.heap[r]? =some (.mapIter m s se c))(hg:w.grownBy w' (some r)):Kt w w':=fun b cs t fr _ hb=>(hg.block b (Array.getElem?_eq_some_iff.1 hb).1 (fun e=>by
 obtain⟨m,s,se,c,hr⟩:=hr;injection e with e;subst e;rw[hr]at hb
 cases hb)).trans hb
theorem MV.RangeV.iter{P:Program}{K:TypeId}{w:World}{b r n eG:Nat}{f:Lit→Option Value}{left:Lit→Bool}(h:MV.RangeV P K w b r n f left eG):∃m s se c,w.heap[r]? =some (.mapIter m s se c):=by
 obtain⟨D,⟨es,clock,since,seen,c0,hb,F,hs,hD,hr,rest⟩,ha⟩:=h;exact⟨_,_,_,_,hr⟩
theorem MB(B:Nat)(w:World)(g n:Nat)(C:Cdb)(D:Dbp)(h:CD B w g n C D)(hn:n≤100000)(id:Int)(hi:I9 id)(hS:upW D.1)(hT:upW (JW (D.2 id)))(hl:D.1.length≤100000)(hf:IK (d6 D id))(R:List Tb)(hR:d6 D id=R):
  Calls Tryz.prog 21 #[SL.ptr g,.int .i64 id] w (UV R w):=by
 obtain⟨c0,c1,c2⟩:=h.cells;have HG:=qid (d9 w g c0);have HO:=qid (PO B w g n C D h id hi);obtain⟨a,c,hv⟩:=h.sq.form;rw[hv]at c1;have bU:=h.sq;rw[hv]at bU;rw[hR]at hf;rcases h.at_ id with⟨hg,hd⟩|⟨⟨tb,ob⟩,q,hg,hd,_,p7⟩
 ·have bJ:R=D.1:=by
   rw[←hR];unfold d6;rw[hd];rfl
  rw[hg]at HO;have HO:Hid (Calls Tryz.prog 44 #[SL.ptr g,.int .i64 id] w fun e w'=>e=.returned (.map none)∧w=w'):=HO
  subst bJ;obtain⟨eH,HF⟩:=hZ2 bU hf;have kQ:=run_range_nilMap (P:=Tryz.prog) w 66 _ _ Tryz.underlying66;have jb:∀ty,(Instr.next (.pointer (some ⟨w.heap.size,0,none⟩)) false ty).run Tryz.prog (w.alloc (.mapIter none 0 #[] 0))=_:=fun ty=>run_next_nilMap w ty 0 0 #[]
  have aU:Below w.heap.size w (w.alloc (.mapIter none 0 #[] 0)):=(Below.refl _ _).alloc (Nat.le_refl _) _;have HC:=qid (Lx _ D.1 (w.alloc (.mapIter none 0 #[] 0)) (bU.bel aU) hf);have aX:=qid aU;clear h bU hf hv hR hd hg c0 c2 hS hT hl aU hi;go_enter Tryz.func21,Tryz.ntmps21;go_wp2_with fail;refine HG.out.mono ?_;rintro e w' ⟨rfl,rfl⟩;go_wp2_with fail;refine HO.out.mono ?_;rintro e w' ⟨rfl,rfl⟩;go_wp2;refine wp_loop_rounds 1 ?_;rw[rounds_succ];go_wp2_with fail;refine HC.out.mono ?_;rintro e w' ⟨v,x,rfl,h1,h2,h3⟩;have H1:=qid (h1.mono (B':=w.heap.size) aX.out.size);have H2:=qid h2;have H3:=qid (aX.out.trans (h3.mono aX.out.size));clear h1 h2 h3;go_wp2;go_ret;exact⟨v,x,rfl,H1.out,H2.out,H3.out⟩
 ·rw[hg]at HO
  have HO:Hid (Calls Tryz.prog 44 #[SL.ptr g,.int .i64 id] w fun e w'=>e=.returned (.map (some ob))∧w=w'):=HO
  have ho:JW (D.2 id)=q.2:=by rw[hd];rfl
  rw[ho]at hT;obtain⟨U,hm,pA,yL⟩:=p7;have bJ:nE D.1 q.2=R:=by
   rw[←hR];unfold d6;rw[ho]
  obtain⟨S,Am⟩:∃S,D.1=S:=⟨_,rfl⟩;obtain⟨T,nM⟩:∃T,q.2=T:=⟨_,rfl⟩;rw[Am]at hS hl bU bJ c1;rw[nM]at hT yL bJ;obtain⟨HM,DP,An,eH,HF,HS⟩:=hZ6 hm pA yL bU hf hS;obtain⟨HT,HL,HN,HR⟩:=hZ4 hT hl hn bJ;clear h bU hf hv hR hd hg c0 c2 hS hT hl hn hi hm pA yL ho bJ Am nM;go_enter Tryz.func21,Tryz.ntmps21;go_wp2_with fail;refine HG.out.mono ?_;rintro e w' ⟨rfl,rfl⟩;go_wp2_with fail;refine HO.out.mono ?_;rintro e w' ⟨rfl,rfl⟩;go_wp2_with (at_range;refine MV.wpList_range rfl _ 66 rfl 55 TM Tryz.underlying66 rfl HM.out ?_;intro w0 qH m' mA gP jF gh oZ);have bD:Below w.heap.size w w0:=⟨gh.os,gh.tape,gh.output,gh.size,fun k hk=>gh.block k hk (by simp)⟩
  obtain⟨mB,mC,mD,bG⟩:=hZ4 mA gP jF bD;clear mA gP jF gh oZ bD
  go_frame
  go_loopw [5] (fun u5 wr=>∃(left:Lit→Bool) (eG:Nat) (s:List Tb),Hid (MV.RangeV Tryz.prog 9 wr ob w.heap.size n (MV.fS fun x=>(U x).map fun p=>tbV x p.1) left eG)∧Hid (SQ wr u5 s)∧Hid (UW S T left s)∧Hid (s.length+eG≤200000)∧Hid (Below w.heap.size w wr)) (fun _ wr=>wr.rangeLeft ob w.heap.size)
  case atStart=>
   refine⟨m',qH,S,mB,qid (eH.out.bel bG.out),qid ⟨HS.out,fun x=>?_⟩,qid (by have:=HL.out;have:=HN.out;have:=mD.out;omega),bG⟩
   split
   ·rfl
   ·rename_i fN
    rw[mC.out _ (show WideAt.IsKeyLit (Lit.string _)from trivial)]at fN;have e:lkT T x=none:=by
     rw[←An.out x];have fN:¬((U x).map fun p=>tbV x p.1).isSome=true:=fN
     cases hu:U x with
     |none=>rfl
     |some p=>rw[hu]at fN;simp at fN
    rw[e];rfl
  case round=>
   obtain⟨left,eG,s,kQ,bU,dr,sO,fc⟩:=hrel;have Ao:s.length≤1000000:=by have:=sO.out;omega
   have mE:=bU.out.form;have qI:=qid Ao;clear mB mC mD bG Ao;obtain⟨a5,c5,rfl⟩:=mE;go_wp2_with (at_next;refine MV.wpList_step (fun x:ByteArray=>Value.string x) Rr rfl _ rfl TM w.heap.size left eG rfl kQ.out ?_ ?_)
   ·intro nN
    have uM:=qid nN;clear nN;have hC:=Lx _ s wr bU.out (by
     rw[dr.out.end_ uM.out HS.out HT.out,HR.out];exact HF.out)
    have HC:=qid hC;clear hC;go_wp2_with fail;refine HC.out.mono ?_;rintro e w' ⟨v,x,rfl,h1,h2,h3⟩;have H1:=qid (h1.mono (B':=w.heap.size) fc.out.size);have H2:Hid (tbs x=R):=qid (by rw[h2,dr.out.end_ uM.out HS.out HT.out,HR.out])
    have H3:=qid (fc.out.trans (h3.mono fc.out.size));clear h1 h2 h3;go_wp2;go_ret;exact⟨v,x,rfl,H1.out,H2.out,H3.out⟩
   ·intro x c kl w1 k7 cQ qJ uN ku aD iE az tH
    obtain rfl:=Rs cQ;have fE:((U x).map fun p=>tbV x p.1)=some c:=uN
    cases hu:U x with
    |none=>rw[hu]at fE;cases fE
    |some p=>
     rw[hu]at fE;obtain⟨u,l⟩:=p;injection fE with fE;subst fE;have ox:Kt wr w1:=Ti kQ.out.iter iE;have Ap:RQ w u l:=DP.out x _ hu;have jG:Below w.heap.size w w1:=fc.out.grown iE fc.out.size fun j hj=>by injection hj with hj;omega
     have qK:RQ w1 u l:=Ap.kt ((Kt.bel (w:=w) (w':=wr) fc.out).trans ox);have uO:lkT T x=some l:=by
      have:=An.out x;rw[hu]at this;exact this.symm
     obtain⟨ua,uc,rfl⟩:=qK.form;obtain⟨W2,dY⟩:∃W,w1.alloc (.cells #[.string x,.slice ua l.length uc] 55)=W:=⟨_,rfl⟩;have aA:Below w1.heap.size w1 W2:=by rw[←dY];exact(Below.refl _ _).alloc (Nat.le_refl _) _
     have k2:SL.Bk W2 w1.heap.size 55 #[.string x,.slice ua l.length uc]:=by rw[←dY];exact SL.Bk.new _ _ _
     have q0:W2.cell? ⟨w1.heap.size,0,none⟩=some (.string x):=k2.cell 0;have q1:W2.cell? ⟨w1.heap.size,1,none⟩=some (.slice ua l.length uc):=k2.cell 1;have HW:=qid (PR _ s x _ l W2 ((bU.out.kt ox).bel aA) dr.out.1 qI.out (qK.bel aA));have uP:=qid (ku.below aA);have jq:=qid (dr.out.step qJ uO);have aL:=qid (jG.trans (aA.mono jG.size));have nO:Hid ((AC s (x,l)).length+k7≤200000):=qid (by have:=L9 dr.out.1 (x,l);have:=sO.out;omega)
     have yM:Hid (k7<wr.rangeLeft ob w.heap.size):=qid (by rw[kQ.out.left_eq];exact aD)
     clear cQ qJ uN ku aD iE az hu ox Ap jG qK uO aA k2 dr bU kQ sO fc;go_wp2_with fail
     try rw[dY]
     refine HW.out.mono ?_;rintro e w3 ⟨v3,rfl,mF,aG⟩;have oA:=qid mF;have uQ:=qid (uP.out.below aG);have aO:=qid (aL.out.trans (aG.mono aL.out.size));clear mF aG q0 q1 uP aL HW
     try clear dY
     go_wp2
     go_roundw
     case rel=>exact⟨_,k7,AC s (x,l),uQ,oA,jq,nO,aO⟩
     case measure=>rw[uQ.out.left_eq];exact yM.out
theorem StD.cd{B:Nat}{w w':World}{g n:Nat}{C:Cdb}{D:Dbp}(h:StD B g n C D w w'):∃C',CD B w' g n C' D:=by obtain⟨C',h,_⟩:=h;exact⟨C',h⟩
theorem StD.size{B:Nat}{w w':World}{g n:Nat}{C:Cdb}{D:Dbp}(h:StD B g n C D w w'):w.heap.size≤w'.heap.size:=by obtain⟨C',_,h,_⟩:=h;exact h.size
theorem StD.kt{B:Nat}{w w':World}{g n:Nat}{C:Cdb}{D D':Dbp}(h0:CD B w g n C D)(h:StD B g n C D' w w'):Kt w w':=by obtain⟨C',_,h,_⟩:=h;exact(h0.kc h fun _ e=>e).kt
theorem Rt(B:Nat)(w:World)(g n:Nat)(C:Cdb)(D:Dbp)(h:CD B w g n C D)(hn:n≤100000)(hB:B≤w.heap.size)(id:Int)(hi:I9 id)(hs:isS id=true)(hS:upW D.1)(hT:upW (JW (D.2 id)))(hl:D.1.length≤100000)(hf:IK (d6 D id))(R:Dbp×Int)(hR:gE D id=R):
  Calls Tryz.prog 33 #[SL.ptr g,.int .i64 id] w fun e w'=>e=.returned (.int .i64 R.2)∧StD B g n C R.1 w w':=by
 have ah:dg D id=stO (D.2 id):=by unfold dg;rw[hs];rfl
 have aY:=qid (ol B w g n C D h id hi _ ah);have nK:=qid (MB B w g n C D h hn id hi hS hT hl hf _ rfl);have iY:Hid (∀w1:World,Below w.heap.size w w1→Calls Tryz.prog 34 #[SL.ptr g,.int .i64 id] w1 fun e w'=>e=.returned (.int .i64 (Fr D id).2)∧StD B g n C (Fr D id).1 w1 w'):=qid fun w1 hb=>PQ B w1 g n C D (h.below hb) (Nat.le_trans hB hb.size) id hi hs _ rfl
 obtain⟨H,HB⟩:=hZ2 h hB;obtain⟨S,yN⟩:∃S,d6 D id=S:=⟨_,rfl⟩;rw[yN]at nK;have yO:=qid yN;clear ah yN hf hl hT hS hs;unfold Fr at iY;unfold gE at hR;clear h hB hi hn
 cases hd:D.2 id with
 |none=>
  rw[hd]at aY iY hR;subst hR;have aY:Hid (Calls Tryz.prog 16 #[SL.ptr g,.int .i64 id] w fun e w'=>e=.returned (.int .u8 73)∧w=w'):=aY
  have iY:Hid (∀w1:World,Below w.heap.size w w1→Calls Tryz.prog 34 #[SL.ptr g,.int .i64 id] w1 fun e w'=>e=.returned (.int .i64 10)∧StD B g n C D w1 w'):=iY
  clear hd;go_enter Tryz.func33,Tryz.ntmps33;go_wp2_with fail;refine aY.out.mono ?_;rintro e w' ⟨rfl,rfl⟩;go_wp2_with fail;refine nK.out.mono ?_;rintro e w1 ⟨v,x,rfl,ct,dX,aU⟩;have fN:x.length=S.length:=by rw[←dX,mt]
  obtain⟨a1,c1,rfl⟩:∃a c,v=.slice a S.length c:=by rw[←fN];exact Ac ct.own
  have eH:=qid (ct.sqE dX);have aX:=qid aU;have mG:=iY.out w1 aU;have iY:=qid mG;clear ct dX aU fN mG;go_wp2_with fail;refine iY.out.mono ?_;rintro e w2 ⟨rfl,bC⟩;have bx:=qid bC;clear bC;go_wp2;go_ret;exact⟨rfl,.pre aX.out bx.out⟩
 |some q=>
  obtain⟨b,T⟩:=q;have nB:S=nE D.1 T:=by
   rw[←yO.out];unfold d6;rw[hd];rfl
  rw[hd]at aY iY hR;have iY:Hid (∀w1:World,Below w.heap.size w w1→Calls Tryz.prog 34 #[SL.ptr g,.int .i64 id] w1 fun e w'=>e=.returned (.int .i64 0)∧StD B g n C (IS D id) w1 w'):=iY
  cases b with
  |true=>
   have aY:Hid (Calls Tryz.prog 16 #[SL.ptr g,.int .i64 id] w fun e w'=>e=.returned (.int .u8 69)∧w=w'):=aY
   subst hR;clear hd nB;go_enter Tryz.func33,Tryz.ntmps33;go_wp2_with fail;refine aY.out.mono ?_;rintro e w' ⟨rfl,rfl⟩;go_wp2_with fail;refine nK.out.mono ?_;rintro e w1 ⟨v,x,rfl,ct,dX,aU⟩;have fN:x.length=S.length:=by rw[←dX,mt]
   obtain⟨a1,c1,rfl⟩:∃a c,v=.slice a S.length c:=by rw[←fN];exact Ac ct.own
   have eH:=qid (ct.sqE dX);have aX:=qid aU;have mG:=iY.out w1 aU;have iY:=qid mG;clear ct dX aU fN mG;go_wp2_with fail;refine iY.out.mono ?_;rintro e w2 ⟨rfl,bC⟩;have bx:=qid bC;clear bC;go_wp2;go_ret;exact⟨rfl,.pre aX.out bx.out⟩
  |false=>
   have aY:Hid (Calls Tryz.prog 16 #[SL.ptr g,.int .i64 id] w fun e w'=>e=.returned (.int .u8 84)∧w=w'):=aY
   have hR:(if 16<S.length then(IS D id,(11:Int))else((S,pi D.2 id none),0))=R:=by rw[nB];exact hR
   clear hd nB
   by_cases hlen:16<S.length
   ·rw[if_pos hlen]at hR
    subst hR;have qL:(16:Int)<(S.length:Int):=by omega
    clear hlen;go_enter Tryz.func33,Tryz.ntmps33;go_wp2_with fail;refine aY.out.mono ?_;rintro e w' ⟨rfl,rfl⟩;go_wp2_with fail;refine nK.out.mono ?_;rintro e w1 ⟨v,x,rfl,ct,dX,aU⟩;have fN:x.length=S.length:=by rw[←dX,mt]
    obtain⟨a1,c1,rfl⟩:∃a c,v=.slice a S.length c:=by rw[←fN];exact Ac ct.own
    have eH:=qid (ct.sqE dX);have aX:=qid aU;have mG:=iY.out w1 aU;have iY:=qid mG;clear ct dX aU fN mG;go_wp2_with fail;refine iY.out.mono ?_;rintro e w2 ⟨rfl,bC⟩;have bx:=qid bC;clear bC;go_wp2;go_ret;exact⟨rfl,.pre aX.out bx.out⟩
   ·rw[if_neg hlen]at hR
    subst hR;have qL:¬((16:Int)<(S.length:Int)):=by omega
    clear hlen;go_enter Tryz.func33,Tryz.ntmps33;go_wp2_with fail;refine aY.out.mono ?_;rintro e w' ⟨rfl,rfl⟩;go_wp2_with fail;refine nK.out.mono ?_;rintro e w1 ⟨v,x,rfl,ct,dX,aU⟩;have fN:x.length=S.length:=by rw[←dX,mt]
    obtain⟨a1,c1,rfl⟩:∃a c,v=.slice a S.length c:=by rw[←fN];exact Ac ct.own
    have eH:=qid (ct.sqE dX);have aX:=qid aU;have mG:=iY.out w1 aU;have iY:=qid mG;clear ct dX aU fN mG;go_wp2_with fail;refine iY.out.mono ?_;rintro e w2 ⟨rfl,bC⟩;have bx:=qid bC;clear bC;obtain⟨C2,ey⟩:=bx.out.cd;have f1:w2.frozen? ⟨g,1,none⟩=false:=ey.bk.frozen 1;have k1:w2.cell? ⟨g,1,none⟩=some C2.vs:=ey.bk.cell 1;have HF:=qid (ey.com (.slice a1 S.length c1) S (eH.out.kt (StD.kt (H.out.below aX.out) bx.out)) (Nat.le_trans (Nat.le_trans HB.out aX.out.size) bx.out.size));obtain⟨av,xB⟩:∃a c,C2.vs=.slice a D.1.length c:=ey.sq.form;obtain⟨cv,xB⟩:=xB;rw[xB]at k1;have HW:Hid (StD B g n C (S,pi D.2 id none) w1 (w2.setCell ⟨g,1,none⟩ (.slice a1 S.length c1))):=qid (bx.out.trans fun C1 fe=>fe.com (.slice a1 S.length c1) S (eH.out.kt (StD.kt (H.out.below aX.out) bx.out)) (Nat.le_trans (Nat.le_trans HB.out aX.out.size) bx.out.size))
    clear ey xB;go_wp2;go_ret;exact⟨rfl,.pre aX.out HW.out⟩
end Go.Proofs.YtpgddamhdfmdjaaGreatDoor
