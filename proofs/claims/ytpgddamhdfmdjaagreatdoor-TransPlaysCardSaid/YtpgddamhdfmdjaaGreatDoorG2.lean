/- Da Db Dc Dd De Taa Tab Tca Sla Mpv Df Dk Dg Lxc Lxr Lxi Lxb Lxd -/
import Derived.Test.YtpgddamhdfmdjaaGreatDoorG1
import Derived.Laws.CopyOwn
import Derived.Laws.OwnMore
import Derived.Laws.MakeOwn
import Derived.Deep.AppendLies
import Derived.Lib.Bytealg
import Derived.Test.YtpgddamhdfmdjaaGreatDoorShelf
import Derived.Deep.LoopGhost
import Derived.Test.YtpgddamhdfmdjaaGreatDoorRows
import Derived.WalkKit
import Derived.ProofKit
import Derived.Below
import Derived.IntWalk
import Derived.Carry
import Derived.Lib.Hide
import Derived.Lib.Walk
import Derived.Lib.Strings
import Derived.Laws.Rows
import Derived.LaidEqlPtr
import Derived.OwnWalk
import Derived.Maps.OwnSet
import Derived.StringKeys
import Derived.Deep.Draws
import Derived.Maps.RangeWalk
import Derived.Lib.AppendZerosOnto
import Derived.Lib.SliceRun
import Derived.LoopTactic
import Derived.OpenShut
import Derived.ShutString
import Derived.Lib.IndexLaws
import Derived.Laws.IdiomStrings
import Derived.Deep.QuietTactic
import Derived.Deep.RegionWith
import Derived.Deep.DeepCutAuto
import Derived.BigQuiet
import Derived.Laws.Runes
import Derived.WalkMore
import Derived.Deep.RegionHeld3
set_option linter.unusedSimpArgs false
set_option linter.unusedVariables false
set_option maxRecDepth 100000
set_option maxHeartbeats 16000000
namespace Go.Proofs.YtpgddamhdfmdjaaGreatDoor
open Go.ChangeShapes Go.WideShapes Go.ChangeAt Go.RowKit
abbrev Rw:Type:=Int×Int
abbrev Tb:Type:=ByteArray×List Rw
def RR(w:World)(v:Value)(l:List Rw):Prop:=
 (∃a cap,l=[]∧v=.slice a 0 cap)∨∃g off cap,v=.slice (some ⟨g,off,none⟩) l.length cap∧l.length≤cap∧∀(i:Nat) (r:Rw),l[i]? =some r→w.cell? ⟨g,off+i*2,none⟩=some (.int .i64 r.1)∧w.cell? ⟨g,off+i*2+1,none⟩=some (.int .i64 r.2)
theorem RR.keep{w w':World}{v:Value}{l:List Rw}(h:RR w v l)(hk:∀p:Addr,(w.cell? p).isSome=true→w'.cell? p=w.cell? p):RR w' v l:=by
 rcases h with h|⟨g,off,cap,e,hc,hx⟩
 ·exact .inl h
 ·refine .inr ⟨g,off,cap,e,hc,fun i r hi=>?_⟩
  obtain⟨h1,h2⟩:=hx i r hi;exact⟨(hk _ (by rw[h1];rfl)).trans h1,(hk _ (by rw[h2];rfl)).trans h2⟩
theorem PW{w w':World}(hb:Below w.heap.size w w'):∀p:Addr,(w.cell? p).isSome=true→w'.cell? p=w.cell? p:=fun p hp=>by
 obtain⟨x,hx⟩:=Option.isSome_iff_exists.1 hp;exact hb.cell (World.block_lt_of_cell? w p hx)
theorem RR.below{w w':World}{v:Value}{l:List Rw}(h:RR w v l)(hb:Below w.heap.size w w'):RR w' v l:=h.keep (PW hb)
theorem RR.form{w:World}{v:Value}{l:List Rw}(h:RR w v l):∃a cap,v=.slice a l.length cap:=by
 rcases h with⟨a,cap,rfl,rfl⟩|⟨g,off,cap,rfl,_⟩
 ·exact⟨_,_,rfl⟩
 ·exact⟨_,_,rfl⟩
theorem RR.inv{w:World}{v:Value}{l:List Rw}(h:RR w v l)(hp:0<l.length):∃g off cap,v=.slice (some ⟨g,off,none⟩) l.length cap∧l.length≤cap∧∀(i:Nat) (r:Rw),l[i]? =some r→w.cell? ⟨g,off+i*2,none⟩=some (.int .i64 r.1)∧w.cell? ⟨g,off+i*2+1,none⟩=some (.int .i64 r.2):=by
 rcases h with⟨a,cap,rfl,rfl⟩|h
 ·simp at hp
 ·exact h
def SR(w:World)(v:Value)(s:List Tb):Prop:=
 (∃a cap,s=[]∧v=.slice a 0 cap)∨∃g off cap,v=.slice (some ⟨g,off,none⟩) s.length cap∧s.length≤cap∧∀(i:Nat) (t:Tb),s[i]? =some t→w.cell? ⟨g,off+i*2,none⟩=some (.string t.1)∧∃u,w.cell? ⟨g,off+i*2+1,none⟩=some u∧RR w u t.2
theorem SR.keep{w w':World}{v:Value}{s:List Tb}(h:SR w v s)(hk:∀p:Addr,(w.cell? p).isSome=true→w'.cell? p=w.cell? p):SR w' v s:=by
 rcases h with h|⟨g,off,cap,e,hc,hx⟩
 ·exact .inl h
 ·refine .inr ⟨g,off,cap,e,hc,fun i t hi=>?_⟩
  obtain⟨h1,u,h2,h3⟩:=hx i t hi;exact⟨(hk _ (by rw[h1];rfl)).trans h1,u,(hk _ (by rw[h2];rfl)).trans h2,h3.keep hk⟩
theorem SR.below{w w':World}{v:Value}{s:List Tb}(h:SR w v s)(hb:Below w.heap.size w w'):SR w' v s:=h.keep (PW hb)
theorem SR.form{w:World}{v:Value}{s:List Tb}(h:SR w v s):∃a cap,v=.slice a s.length cap:=by
 rcases h with⟨a,cap,rfl,rfl⟩|⟨g,off,cap,rfl,_⟩
 ·exact⟨_,_,rfl⟩
 ·exact⟨_,_,rfl⟩
theorem SR.inv{w:World}{v:Value}{s:List Tb}(h:SR w v s)(hp:0<s.length):∃g off cap,v=.slice (some ⟨g,off,none⟩) s.length cap∧s.length≤cap∧∀(i:Nat) (t:Tb),s[i]? =some t→w.cell? ⟨g,off+i*2,none⟩=some (.string t.1)∧∃u,w.cell? ⟨g,off+i*2+1,none⟩=some u∧RR w u t.2:=by
 rcases h with⟨a,cap,rfl,rfl⟩|h
 ·simp at hp
 ·exact h
def fl:List (Value×Value)→List Value
 | []=>[]
 |p::t=>p.1::p.2::fl t
theorem Gr:∀l:List (Value×Value),(fl l).length=l.length*2
 | []=>rfl
 |p::t=>by rw[fl,List.length_cons,List.length_cons,Gr t,List.length_cons];omega
theorem Ib:∀l m:List (Value×Value),fl (l++m)=fl l++fl m
 | [],m=>rfl
 |p::t,m=>by rw[List.cons_append,fl,Ib t m];rfl
theorem KW:∀(l:List (Value×Value)) (k:Nat),fl (l.take k)=(fl l).take (k*2)
 |l,0=>by simp[fl]
 | [],k+1=>by simp[fl]
 |p::t,k+1=>by rw[List.take_succ_cons,fl,fl,KW t k,show(k+1)*2=k*2+1+1 by omega,List.take_succ_cons,List.take_succ_cons]
theorem Ki:∀(l:List (Value×Value)) (k:Nat),fl (l.drop k)=(fl l).drop (k*2)
 |l,0=>by simp
 | [],k+1=>by simp[fl]
 |p::t,k+1=>by rw[List.drop_succ_cons,fl,Ki t k,show(k+1)*2=k*2+1+1 by omega,List.drop_succ_cons,List.drop_succ_cons]
theorem Tn:∀(l:List (Value×Value)) (i:Nat) (p:Value×Value),l[i]? =some p→(fl l)[i*2]? =some p.1∧(fl l)[i*2+1]? =some p.2
 | [],i,p,h=>by simp at h
 |q::t,0,p,h=>by simp at h;subst h;exact⟨rfl,rfl⟩
 |q::t,i+1,p,h=>by
  have:=Tn t i p (by simpa using h)
  rw[fl,show(i+1)*2=i*2+1+1 by omega,List.getElem?_cons_succ,List.getElem?_cons_succ,List.getElem?_cons_succ,List.getElem?_cons_succ]
  exact this
theorem OO:∀(l:List (Value×Value)) (i:Nat) (p:Value×Value) (u:Value),l[i]? =some p→(fl l).set (i*2) u=fl (l.set i (u,p.2))
 | [],i,p,u,h=>by simp at h
 |q::t,0,p,u,h=>by simp at h;subst h;rfl
 |q::t,i+1,p,u,h=>by
  rw[fl,show(i+1)*2=i*2+1+1 by omega,List.set_cons_succ,List.set_cons_succ,List.set_cons_succ,fl,OO t i p u (by simpa using h)]
theorem L7:∀(l:List (Value×Value)) (i:Nat) (p:Value×Value) (u:Value),l[i]? =some p→(fl l).set (i*2+1) u=fl (l.set i (p.1,u))
 | [],i,p,u,h=>by simp at h
 |q::t,0,p,u,h=>by simp at h;subst h;rfl
 |q::t,i+1,p,u,h=>by
  rw[fl,show(i+1)*2+1=i*2+1+1+1 by omega,List.set_cons_succ,List.set_cons_succ,List.set_cons_succ,fl,L7 t i p u (by simpa using h)]
theorem Lz(q:Value→Bool):∀l:List (Value×Value),(∀p∈l,q p.1=true∧q p.2=true)→∀v∈fl l,q v=true
 | [],_,v,h=>by simp[fl]at h
 |p::t,hp,v,h=>by
  rw[fl,List.mem_cons,List.mem_cons]at h;rcases h with rfl|rfl|h
  ·exact(hp p (by simp)).1
  ·exact(hp p (by simp)).2
  ·exact Lz q t (fun x hx=>hp x (by simp[hx])) v h
theorem MD:∀(l:List (Value×Value)) (j:Nat) (u:Value),(fl l)[j]? =some u→∃i p,l[i]? =some p∧((j=i*2∧u=p.1)∨(j=i*2+1∧u=p.2))
 | [],j,u,h=>by simp[fl]at h
 |p::t,0,u,h=>by simp[fl]at h;exact⟨0,p,rfl,.inl ⟨rfl,h.symm⟩⟩
 |p::t,1,u,h=>by simp[fl]at h;exact⟨0,p,rfl,.inr ⟨rfl,h.symm⟩⟩
 |p::t,j+2,u,h=>by
  rw[fl,List.getElem?_cons_succ,List.getElem?_cons_succ]at h;obtain⟨i,q,h1,h2⟩:=MD t j u h;refine⟨i+1,q,by simpa using h1,?_⟩
  rcases h2 with⟨h2,h3⟩|⟨h2,h3⟩
  ·exact .inl ⟨by omega,h3⟩
  ·exact .inr ⟨by omega,h3⟩
abbrev rp(r:Rw):Value×Value:=(.int .i64 r.1,.int .i64 r.2)
def rcs(l:List Rw):List Value:=fl (l.map rp)
theorem JB(l:List Rw):(rcs l).length=l.length*2:=by unfold rcs;rw[Gr,List.length_map]
theorem Gu(l:List Rw):∀v∈rcs l,v.oneCell'=true:=Lz _ _ fun p hp=>by
 obtain⟨r,_,rfl⟩:=List.mem_map.1 hp;exact⟨rfl,rfl⟩
theorem Ry(l:List Rw)(i:Nat)(r:Rw)(h:l[i]? =some r):(rcs l)[i*2]? =some (.int .i64 r.1)∧(rcs l)[i*2+1]? =some (.int .i64 r.2):=
 Tn _ i (rp r) (by rw[List.getElem?_map,h];rfl)
theorem oF(l m:List Rw):rcs (l++m)=rcs l++rcs m:=by unfold rcs;rw[List.map_append,Ib]
theorem Xe(l:List Rw)(k:Nat):rcs (l.take k)=(rcs l).take (k*2):=by unfold rcs;rw[List.map_take,KW]
def OR(B:Nat)(w:World)(v:Value)(l:List Rw):Prop:=w.ownsRow B 57 2 v l.length (rcs l)
abbrev Tv:Type:=ByteArray×Value×List Rw
def tcs(x:List Tv):List Value:=fl (x.map fun t=>(.string t.1,t.2.1))
def tbs(x:List Tv):List Tb:=x.map fun t=>(t.1,t.2.2)
theorem It(x:List Tv):(tcs x).length=x.length*2:=by unfold tcs;rw[Gr,List.length_map]
theorem ME(x:List Tv)(i:Nat)(t:Tv)(h:x[i]? =some t):(tcs x)[i*2]? =some (.string t.1)∧(tcs x)[i*2+1]? =some t.2.1:=
 Tn _ i (.string t.1,t.2.1) (by rw[List.getElem?_map,h];rfl)
theorem ip(x y:List Tv):tcs (x++y)=tcs x++tcs y:=by unfold tcs;rw[List.map_append,Ib]
theorem Xf(x:List Tv)(k:Nat):tcs (x.take k)=(tcs x).take (k*2):=by unfold tcs;rw[List.map_take,KW]
theorem PX(x:List Tv)(k:Nat):tcs (x.drop k)=(tcs x).drop (k*2):=by unfold tcs;rw[List.map_drop,Ki]
theorem OP(x:List Tv)(i:Nat)(t:Tv)(u:Value)(l:List Rw)(h:x[i]? =some t):(tcs x).set (i*2+1) u=tcs (x.set i (t.1,u,l)):=by
 unfold tcs;rw[L7 _ i (.string t.1,t.2.1) u (by rw[List.getElem?_map,h];rfl),List.map_set]
theorem PY(x:List Tv)(i:Nat)(t:Tv)(n:ByteArray)(l:List Rw)(h:x[i]? =some t):(tcs x).set (i*2) (.string n)=tcs (x.set i (n,t.2.1,l)):=by
 unfold tcs;rw[OO _ i (.string t.1,t.2.1) _ (by rw[List.getElem?_map,h];rfl),List.map_set]
theorem mt(x:List Tv):(tbs x).length=x.length:=List.length_map ..
theorem Xg(x:List Tv)(i:Nat)(t:Tv)(h:x[i]? =some t):(tbs x)[i]? =some (t.1,t.2.2):=by unfold tbs;rw[List.getElem?_map,h];rfl
theorem IX(x:List Tv)(i:Nat)(t:Tb)(h:(tbs x)[i]? =some t):∃u,x[i]? =some (t.1,u,t.2):=by
 unfold tbs at h;rw[List.getElem?_map]at h
 cases hx:x[i]? with
 |none=>rw[hx]at h;cases h
 |some y=>rw[hx]at h;injection h with h;subst h;exact⟨y.2.1,rfl⟩
theorem KX(x:List Tv)(i:Nat)(n:ByteArray)(u:Value)(l:List Rw):tbs (x.set i (n,u,l))=(tbs x).set i (n,l):=by unfold tbs;rw[List.map_set]
def UZ(a b:Tv):Prop:=a.2.1.ownBlock=none∨a.2.1.ownBlock≠b.2.1.ownBlock
structure FS(B:Nat)(w:World)(v:Value)(x:List Tv):Prop where
 own:w.ownsRow B 55 2 v x.length (tcs x)
 rows:∀t∈x,OR B w t.2.1 t.2.2
 apart:∀(i j:Nat) (a b:Tv),i≠j→x[i]? =some a→x[j]? =some b→UZ a b
theorem lE{w w':World}{B:Nat}{e:TypeId}{z n:Nat}{v:Value}{xs:List Value}(h:w.ownsRow B e z v n xs)(hk:∀g,v.ownBlock=some g→w'.heap[g]? =w.heap[g]?):w'.ownsRow B e z v n xs:=by
 refine⟨h.1,?_⟩;rcases h.2 with h2|⟨g,cap,cur,rfl,hb,hg,hr⟩
 ·exact .inl h2
 ·exact .inr ⟨g,cap,cur,rfl,hb,(hk g rfl).trans hg,hr⟩
theorem i7{w:World}{B B':Nat}{e:TypeId}{z n:Nat}{v:Value}{xs:List Value}(h:w.ownsRow B e z v n xs)(hB:B'≤B):w.ownsRow B' e z v n xs:=by
 refine⟨h.1,?_⟩;rcases h.2 with h2|⟨g,cap,cur,rfl,hb,hr⟩
 ·exact .inl h2
 ·exact .inr ⟨g,cap,cur,rfl,Nat.le_trans hB hb,hr⟩
theorem Ac{w:World}{B z n:Nat}{e:TypeId}{v:Value}{xs:List Value}(h:w.ownsRow B e z v n xs):∃a c,v=.slice a n c:=by
 rcases h.2 with⟨rfl,h0⟩|⟨g,cap,cur,rfl,_⟩
 ·exact⟨_,_,by rw[h0]⟩
 ·exact⟨_,_,rfl⟩
theorem m9{w:World}{B z n g:Nat}{e:TypeId}{v:Value}{xs:List Value}(h:w.ownsRow B e z v n xs)(hg:v.ownBlock=some g):∃cur,Blk w g e cur:=by
 rcases h.2 with⟨rfl,h0⟩|⟨g',cap,cur,rfl,_,hh,_⟩
 ·cases hg
 ·simp[Value.ownBlock]at hg;subst hg;exact⟨cur,hh⟩
theorem JC{w:World}{B B' z n z' n' g g':Nat}{e e':TypeId}{v v':Value}{xs Da:List Value}(h:w.ownsRow B e z v n xs)(h':w.ownsRow B' e' z' v' n' Da)(hg:v.ownBlock=some g)(yB:v'.ownBlock=some g')(b7:e≠e'):g≠g':=by
 obtain⟨c,hc⟩:=m9 h hg;obtain⟨c',tG⟩:=m9 h' yB;exact hc.ne_ tG b7
theorem aS{w w':World}{B:Nat}{e:TypeId}{z n:Nat}{v:Value}{xs:List Value}(h:w.ownsRow B e z v n xs)(hb:Below w.heap.size w w'):w'.ownsRow B e z v n xs:=
 lE h fun g hg=>hb.block g (h.lt g hg).2
theorem OR.rr{B:Nat}{w:World}{v:Value}{l:List Rw}(h:OR B w v l):RR w v l:=by
 rcases h.2 with⟨rfl,h0⟩|⟨g,cap,cur,rfl,hb,hg,hn,_,hs,ht⟩
 ·exact .inl ⟨_,_,List.eq_nil_of_length_eq_zero h0,rfl⟩
 ·refine .inr ⟨g,0,cap,rfl,hn,fun i r hi=>?_⟩
  obtain⟨h1,h2⟩:=Ry l i r hi;have hl:i<l.length:=(List.getElem?_eq_some_iff.1 hi).1;have c:=fun j hj=>World.ownsRow.cellAt h (g:=g) (n:=l.length) (cap:=cap) j hj
  rw[Nat.zero_add];exact⟨(c (i*2) (by omega)).trans h1,(c (i*2+1) (by omega)).trans h2⟩
theorem FS.sr{B:Nat}{w:World}{v:Value}{x:List Tv}(h:FS B w v x):SR w v (tbs x):=by
 rcases h.own.2 with⟨rfl,h0⟩|⟨g,cap,cur,rfl,hb,hg,hn,_,hs,ht⟩
 ·have:x=[]:=List.eq_nil_of_length_eq_zero h0
  subst this;exact .inl ⟨_,_,rfl,rfl⟩
 ·refine .inr ⟨g,0,cap,by rw[mt],by rw[mt];exact hn,fun i t hi=>?_⟩
  obtain⟨u,hu⟩:=IX x i t hi;obtain⟨h1,h2⟩:=ME x i _ hu;have hl:i<x.length:=(List.getElem?_eq_some_iff.1 hu).1;have c:=fun j hj=>World.ownsRow.cellAt h.own (g:=g) (n:=x.length) (cap:=cap) j hj
  rw[Nat.zero_add];exact⟨(c (i*2) (by omega)).trans h1,u,(c (i*2+1) (by omega)).trans h2,(h.rows _ (List.mem_of_getElem? hu)).rr⟩
theorem FS.keep{w w':World}{B:Nat}{v:Value}{x:List Tv}(h:FS B w v x)(h1:∀g,v.ownBlock=some g→w'.heap[g]? =w.heap[g]?)(h2:∀t∈x,∀g,t.2.1.ownBlock=some g→w'.heap[g]? =w.heap[g]?):FS B w' v x:=
 ⟨lE h.own h1,fun t ht=>lE (h.rows t ht) (h2 t ht),h.apart⟩
theorem FS.below{w w':World}{B:Nat}{v:Value}{x:List Tv}(h:FS B w v x)(hb:Below w.heap.size w w'):FS B w' v x:=
 h.keep (fun g hg=>hb.block g (h.own.lt g hg).2) (fun t ht g hg=>hb.block g ((h.rows t ht).lt g hg).2)
theorem FS.mono{w:World}{B B':Nat}{v:Value}{x:List Tv}(h:FS B w v x)(hB:B'≤B):FS B' w v x:=
 ⟨i7 h.own hB,fun t ht=>i7 (h.rows t ht) hB,h.apart⟩
theorem FS.form{w:World}{B:Nat}{v:Value}{x:List Tv}(h:FS B w v x)(hp:0<x.length):∃g cap,v=.slice (some ⟨g,0,none⟩) x.length cap∧B≤g∧g<w.heap.size:=h.own.form hp
theorem FS.at_{w:World}{B g cap:Nat}{x:List Tv}(h:FS B w (.slice (some ⟨g,0,none⟩) x.length cap) x)(i:Nat)(t:Tv)(hi:x[i]? =some t):w.cell? ⟨g,i*2,none⟩=some (.string t.1)∧w.cell? ⟨g,i*2+1,none⟩=some t.2.1:=by
 obtain⟨h1,h2⟩:=ME x i t hi;have hl:i<x.length:=(List.getElem?_eq_some_iff.1 hi).1;have c:=fun j hj=>World.ownsRow.cellAt h.own (g:=g) (n:=x.length) (cap:=cap) j hj
 exact⟨(c (i*2) (by omega)).trans h1,(c (i*2+1) (by omega)).trans h2⟩
theorem JL:(55:TypeId)≠57:=by decide
def KC{α:Type}(p:α→Bool)(l:List α):Nat:=(l.takeWhile p).length
theorem IF{α:Type}(p:α→Bool):∀l:List α,KC p l≤l.length
 | []=>Nat.le_refl _
 |a::t=>by
  unfold KC;rw[List.takeWhile_cons]
  split
  ·have:=IF p t
   unfold KC at this;simp only[List.length_cons];omega
  ·simp
theorem IG{α:Type}(p:α→Bool):∀(l:List α) (i:Nat) (x:α),i<KC p l→l[i]? =some x→p x=true
 | [],i,x,h,_=>by simp[KC]at h
 |a::t,i,x,h,hx=>by
  unfold KC at h;rw[List.takeWhile_cons]at h
  split at h
  ·rename_i ha
   cases i with
   |zero=>simp at hx;subst hx;exact ha
   |succ i=>exact IG p t i x (by simpa[KC]using h) (by simpa using hx)
  ·simp at h
theorem MF{α:Type}(p:α→Bool):∀(l:List α) (x:α),l[KC p l]? =some x→p x=false
 | [],x,h=>by simp at h
 |a::t,x,h=>by
  unfold KC at h;rw[List.takeWhile_cons]at h
  split at h
  ·exact MF p t x (by simpa[KC]using h)
  ·rename_i ha;simp at h;subst h;simpa using ha
theorem Jd{α:Type}(p:α→Bool)(l:List α)(i:Nat)(hi:i≤l.length)(h1:∀t x,t<i→l[t]? =some x→p x=true)(h2:∀x,l[i]? =some x→p x=false):KC p l=i:=by
 rcases Nat.lt_trichotomy (KC p l) i with h|h|h
 ·have hl:KC p l<l.length:=by omega
  have:=MF p l _ (List.getElem?_eq_getElem hl);rw[h1 _ _ h (List.getElem?_eq_getElem hl)]at this
  cases this
 ·exact h
 ·have hl:i<l.length:=by have:=IF p l;omega
  have:=h2 _ (List.getElem?_eq_getElem hl);rw[IG p l i _ h (List.getElem?_eq_getElem hl)]at this
  cases this
def PZ{α:Type}(p:α→Bool)(l:List α):Prop:=∀(i j:Nat) (a b:α),i≤j→l[i]? =some a→l[j]? =some b→p b=true→p a=true
def upR(l:List Rw):Prop:=∀(i j:Nat) (a b:Rw),i<j→l[i]? =some a→l[j]? =some b→a.1<b.1
def ltK(k:Int)(r:Rw):Bool:=decide (r.1<k)
theorem Xh{l:List Rw}(h:upR l)(k:Int):PZ (ltK k) l:=by
 intro i j a b eT ha hb hp;have aA:=of_decide_eq_true hp;rcases Nat.lt_or_ge i j with h1|h1
 ·have:=h i j a b h1 ha hb
  exact decide_eq_true (by omega)
 ·have:i=j:=by omega
  subst this;rw[ha]at hb;injection hb with hb;subst hb;exact hp
def Hr(l:List Rw)(k:Int):Nat:=KC (ltK k) l
def Im(l:List Rw)(k:Int):Bool:=match l[Hr l k]? with|some r=>r.1==k|none=>false
def OQ(l:List Rw)(k v:Int):List Rw:=l.take (Hr l k)++(k,v)::l.drop (Hr l k)
def MG(l:List Rw)(k v:Int):List Rw×Int:=
 if Im l k=true then(l.set (Hr l k) (k,v),0)else if 64≤l.length then(l,11)else(OQ l k v,0)
def MH(l:List Rw)(k:Int):List Rw×Int:=
 match l[Hr l k]? with
 |some r=>if r.1=k then(if 999999≤r.2 then(l,2)else(l.set (Hr l k) (k,r.2+1),0))else(l,0)
 |none=>(l,0)
def d8(kd:Bool)(k:Int)(r:Rw):Bool:= !kd||r.1==k
def Hk(kd:Bool)(k:Int)(l:List Rw):List Rw:=l.filter (d8 kd k)
def JU(kd:Bool)(k:Int)(l:List Rw):List Rw:=l.filter fun r=> !d8 kd k r
def upN(s:List Tb):Prop:=∀(i j:Nat) (a b:Tb),i<j→s[i]? =some a→s[j]? =some b→a.1.data.toList<b.1.data.toList
def ltN(n:ByteArray)(t:Tb):Bool:=decide (t.1.data.toList<n.data.toList)
theorem P0{s:List Tb}(h:upN s)(n:ByteArray):PZ (ltN n) s:=by
 intro i j a b eT ha hb hp;have aA:=of_decide_eq_true hp;rcases Nat.lt_or_ge i j with h1|h1
 ·have:=h i j a b h1 ha hb
  exact decide_eq_true (List.lt_trans this aA)
 ·have:i=j:=by omega
  subst this;rw[ha]at hb;injection hb with hb;subst hb;exact hp
def oR(s:List Tb)(n:ByteArray):Nat:=KC (ltN n) s
def H9(s:List Tb)(n:ByteArray):List Tb:=s.take (oR s n)++(n,[])::s.drop (oR s n)
def bv:List Tb→ByteArray→Nat→Int
 | [],_,_=> -1
 |t::r,n,i=>if(t.1.toList==n.toList)=true then(i:Int)else bv r n (i+1)
theorem IA:∀(s:List Tb) (n:ByteArray) (i:Nat),(bv s n i= -1∧∀t∈s,t.1≠n)∨∃k t,bv s n i=((i+k:Nat):Int)∧s[k]? =some t∧t.1=n∧∀j u,j<k→s[j]? =some u→u.1≠n
 | [],n,i=>.inl ⟨rfl,fun t h=>by simp at h⟩
 |t::r,n,i=>by
  rw[bv]
  by_cases h:(t.1.toList==n.toList)=true
  ·rw[if_pos h]
   refine .inr ⟨0,t,by simp,rfl,?_,fun j u hj=>by omega⟩
   rw[beq_iff_eq,Lib.toList_data,Lib.toList_data]at h;apply ByteArray.ext;exact Array.toList_inj.1 h
  ·rw[if_neg h]
   have b7:t.1≠n:=fun e=>h (by rw[e];simp)
   rcases IA r n (i+1)with⟨h1,h2⟩|⟨k,u,h1,h2,h3,h4⟩
   ·refine .inl ⟨h1,fun x hx=>?_⟩
    rcases List.mem_cons.1 hx with rfl|hx
    ·exact b7
    ·exact h2 x hx
   ·refine .inr ⟨k+1,u,by rw[h1];congr 1;omega,by simpa using h2,h3,fun j x hj hx=>?_⟩
    cases j with
    |zero=>simp at hx;subst hx;exact b7
    |succ j=>exact h4 j x (by omega) (by simpa using hx)
def JD(kd:Int)(K V:Int)(kb:Bool)(l:List Rw):List Rw×Int:=
 if kd=2 then MG l K V else if kd=3 then MH l K else(JU kb K l,0)
def doS(s:List Tb)(kd:Int)(n:ByteArray)(K V:Int)(kb:Bool):List Tb×List Rw×Int:=
 if kd=5 then(if 0≤bv s n 0 then(s,[],9)else if 16≤s.length then(s,[],11)else(H9 s n,[],0))
 else if bv s n 0<0 then(s,[],8)
 else match s[(bv s n 0).toNat]? with
  |some t=>if kd=1 then(s,Hk kb K t.2,0)else(s.set (bv s n 0).toNat (t.1,(JD kd K V kb t.2).1),[],(JD kd K V kb t.2).2)
  |none=>(s,[],8)
def inI(n:Int):Prop:=0≤n∧n≤999999
structure Ii(l:List Rw):Prop where
 len:l.length≤64
 up:upR l
 ins:∀r∈l,inI r.1∧inI r.2
structure KD(s:List Tb):Prop where
 len:s.length≤16
 up:upN s
 each:∀t∈s,0<t.1.size∧t.1.size≤30∧Ii t.2
theorem To{l:List Rw}(h:upR l)(i:Nat)(r:Rw)(hr:l[i]? =some r)(v:Int):upR (l.set i (r.1,v)):=by
 intro a b x y fa hx hy;rw[List.getElem?_set]at hx hy;have hl:i<l.length:=(List.getElem?_eq_some_iff.1 hr).1
 split at hx
 ·rename_i e;subst e
  try rw[if_pos hl]at hx
  injection hx with hx;subst hx;rw[if_neg (by omega)]at hy
  have z:=h _ _ r _ fa hr hy;exact z
 ·split at hy
  ·rename_i e;subst e
   try rw[if_pos hl]at hy
   injection hy with hy;subst hy;have z:=h _ _ _ r fa hx hr;exact z
  ·exact h _ _ _ _ fa hx hy
theorem MI{l:List Rw}{k:Int}(h:Im l k=true):∃r,l[Hr l k]? =some r∧r.1=k:=by
 unfold Im at h
 split at h
 ·rename_i r hr;exact⟨r,hr,by simpa using h⟩
 ·cases h
theorem Tp{l:List Rw}{k:Int}(h:Im l k=false)(hu:upR l):∀(i:Nat) (r:Rw),l[i]? =some r→(i<Hr l k→r.1<k)∧(Hr l k≤i→k<r.1):=by
 intro i r hr;refine⟨fun h1=>of_decide_eq_true (IG (ltK k) l i r h1 hr),fun h1=>?_⟩
 have bw:i<l.length:=(List.getElem?_eq_some_iff.1 hr).1;have au:Hr l k<l.length:=by omega
 have h2:=MF (ltK k) l _ (List.getElem?_eq_getElem au);have h3:=of_decide_eq_false h2;unfold Im at h;rw[List.getElem?_eq_getElem au]at h;simp only at h;have h4:l[Hr l k].1≠k:=fun e=>by rw[e]at h;simp at h
 have h5:k<l[Hr l k].1:=by
  have:¬(l[Hr l k].1<k):=h3;omega
 rcases Nat.lt_or_ge (Hr l k) i with h6|h6
 ·have:=hu _ _ _ _ h6 (List.getElem?_eq_getElem au) hr;omega
 ·have:i=Hr l k:=by omega
  subst this;rw[List.getElem?_eq_getElem au]at hr;injection hr with hr;subst hr;exact h5
theorem Rz{α:Type}(l:List α)(n:Nat)(x:α)(hn:n≤l.length)(i:Nat):(l.take n++x::l.drop n)[i]? =if i<n then l[i]? else if i=n then some x else l[i-1]? :=by
 have ht:(l.take n).length=n:=by rw[List.length_take];omega
 rw[List.getElem?_append,ht]
 split
 ·rename_i h;rw[List.getElem?_take,if_pos h]
 ·rename_i h
  split
  ·rename_i e;subst e;simp
  ·rename_i e
   obtain⟨d,rfl⟩:∃d,i=n+1+d:=⟨i-n-1,by omega⟩
   rw[show n+1+d-n=d+1 by omega,List.getElem?_cons_succ,List.getElem?_drop]
   congr 1;omega
theorem Zz{l:List Rw}{k:Int}(h:Im l k=false)(hu:upR l)(v:Int):upR (OQ l k v):=by
 have hh:=Tp h hu;have hle:Hr l k≤l.length:=IF (ltK k) l;intro a b x y fa hx hy;unfold OQ at hx hy;rw[Rz l _ _ hle]at hx hy
 split at hx
 ·rename_i h1
  split at hy
  ·exact hu _ _ _ _ fa hx hy
  ·split at hy
   ·injection hy with hy;subst hy;exact(hh a x hx).1 h1
   ·have h2:=(hh a x hx).1 h1
    have h3:=(hh _ y hy).2 (by omega)
    omega
 ·split at hx
  ·injection hx with hx;subst hx
   rw[if_neg (by omega),if_neg (by omega)]at hy
   exact(hh _ y hy).2 (by omega)
  ·rw[if_neg (by omega),if_neg (by omega)]at hy
   exact hu _ _ _ _ (by omega) hx hy
theorem L8{α:Type}{l:List α}{i:Nat}{x y:α}(h:y∈l.set i x):y=x∨y∈l:=by
 rcases List.mem_or_eq_of_mem_set h with h|h
 ·exact .inr h
 ·exact .inl h
theorem U0{l:List Rw}{k v:Int}(h:Ii l)(hk:inI k)(hv:inI v):Ii (MG l k v).1:=by
 unfold MG
 by_cases hc:Im l k=true
 ·rw[if_pos hc]
  obtain⟨r,hr,rfl⟩:=MI hc;refine⟨by rw[List.length_set];exact h.len,To h.up _ r hr v,fun x hx=>?_⟩
  rcases L8 hx with rfl|hx
  ·exact⟨hk,hv⟩
  ·exact h.ins x hx
 ·rw[if_neg hc]
  by_cases eZ:64≤l.length
  ·rw[if_pos eZ];exact h
  ·rw[if_neg eZ]
   have hle:=IF (ltK k) l;refine⟨?_,Zz (by simpa using hc) h.up v,fun x hx=>?_⟩
   ·show(OQ l k v).length≤64
    unfold OQ;rw[List.length_append,List.length_cons,List.length_take,List.length_drop];unfold Hr;omega
   ·unfold OQ at hx
    rcases List.mem_append.1 hx with hx|hx
    ·exact h.ins x (List.mem_of_mem_take hx)
    ·rcases List.mem_cons.1 hx with rfl|hx
     ·exact⟨hk,hv⟩
     ·exact h.ins x (List.mem_of_mem_drop hx)
theorem U1{l:List Rw}{k:Int}(h:Ii l):Ii (MH l k).1:=by
 unfold MH
 split
 ·rename_i r hr
  by_cases hk:r.1=k
  ·rw[if_pos hk]
   by_cases h9:999999≤r.2
   ·rw[if_pos h9];exact h
   ·rw[if_neg h9]
    have du:=h.ins r (List.mem_of_getElem? hr);subst hk;refine⟨by rw[List.length_set];exact h.len,To h.up _ r hr _,fun x hx=>?_⟩
    rcases L8 hx with rfl|hx
    ·exact⟨du.1,by have:=du.2.1;unfold inI;omega⟩
    ·exact h.ins x hx
  ·rw[if_neg hk];exact h
 ·exact h
theorem U2{l:List Rw}(q:Rw→Bool)(h:upR l):upR (l.filter q):=by
 have hp:l.Pairwise (fun a b=>a.1<b.1):=by
  rw[List.pairwise_iff_getElem];intro i j hi hj eT;exact h i j _ _ eT (List.getElem?_eq_getElem hi) (List.getElem?_eq_getElem hj)
 have hq:=hp.filter q;rw[List.pairwise_iff_getElem]at hq;intro i j a b eT ha hb;obtain⟨hi,rfl⟩:=List.getElem?_eq_some_iff.1 ha;obtain⟨hj,rfl⟩:=List.getElem?_eq_some_iff.1 hb;exact hq i j hi hj eT
theorem OS{l:List Rw}(q:Rw→Bool)(h:Ii l):Ii (l.filter q):=
 ⟨Nat.le_trans (List.length_filter_le _ _) h.len,U2 q h.up,fun r hr=>h.ins r (List.mem_filter.1 hr).1⟩
theorem U3{l:List Rw}{kd K V:Int}{kb:Bool}(h:Ii l)(hk:inI K)(hv:inI V):Ii (JD kd K V kb l).1:=by
 unfold JD
 split
 ·exact U0 h hk hv
 ·split
  ·exact U1 h
  ·exact OS _ h
theorem ZA{s:List Tb}(h:upN s)(i:Nat)(t:Tb)(ht:s[i]? =some t)(l:List Rw):upN (s.set i (t.1,l)):=by
 intro a b x y fa hx hy;rw[List.getElem?_set]at hx hy;have hl:i<s.length:=(List.getElem?_eq_some_iff.1 ht).1
 split at hx
 ·rename_i e;subst e
  try rw[if_pos hl]at hx
  injection hx with hx;subst hx;rw[if_neg (by omega)]at hy
  have z:=h _ _ t _ fa ht hy;exact z
 ·split at hy
  ·rename_i e;subst e
   try rw[if_pos hl]at hy
   injection hy with hy;subst hy;have z:=h _ _ _ t fa hx ht;exact z
  ·exact h _ _ _ _ fa hx hy
theorem LA(a b:List UInt8)(h1:¬a<b)(h2:a≠b):b<a:=by
 rcases Decidable.em (b<a)with h|h
 ·exact h
 ·exact absurd (List.le_antisymm (List.not_lt.1 h) (List.not_lt.1 h1)) h2
theorem qbJ{s:List Tb}{n:ByteArray}(h:∀t∈s,t.1≠n)(hu:upN s):∀(i:Nat) (t:Tb),s[i]? =some t→(i<oR s n→t.1.data.toList<n.data.toList)∧(oR s n≤i→n.data.toList<t.1.data.toList):=by
 intro i t ht;refine⟨fun h1=>of_decide_eq_true (IG (ltN n) s i t h1 ht),fun h1=>?_⟩
 have bw:i<s.length:=(List.getElem?_eq_some_iff.1 ht).1;have au:oR s n<s.length:=by omega
 have h2:=of_decide_eq_false (MF (ltN n) s _ (List.getElem?_eq_getElem au));have h4:s[oR s n].1.data.toList≠n.data.toList:=fun e=>h _ (List.getElem_mem au) (by apply ByteArray.ext;exact Array.toList_inj.1 e)
 have h5:n.data.toList<s[oR s n].1.data.toList:=LA _ _ h2 h4;rcases Nat.lt_or_ge (oR s n) i with h6|h6
 ·exact List.lt_trans h5 (hu _ _ _ _ h6 (List.getElem?_eq_getElem au) ht)
 ·have:i=oR s n:=by omega
  subst this;rw[List.getElem?_eq_getElem au]at ht;injection ht with ht;subst ht;exact h5
theorem Xi{s:List Tb}{n:ByteArray}(h:∀t∈s,t.1≠n)(hu:upN s)(l:List Rw):upN (s.take (oR s n)++(n,l)::s.drop (oR s n)):=by
 have hh:=qbJ h hu;have hle:oR s n≤s.length:=IF (ltN n) s;intro a b x y fa hx hy;rw[Rz s _ _ hle]at hx hy
 split at hx
 ·rename_i h1
  split at hy
  ·exact hu _ _ _ _ fa hx hy
  ·split at hy
   ·injection hy with hy;subst hy;exact(hh a x hx).1 h1
   ·exact List.lt_trans ((hh a x hx).1 h1) ((hh _ y hy).2 (by omega))
 ·split at hx
  ·injection hx with hx;subst hx
   rw[if_neg (by omega),if_neg (by omega)]at hy
   exact(hh _ y hy).2 (by omega)
  ·rw[if_neg (by omega),if_neg (by omega)]at hy
   exact hu _ _ _ _ (by omega) hx hy
theorem P1{s:List Tb}{n:ByteArray}(h:bv s n 0<0):∀t∈s,t.1≠n:=by
 rcases IA s n 0 with⟨_,h2⟩|⟨k,t,h1,_⟩
 ·exact h2
 ·omega
theorem Je{s:List Tb}{n:ByteArray}(h:0≤bv s n 0):∃t,s[(bv s n 0).toNat]? =some t∧t.1=n∧(bv s n 0).toNat<s.length:=by
 rcases IA s n 0 with⟨h1,h2⟩|⟨k,t,h1,h2,h3,_⟩
 ·omega
 ·have e:(bv s n 0).toNat=k:=by omega
  rw[e];exact⟨t,h2,h3,(List.getElem?_eq_some_iff.1 h2).1⟩
theorem JV{α:Type}:∀(l:List α) (i:Nat) (x:α),l[i]? =some x→l.set i x=l
 | [],i,x,h=>by simp at h
 |a::t,0,x,h=>by simp at h;subst h;rfl
 |a::t,i+1,x,h=>by rw[List.set_cons_succ,JV t i x (by simpa using h)]
theorem ZB{s:List Tb}(hu:upN s){i:Nat}{t:Tb}(ht:s[i]? =some t):bv s t.1 0=(i:Int):=by
 rcases IA s t.1 0 with⟨_,h2⟩|⟨k,u,h1,h2,h3,_⟩
 ·exact absurd rfl (h2 t (List.mem_of_getElem? ht))
 ·rw[h1,Nat.zero_add]
  congr 1
  rcases Nat.lt_trichotomy k i with h|h|h
  ·have:=hu _ _ _ _ h h2 ht;rw[h3]at this;exact absurd this (List.lt_irrefl _)
  ·exact h
  ·have:=hu _ _ _ _ h ht h2;rw[h3]at this;exact absurd this (List.lt_irrefl _)
theorem Xj{s:List Tb}(hu:upN s){t:Tb}(ht:t∈s):∃i:Nat,bv s t.1 0=(i:Int)∧s[i]? =some t:=by
 obtain⟨i,hi,rfl⟩:=List.getElem_of_mem ht;exact⟨i,ZB hu (List.getElem?_eq_getElem hi),List.getElem?_eq_getElem hi⟩
theorem IH(s:List Tb)(kd:Int)(n:ByteArray)(K V:Int)(kb:Bool):
  (kd=5∧((∃t∈s,t.1=n)∧doS s kd n K V kb=(s,[],9)∨(∀t∈s,t.1≠n)∧16≤s.length∧doS s kd n K V kb=(s,[],11)∨(∀t∈s,t.1≠n)∧s.length<16∧doS s kd n K V kb=(H9 s n,[],0)))∨
  (kd≠5∧(∀t∈s,t.1≠n)∧doS s kd n K V kb=(s,[],8))∨
  (kd≠5∧∃i t,s[i]? =some t∧t.1=n∧doS s kd n K V kb=if kd=1 then(s,Hk kb K t.2,0)else(s.set i (t.1,(JD kd K V kb t.2).1),[],(JD kd K V kb t.2).2)):=by
 by_cases h5:kd=5
 ·left
  refine⟨h5,?_⟩;unfold doS;rw[if_pos h5]
  by_cases hf:0≤bv s n 0
  ·obtain⟨t,h1,h2,_⟩:=Je hf
   exact .inl ⟨⟨t,List.mem_of_getElem? h1,h2⟩,by rw[if_pos hf]⟩
  ·rw[if_neg hf]
   have hn:=P1 (s:=s) (n:=n) (by omega)
   by_cases dR:16≤s.length
   ·exact .inr (.inl ⟨hn,dR,by rw[if_pos dR]⟩)
   ·exact .inr (.inr ⟨hn,by omega,by rw[if_neg dR]⟩)
 ·right
  by_cases hf:bv s n 0<0
  ·left
   refine⟨h5,P1 hf,?_⟩;unfold doS;rw[if_neg h5,if_pos hf]
  ·right
   obtain⟨t,h1,h2,_⟩:=Je (s:=s) (n:=n) (by omega)
   refine⟨h5,_,t,h1,h2,?_⟩;unfold doS;rw[if_neg h5,if_neg hf,h1]
theorem RA{l:List Rw}(hu:upR l){i:Nat}{r:Rw}(hr:l[i]? =some r):Hk true r.1 l=[r]:=by
 have hi:i<l.length:=(List.getElem?_eq_some_iff.1 hr).1;have e:l=l.take i++r::l.drop (i+1):=by
  obtain⟨_,h⟩:=List.getElem?_eq_some_iff.1 hr;rw[←h,←List.drop_eq_getElem_cons hi,List.take_append_drop]
 have h1:(l.take i).filter (d8 true r.1)=[]:=by
  rw[List.filter_eq_nil_iff];intro x hx hp;obtain⟨j,hj⟩:=List.getElem?_of_mem hx;rw[List.getElem?_take]at hj
  split at hj
  ·have:=hu _ _ _ _ (by assumption) hj hr
   unfold d8 at hp;simp at hp;omega
  ·cases hj
 have h2:(l.drop (i+1)).filter (d8 true r.1)=[]:=by
  rw[List.filter_eq_nil_iff];intro x hx hp;obtain⟨j,hj⟩:=List.getElem?_of_mem hx;rw[List.getElem?_drop]at hj;have:=hu _ _ _ _ (by omega:i<i+1+j) hr hj
  unfold d8 at hp;simp at hp;omega
 unfold Hk;rw[e,List.filter_append,h1,List.filter_cons,if_pos (by simp[d8]),h2]
 rfl
def II(l:List Rw)(k v:Int):List Rw:=l.take (Hr l k)++(k,v)::l.drop (if Im l k=true then Hr l k+1 else Hr l k)
theorem OU{α:Type}:∀(l:List α) (i:Nat) (x:α),i<l.length→l.set i x=l.take i++x::l.drop (i+1)
 | [],i,x,h=>by simp at h
 |a::t,0,x,_=>rfl
 |a::t,i+1,x,h=>by rw[List.set_cons_succ,OU t i x (by simpa using h)];rfl
theorem P2{l:List Rw}{k v:Int}(h:Im l k=true):II l k v=l.set (Hr l k) (k,v):=by
 obtain⟨r,hr,_⟩:=MI h;unfold II;rw[if_pos h,OU _ _ _ (List.getElem?_eq_some_iff.1 hr).1]
theorem Xk{l:List Rw}{k v:Int}(h:¬Im l k=true):II l k v=OQ l k v:=by
 unfold II OQ;rw[if_neg h]
theorem Tq{l:List Rw}{k:Int}(hu:upR l)(h:Im l k=true):∃r,l[Hr l k]? =some r∧r.1=k∧Hk true k l=[r]:=by
 obtain⟨r,hr,rfl⟩:=MI h;exact⟨r,hr,rfl,RA hu hr⟩
theorem Tr{l:List Rw}{k:Int}(hu:upR l)(h:Im l k=false):Hk true k l=[]:=by
 unfold Hk;rw[List.filter_eq_nil_iff];intro x hx hp;obtain⟨i,hi⟩:=List.getElem?_of_mem hx;have h1:=Tp h hu i x hi;unfold d8 at hp;simp at hp;rcases Nat.lt_or_ge i (Hr l k)with h2|h2
 ·have:=h1.1 h2;omega
 ·have:=h1.2 h2;omega
def KY(kd:Int)(K V:Int)(kb:Bool)(l:List Rw):List Rw×Int:=
 if kd=2 then(if Hk true K l=[]∧64≤l.length then(l,11)else(II l K V,0))
 else if kd=3 then(match Hk true K l with| []=>(l,0)|r::_=>if 999999≤r.2 then(l,2)else(II l K (r.2+1),0))
 else(JU kb K l,0)
theorem ZC{kd K V:Int}{kb:Bool}{l:List Rw}(hu:upR l):KY kd K V kb l=JD kd K V kb l:=by
 unfold KY JD
 by_cases h2:kd=2
 ·rw[if_pos h2,if_pos h2]
  unfold MG
  cases hh:Im l K with
  |true=>
   obtain⟨r,_,_,hg⟩:=Tq hu hh;rw[hg,if_neg (by simp),if_pos rfl,P2 hh]
  |false=>
   rw[Tr hu hh,if_neg (by decide:¬(false=true)),Xk (by rw[hh];decide)]
   by_cases eZ:64≤l.length
   ·rw[if_pos ⟨rfl,eZ⟩,if_pos eZ]
   ·rw[if_neg (fun h=>eZ h.2),if_neg eZ]
 ·rw[if_neg h2,if_neg h2]
  by_cases h3:kd=3
  ·rw[if_pos h3,if_pos h3]
   unfold MH
   cases hh:Im l K with
   |true=>
    obtain⟨r,hr,hk,hg⟩:=Tq hu hh;rw[hg,hr];simp only;rw[if_pos hk,P2 hh]
   |false=>
    rw[Tr hu hh];simp only
    split
    ·rename_i r hr
     have:r.1≠K:=fun e=>by
      unfold Im at hh;rw[hr]at hh;simp[e]at hh
     rw[if_neg this]
    ·rfl
  ·rw[if_neg h3,if_neg h3]
theorem Ts{α:Type}{R:α→α→Prop}(ht:∀a b c,R a b→R b c→R a c){l:List α}(h:∀(i:Nat) (a b:α),l[i]? =some a→l[i+1]? =some b→R a b):∀(i j:Nat) (a b:α),i<j→l[i]? =some a→l[j]? =some b→R a b:=by
 intro i j
 induction j with
 |zero=>intro a b h;omega
 |succ j ih=>
  intro a b eT ha hb;rcases Nat.lt_or_ge i j with h1|h1
  ·have hj:j<l.length:=by have:=(List.getElem?_eq_some_iff.1 hb).1;omega
   exact ht _ _ _ (ih a l[j] h1 ha (List.getElem?_eq_getElem hj)) (h j _ _ (List.getElem?_eq_getElem hj) hb)
  ·have:i=j:=by omega
   subst this;exact h i _ _ ha hb
theorem Tt{a b:Int}(h:a<b):Lib.compareInt a b= -1:=by unfold Lib.compareInt;rw[if_pos h]
theorem Tu{a b:Int}(h:a=b):Lib.compareInt a b=0:=by unfold Lib.compareInt;rw[if_neg (by omega),if_neg (by omega)]
theorem Tw{a b:Int}(h:b<a):Lib.compareInt a b=1:=by unfold Lib.compareInt;rw[if_neg (by omega),if_pos h]
theorem LC:∀a b:List UInt8,(a<b→Lib.compareBytes a b= -1)∧(a=b→Lib.compareBytes a b=0)∧(b<a→Lib.compareBytes a b=1)
 | [],[]=>⟨fun h=>absurd h (List.lt_irrefl _),fun _=>rfl,fun h=>absurd h (List.lt_irrefl _)⟩
 | [],y::t=>⟨fun _=>rfl,(fun h=>by cases h),fun h=>absurd h (List.not_lt_nil _)⟩
 |x::r,[]=>⟨fun h=>absurd h (List.not_lt_nil _),(fun h=>by cases h),fun _=>rfl⟩
 |x::r,y::t=>by
  obtain⟨i1,i2,i3⟩:=LC r t;unfold Lib.compareBytes;refine⟨fun h=>?_,fun h=>?_,fun h=>?_⟩
  ·rcases List.cons_lt_cons_iff.1 h with h|⟨h,h2⟩
   ·rw[if_pos h]
   ·subst h;rw[if_neg (UInt8.lt_irrefl _),if_neg (UInt8.lt_irrefl _)];exact i1 h2
  ·injection h with h1 h2
   subst h1;rw[if_neg (UInt8.lt_irrefl _),if_neg (UInt8.lt_irrefl _)];exact i2 h2
  ·rcases List.cons_lt_cons_iff.1 h with h|⟨h,h2⟩
   ·rw[if_neg (UInt8.lt_asymm h),if_pos h]
   ·subst h;rw[if_neg (UInt8.lt_irrefl _),if_neg (UInt8.lt_irrefl _)];exact i3 h2
theorem P3(r0 r1 k:Int)(w:World):Calls Tryz.prog 138 #[.agg #[.int .i64 r0,.int .i64 r1],.int .i64 k] w fun e w'=>e=.returned (.int .i64 (Lib.compareInt r0 k))∧Below w.heap.size w w':=by
 have HC:=qid (fun W=>Tryz.cmp_Compare_int r0 k W)
 have HB:=qid ((Below.refl w.heap.size w).alloc (Nat.le_refl _) (.cells #[.int .i64 r0,.int .i64 r1] 57));go_enter Tryz.func138,Tryz.ntmps138;go_wp2_with (go_at_call 139;(refine(HC.out _).mono ?_);rintro e w2 ⟨rfl,hw⟩;obtain rfl:=hw);go_ret;exact⟨rfl,HB.out⟩
theorem P4(n:ByteArray)(u:Value)(m:ByteArray)(w:World):Calls Tryz.prog 98 #[.agg #[.string n,u],.string m] w fun e w'=>e=.returned (.int .i64 (Lib.compareBytes n.data.toList m.data.toList))∧Below w.heap.size w w':=by
 have HC:=qid (fun W=>Tryz.strings_Compare n m W)
 have HB:=qid ((Below.refl w.heap.size w).alloc (Nat.le_refl _) (.cells #[.string n,u] 55));go_enter Tryz.func98,Tryz.ntmps98;go_wp2_with (go_at_call 67;(refine(HC.out _).mono ?_);rintro e w2 ⟨rfl,hw⟩;obtain rfl:=hw);go_ret;exact⟨rfl,HB.out⟩
theorem P5(v:Value)(l:List Rw)(k:Int)(w:World)(h:RR w v l)(hm:PZ (ltK k) l)(hl:l.length≤1000000):
  Calls Tryz.prog 137 #[v,.int .i64 k,.func (.func 138) #[] #[]] w fun e w'=>e=.returned (.tuple #[.int .i64 (Hr l k:Nat),.bool (Im l k)])∧Below w.heap.size w w':=by
 obtain⟨R,hR⟩:∃R,Hr l k=R:=⟨_,rfl⟩;obtain⟨F,hF⟩:∃F,Im l k=F:=⟨_,rfl⟩;rw[hR,hF];obtain⟨a,cap,rfl⟩:=h.form;obtain⟨HH,HM,HR,HF⟩:=hZ4 h hm hR hF;clear h hm hR hF;have fC:∀args w,(callFunc 138 args).run Tryz.prog w=.ok (.enter 138 args) w:=fun args w=>by show Sem.run Tryz.prog (callFunc 138 args) w=_;go_simp
 go_enter Tryz.func137,Tryz.ntmps137;go_wp2
 go_loopg [9,10] l.length (fun gk u9 iW wx=>∃lo hi:Nat,u9=.int .i64 (lo:Int)∧iW=.int .i64 (hi:Int)∧lo≤hi∧hi≤l.length∧hi-lo≤gk∧Hid (Below w.heap.size w wx)∧Hid ((∀(t:Nat) (x:Rw),t<lo→l[t]? =some x→ltK k x=true)∧(∀(t:Nat) (x:Rw),hi≤t→l[t]? =some x→ltK k x=false)))
 case atStart=>exact⟨0,l.length,rfl,rfl,Nat.zero_le _,Nat.le_refl _,by omega,Below.refl _ _,⟨fun t x ht=>absurd ht (Nat.not_lt_zero _),fun t x h1 h2=>by have:=(List.getElem?_eq_some_iff.1 h2).1;omega⟩⟩
 case round=>
  obtain⟨lo,hi,rfl,rfl,Ak,eO,hg,HB,I⟩:=hrel
  by_cases aD:lo<hi
  ·obtain⟨m,jD⟩:∃m,(lo+hi) / 2=m:=⟨_,rfl⟩
   have ja:m<l.length:=by omega
   have dP:=HH.out.below HB.out;obtain⟨b,o,cp,he,cL,hx⟩:=dP.inv (by omega)
   injection he with ea _ ec;subst ea ec;obtain⟨r,bJ⟩:∃r,l[m]=r:=⟨_,rfl⟩;have gN:l[m]? =some r:=by rw[List.getElem?_eq_getElem ja,bJ]
   obtain⟨x0,x1⟩:=hx m r gN;have wm:((lo:Int)+(hi:Int)) / 2=(m:Int):=by omega
   obtain⟨iQ,ej⟩:=hZ2 gN jD;have l0:(0:Int)≤(m:Int):=by omega
   have l1:(m:Int)<(l.length:Int):=by omega
   obtain⟨r0,r1⟩:=r;have HC:=qid (P3 r0 r1 k wr);obtain⟨m1,gZ⟩:∃m1,m+1=m1:=⟨_,rfl⟩;have wk:IntKind.i64.wrap ((m:Int)+1)=(m1:Int):=by rw[show(m:Int)+1=(m1:Int) by omega];exact IntWalk.i64_in _ (by omega)
   have nL:=qid gZ;clear hx gN dP jD bJ ja gZ
   by_cases hc:r0<k
   ·have hq:=Tt hc
    rw[hq]at HC;have qD:=qid hc;clear hc hq;go_wp2_with (go_at_call 138;(refine HC.out.mono ?_);rintro e w2 ⟨rfl,aA⟩;have aL:=qid aA;clear aA);go_roundg (hi-m1)
    case measure=>have:=ej.out;have:=nL.out;omega
    case rel=>
     have e1:=ej.out;have e2:=nL.out;refine⟨m1,hi,rfl,rfl,by omega,eO,by omega,HB.out.trans (aL.out.mono HB.out.size),fun t x ht hx=>?_,I.out.2⟩
     exact HM.out t m x _ (by omega) hx iQ.out (decide_eq_true qD.out)
   ·have hq:Lib.compareInt r0 k=0∨Lib.compareInt r0 k=1:=by
     rcases Int.lt_trichotomy r0 k with h|h|h
     ·exact absurd h hc
     ·exact .inl (Tu h)
     ·exact .inr (Tw h)
    have qD:=qid hc;clear hc;rcases hq with hq|hq
    all_goals
     rw[hq]at HC;clear hq;go_wp2_with (go_at_call 138;(refine HC.out.mono ?_);rintro e w2 ⟨rfl,aA⟩;have aL:=qid aA;clear aA);go_roundg (m-lo)
     case measure=>have:=ej.out;omega
     case rel=>
      have e1:=ej.out;refine⟨lo,m,rfl,rfl,by omega,by omega,Nat.le_refl _,HB.out.trans (aL.out.mono HB.out.size),I.out.1,fun t x ht hx=>?_⟩
      cases hp:ltK k x with
      |false=>rfl
      |true=>
       have:=HM.out m t _ x ht iQ.out hx hp;have h1:r0<k:=of_decide_eq_true this;have h2:=qD.out;omega
  ·obtain rfl:hi=lo:=by omega
   have uH:R=hi:=by
    rw[←HR.out];exact Jd (ltK k) l hi eO I.out.1 (fun x hx=>I.out.2 hi x (Nat.le_refl _) hx)
   subst uH
   by_cases hn:R<l.length
   ·have dP:=HH.out.below HB.out
    obtain⟨b,o,cp,he,cL,hx⟩:=dP.inv (by omega)
    injection he with ea _ ec;subst ea ec;obtain⟨r,bJ⟩:∃r,l[R]=r:=⟨_,rfl⟩;have gN:l[R]? =some r:=by rw[List.getElem?_eq_getElem hn,bJ]
    obtain⟨x0,x1⟩:=hx R r gN;have hf:F=(r.1==k):=by
     rw[←HF.out];unfold Im;rw[HR.out,gN]
    obtain⟨r0,r1⟩:=r;have HC:=qid (fun W=>P3 r0 r1 k W)
    clear hx gN dP bJ;simp only at hf;have l0:(0:Int)≤(R:Int):=by omega
    have l1:(R:Int)<(l.length:Int):=by omega
    by_cases hc:r0=k
    ·have hq:=Tu hc
     rw[hq]at HC;have jE:F=true:=by rw[hf,hc];simp
     subst jE;clear hc hq hf;go_wp2_with (go_at_call 138;(refine(HC.out _).mono ?_);rintro e w2 ⟨rfl,aA⟩;have aL:=qid (HB.out.trans (aA.mono HB.out.size));clear aA)
     go_ret2
     exact⟨rfl,aL.out⟩
    ·have hq:Lib.compareInt r0 k= -1∨Lib.compareInt r0 k=1:=by
      rcases Int.lt_trichotomy r0 k with h|h|h
      ·exact .inl (Tt h)
      ·exact absurd h hc
      ·exact .inr (Tw h)
     have jE:F=false:=by rw[hf,beq_eq_false_iff_ne];exact hc
     subst jE;clear hc hf;rcases hq with hq|hq
     all_goals
      rw[hq]at HC;clear hq;go_wp2_with (go_at_call 138;(refine(HC.out _).mono ?_);rintro e w2 ⟨rfl,aA⟩;have aL:=qid (HB.out.trans (aA.mono HB.out.size));clear aA)
      go_ret2
      exact⟨rfl,aL.out⟩
   ·have jE:F=false:=by
     rw[←HF.out];unfold Im;rw[HR.out,List.getElem?_eq_none (by omega)]
    subst jE;go_wp2
    go_ret2
    exact⟨rfl,HB.out⟩
def IR(s:List Tb)(n:ByteArray):Bool:=match s[oR s n]? with|some t=>decide (t.1.data.toList=n.data.toList)|none=>false
theorem P6(v:Value)(l:List Tb)(k:ByteArray)(w:World)(h:SR w v l)(hm:PZ (ltN k) l)(hl:l.length≤1000000):
  Calls Tryz.prog 65 #[v,.string k,.func (.func 98) #[] #[]] w fun e w'=>e=.returned (.tuple #[.int .i64 (oR l k:Nat),.bool (IR l k)])∧Below w.heap.size w w':=by
 obtain⟨R,hR⟩:∃R,oR l k=R:=⟨_,rfl⟩;obtain⟨F,hF⟩:∃F,IR l k=F:=⟨_,rfl⟩;rw[hR,hF];obtain⟨a,cap,rfl⟩:=h.form;obtain⟨HH,HM,HR,HF⟩:=hZ4 h hm hR hF;clear h hm hR hF;have fC:∀args w,(callFunc 98 args).run Tryz.prog w=.ok (.enter 98 args) w:=fun args w=>by show Sem.run Tryz.prog (callFunc 98 args) w=_;go_simp
 go_enter Tryz.func65,Tryz.ntmps65;go_wp2
 go_loopg [9,10] l.length (fun gk u9 iW wx=>∃lo hi:Nat,u9=.int .i64 (lo:Int)∧iW=.int .i64 (hi:Int)∧lo≤hi∧hi≤l.length∧hi-lo≤gk∧Hid (Below w.heap.size w wx)∧Hid ((∀(t:Nat) (x:Tb),t<lo→l[t]? =some x→ltN k x=true)∧(∀(t:Nat) (x:Tb),hi≤t→l[t]? =some x→ltN k x=false)))
 case atStart=>exact⟨0,l.length,rfl,rfl,Nat.zero_le _,Nat.le_refl _,by omega,Below.refl _ _,⟨fun t x ht=>absurd ht (Nat.not_lt_zero _),fun t x h1 h2=>by have:=(List.getElem?_eq_some_iff.1 h2).1;omega⟩⟩
 case round=>
  obtain⟨lo,hi,rfl,rfl,Ak,eO,hg,HB,I⟩:=hrel
  by_cases aD:lo<hi
  ·obtain⟨m,jD⟩:∃m,(lo+hi) / 2=m:=⟨_,rfl⟩
   have ja:m<l.length:=by omega
   have dP:=HH.out.below HB.out;obtain⟨b,o,cp,he,cL,hx⟩:=dP.inv (by omega)
   injection he with ea _ ec;subst ea ec;obtain⟨r,bJ⟩:∃r,l[m]=r:=⟨_,rfl⟩;have gN:l[m]? =some r:=by rw[List.getElem?_eq_getElem ja,bJ]
   obtain⟨x0,u,x1,hu⟩:=hx m r gN;have wm:((lo:Int)+(hi:Int)) / 2=(m:Int):=by omega
   obtain⟨iQ,ej⟩:=hZ2 gN jD;have l0:(0:Int)≤(m:Int):=by omega
   have l1:(m:Int)<(l.length:Int):=by omega
   obtain⟨r0,r1⟩:=r;have HC:=qid (P4 r0 u k wr);obtain⟨m1,gZ⟩:∃m1,m+1=m1:=⟨_,rfl⟩;have wk:IntKind.i64.wrap ((m:Int)+1)=(m1:Int):=by rw[show(m:Int)+1=(m1:Int) by omega];exact IntWalk.i64_in _ (by omega)
   have nL:=qid gZ;clear hu hx gN dP jD bJ ja gZ
   by_cases hc:r0.data.toList<k.data.toList
   ·have hq:=(LC _ _).1 hc
    rw[hq]at HC;have qD:=qid hc;clear hc hq;go_wp2_with (go_at_call 98;(refine HC.out.mono ?_);rintro e w2 ⟨rfl,aA⟩;have aL:=qid aA;clear aA);go_roundg (hi-m1)
    case measure=>have:=ej.out;have:=nL.out;omega
    case rel=>
     have e1:=ej.out;have e2:=nL.out;refine⟨m1,hi,rfl,rfl,by omega,eO,by omega,HB.out.trans (aL.out.mono HB.out.size),fun t x ht hx=>?_,I.out.2⟩
     exact HM.out t m x _ (by omega) hx iQ.out (decide_eq_true qD.out)
   ·have hq:Lib.compareBytes r0.data.toList k.data.toList=0∨Lib.compareBytes r0.data.toList k.data.toList=1:=by
     rcases Decidable.em (r0.data.toList=k.data.toList)with h|h
     ·exact .inl ((LC _ _).2.1 h)
     ·exact .inr ((LC _ _).2.2 (LA _ _ hc h))
    have yF:Hid (¬(r0.data.toList<k.data.toList)):=qid hc;clear hc;rcases hq with hq|hq
    all_goals
     rw[hq]at HC;clear hq;go_wp2_with (go_at_call 98;(refine HC.out.mono ?_);rintro e w2 ⟨rfl,aA⟩;have aL:=qid aA;clear aA);go_roundg (m-lo)
     case measure=>have:=ej.out;omega
     case rel=>
      have e1:=ej.out;refine⟨lo,m,rfl,rfl,by omega,by omega,Nat.le_refl _,HB.out.trans (aL.out.mono HB.out.size),I.out.1,fun t x ht hx=>?_⟩
      cases hp:ltN k x with
      |false=>rfl
      |true=>
       have:=HM.out m t _ x ht iQ.out hx hp;exact absurd (of_decide_eq_true this) yF.out
  ·obtain rfl:hi=lo:=by omega
   have uH:R=hi:=by
    rw[←HR.out];exact Jd (ltN k) l hi eO I.out.1 (fun x hx=>I.out.2 hi x (Nat.le_refl _) hx)
   subst uH
   by_cases hn:R<l.length
   ·have dP:=HH.out.below HB.out
    obtain⟨b,o,cp,he,cL,hx⟩:=dP.inv (by omega)
    injection he with ea _ ec;subst ea ec;obtain⟨r,bJ⟩:∃r,l[R]=r:=⟨_,rfl⟩;have gN:l[R]? =some r:=by rw[List.getElem?_eq_getElem hn,bJ]
    obtain⟨x0,u,x1,hu⟩:=hx R r gN;have hf:F=decide (r.1.data.toList=k.data.toList):=by
     rw[←HF.out];unfold IR;rw[HR.out,gN]
    obtain⟨r0,r1⟩:=r;have HC:=qid (fun W=>P4 r0 u k W)
    clear hu hx gN dP bJ;simp only at hf;have l0:(0:Int)≤(R:Int):=by omega
    have l1:(R:Int)<(l.length:Int):=by omega
    by_cases hc:r0.data.toList=k.data.toList
    ·have hq:=(LC _ _).2.1 hc
     rw[hq]at HC;have jE:F=true:=by rw[hf];exact decide_eq_true hc
     subst jE;clear hc hq hf;go_wp2_with (go_at_call 98;(refine(HC.out _).mono ?_);rintro e w2 ⟨rfl,aA⟩;have aL:=qid (HB.out.trans (aA.mono HB.out.size));clear aA)
     go_ret2
     exact⟨rfl,aL.out⟩
    ·have hq:Lib.compareBytes r0.data.toList k.data.toList= -1∨Lib.compareBytes r0.data.toList k.data.toList=1:=by
      rcases Decidable.em (r0.data.toList<k.data.toList)with h|h
      ·exact .inl ((LC _ _).1 h)
      ·exact .inr ((LC _ _).2.2 (LA _ _ h hc))
     have jE:F=false:=by rw[hf];exact decide_eq_false hc
     subst jE;clear hc hf;rcases hq with hq|hq
     all_goals
      rw[hq]at HC;clear hq;go_wp2_with (go_at_call 98;(refine(HC.out _).mono ?_);rintro e w2 ⟨rfl,aA⟩;have aL:=qid (HB.out.trans (aA.mono HB.out.size));clear aA)
      go_ret2
      exact⟨rfl,aL.out⟩
   ·have jE:F=false:=by
     rw[←HF.out];unfold IR;rw[HR.out,List.getElem?_eq_none (by omega)]
    subst jE;go_wp2
    go_ret2
    exact⟨rfl,HB.out⟩
def lkT:List Tb→ByteArray→Option (List Rw)
 | [],_=>none
 |t::r,n=>if t.1=n then some t.2 else lkT r n
theorem MJ(a b:List Tb)(n:ByteArray):lkT (a++b) n=(lkT a n).or (lkT b n):=by
 induction a with
 |nil=>simp[lkT]
 |cons t a ih=>
  rw[List.cons_append,lkT,lkT]
  split
  ·rfl
  ·exact ih
theorem Iu{s:List Tb}{n:ByteArray}:lkT s n=none↔∀t∈s,t.1≠n:=by
 induction s with
 |nil=>simp[lkT]
 |cons t s ih=>
  rw[lkT]
  split
  ·rename_i h;simp[h]
  ·rename_i h;rw[ih];simp[h]
theorem KE{s:List Tb}{n:ByteArray}{l:List Rw}(h:lkT s n=some l):(n,l)∈s:=by
 induction s with
 |nil=>simp[lkT]at h
 |cons t s ih=>
  rw[lkT]at h
  split at h
  ·rename_i e;injection h with h;subst e h;exact List.mem_cons_self ..
  ·exact List.mem_cons_of_mem _ (ih h)
def upW(s:List Tb):Prop:=s.Pairwise fun a b=>a.1.data.toList<b.1.data.toList
theorem Iv{s:List Tb}:upN s↔upW s:=by
 unfold upN upW;rw[List.pairwise_iff_getElem];constructor
 ·intro h i j hi hj eT
  exact h i j _ _ eT (List.getElem?_eq_getElem hi) (List.getElem?_eq_getElem hj)
 ·intro h i j a b eT ha hb
  obtain⟨hi,rfl⟩:=List.getElem?_eq_some_iff.1 ha;obtain⟨hj,rfl⟩:=List.getElem?_eq_some_iff.1 hb;exact h i j hi hj eT
theorem KF{a b:ByteArray}(h:a.data.toList<b.data.toList):a≠b:=by rintro rfl;exact List.lt_irrefl _ h
theorem qcy{a b:ByteArray}(h:a.data.toList=b.data.toList):a=b:=by apply ByteArray.ext;exact Array.toList_inj.1 h
theorem OV{s:List Tb}(hu:upW s){n:ByteArray}{l:List Rw}:lkT s n=some l↔(n,l)∈s:=by
 refine⟨KE,fun h=>?_⟩
 induction s with
 |nil=>simp at h
 |cons t s ih=>
  obtain⟨h1,h2⟩:=List.pairwise_cons.1 hu;rw[lkT];rcases List.mem_cons.1 h with rfl|h
  ·simp
  ·rw[if_neg (KF (h1 _ h))];exact ih h2 h
theorem Xl:∀ {s r:List Tb},upW s→upW r→(∀n,lkT s n=lkT r n)→s=r
 | [],[],_,_,_=>rfl
 | [],b::r,_,_,h=>by have:=h b.1;simp[lkT]at this
 |a::s,[],_,_,h=>by have:=h a.1;simp[lkT]at this
 |a::s,b::r,hs,hr,h=>by
  obtain⟨s1,s2⟩:=List.pairwise_cons.1 hs;obtain⟨r1,r2⟩:=List.pairwise_cons.1 hr;have e:a.1=b.1:=by
   have ha:(a.1,a.2)∈b::r:=KE (by rw[←h a.1,lkT,if_pos rfl])
   have hb:(b.1,b.2)∈a::s:=KE (by rw[h b.1,lkT,if_pos rfl])
   rcases List.mem_cons.1 ha with ha|ha
   ·exact congrArg Prod.fst ha
   ·rcases List.mem_cons.1 hb with hb|hb
    ·exact(congrArg Prod.fst hb).symm
    ·exact absurd (List.lt_trans (r1 _ ha) (s1 _ hb)) (List.lt_irrefl _)
  have e2:a.2=b.2:=by
   have:=h a.1;rw[lkT,if_pos rfl,lkT,if_pos e.symm]at this;injection this
  have fa:a=b:=Prod.ext e e2;subst fa
  congr 1
  refine Xl s2 r2 fun n=>?_
  by_cases hn:a.1=n
  ·subst hn
   rw[Iu.2 (fun t ht=>(KF (s1 t ht)).symm),Iu.2 (fun t ht=>(KF (r1 t ht)).symm)]
  ·have:=h n
   rwa[lkT,if_neg hn,lkT,if_neg hn]at this
def AC(s:List Tb)(t:Tb):List Tb:=if IR s t.1=true then s.set (oR s t.1) t else s.take (oR s t.1)++t::s.drop (oR s t.1)
theorem KZ{s:List Tb}(hu:upW s)(t:Tb):∃A B,AC s t=A++t::B∧(s=A++B∨∃u,u.1=t.1∧s=A++u::B)∧(∀a∈A,a.1.data.toList<t.1.data.toList)∧∀b∈B,t.1.data.toList<b.1.data.toList:=by
 have hle:oR s t.1≤s.length:=IF (ltN t.1) s;have hA:∀a∈s.take (oR s t.1),a.1.data.toList<t.1.data.toList:=fun a ha=>by
  obtain⟨i,hi,he⟩:=List.mem_iff_getElem.1 ha;have gi:i<oR s t.1:=by simp at hi;omega
  have:=IG (ltN t.1) s i a gi (by rw[←he,List.getElem_take];exact List.getElem?_eq_getElem _)
  simpa[ltN]using this
 unfold AC
 by_cases hh:IR s t.1=true
 ·rw[if_pos hh]
  unfold IR at hh
  split at hh
  ·rename_i u lJ
   have aD:=(List.getElem?_eq_some_iff.1 lJ).1;have qR:=(List.getElem?_eq_some_iff.1 lJ).2;have eu:u.1=t.1:=qcy (of_decide_eq_true hh);have es:s=s.take (oR s t.1)++u::s.drop (oR s t.1+1):=by
    conv=>lhs;rw[←List.take_append_drop (oR s t.1) s]
    rw[List.drop_eq_getElem_cons aD,qR]
   refine⟨s.take (oR s t.1),s.drop (oR s t.1+1),OU s _ t aD,.inr ⟨u,eu,es⟩,hA,fun b hb=>?_⟩
   unfold upW at hu;rw[es]at hu;have:=(List.pairwise_cons.1 (List.pairwise_append.1 hu).2.1).1 b hb
   rwa[eu]at this
  ·cases hh
 ·rw[if_neg hh]
  refine⟨s.take (oR s t.1),s.drop (oR s t.1),rfl,.inl (List.take_append_drop _ _).symm,hA,fun b hb=>?_⟩
  obtain⟨i,hi,he⟩:=List.mem_iff_getElem.1 hb;have aD:oR s t.1<s.length:=by simp at hi;omega
  have h0:¬s[oR s t.1].1.data.toList=t.1.data.toList:=fun e=>hh (by
   unfold IR;rw[List.getElem?_eq_getElem aD];simpa using e)
  have h1:¬s[oR s t.1].1.data.toList<t.1.data.toList:=by
   have:=MF (ltN t.1) s s[oR s t.1] (List.getElem?_eq_getElem aD)
   simpa[ltN]using this
  have h2:=LA _ _ h1 h0;rw[List.drop_eq_getElem_cons aD]at hb;rcases List.mem_cons.1 hb with rfl|hb
  ·exact h2
  ·unfold upW at hu
   rw[←List.take_append_drop (oR s t.1) s,List.drop_eq_getElem_cons aD]at hu;exact List.lt_trans h2 ((List.pairwise_cons.1 (List.pairwise_append.1 hu).2.1).1 b hb)
theorem MK{s:List Tb}(hu:upW s)(t:Tb):upW (AC s t):=by
 obtain⟨A,B,h1,h2,h3,h4⟩:=KZ hu t;rw[h1];have fa:upW (A++B):=by
  rcases h2 with h2|⟨u,_,h2⟩
  ·rw[←h2];exact hu
  ·rw[h2]at hu
   have:=List.pairwise_append.1 hu;exact List.pairwise_append.2 ⟨this.1,(List.pairwise_cons.1 this.2.1).2,fun a ha b hb=>this.2.2 a ha b (List.mem_cons_of_mem _ hb)⟩
 have h5:=List.pairwise_append.1 fa;refine List.pairwise_append.2 ⟨h5.1,List.pairwise_cons.2 ⟨h4,h5.2.1⟩,fun a ha b hb=>?_⟩
 rcases List.mem_cons.1 hb with rfl|hb
 ·exact h3 a ha
 ·exact h5.2.2 a ha b hb
theorem RB{s:List Tb}(hu:upW s)(t:Tb)(n:ByteArray):lkT (AC s t) n=if t.1=n then some t.2 else lkT s n:=by
 obtain⟨A,B,h1,h2,h3,h4⟩:=KZ hu t;rw[h1,MJ,lkT]
 split
 ·rename_i e
  subst e;rw[Iu.2 fun a ha=>KF (h3 a ha)];rfl
 ·rename_i e
  rcases h2 with h2|⟨u,hu,h2⟩
  ·rw[h2,MJ]
  ·rw[h2,MJ,lkT,if_neg (by rw[hu];exact e)]
theorem ZD{s:List Tb}(hu:upW s){t x:Tb}(h:x∈AC s t):x=t∨x∈s:=by
 obtain⟨A,B,h1,h2,_,_⟩:=KZ hu t;rw[h1]at h;have:x=t∨x∈A++B:=by
  simp only[List.mem_append,List.mem_cons]at h⊢;rcases h with h|h|h<;>simp[h]
 rcases this with h|h
 ·exact .inl h
 ·right
  rcases h2 with h2|⟨u,_,h2⟩<;>rw[h2]
  ·exact h
  ·simp only[List.mem_append,List.mem_cons]at h⊢
   rcases h with h|h<;>simp[h]
theorem L9{s:List Tb}(hu:upW s)(t:Tb):(AC s t).length≤s.length+1:=by
 obtain⟨A,B,h1,h2,_,_⟩:=KZ hu t;rw[h1];rcases h2 with h2|⟨u,_,h2⟩<;>rw[h2]<;>simp<;>omega
theorem Xm{s:List Tb}(hu:upW s){t:Tb}(h:(lkT s t.1).isSome=true):(AC s t).length=s.length:=by
 obtain⟨A,B,h1,h2,h3,h4⟩:=KZ hu t;rw[h1];rcases h2 with h2|⟨u,_,h2⟩
 ·rw[h2,MJ,Iu.2 fun a ha=>KF (h3 a ha),Iu.2 fun b hb=>(KF (h4 b hb)).symm]at h
  simp at h
 ·rw[h2];simp
structure iS(s:List Tb):Prop where
 up:upW s
 each:∀t∈s,0<t.1.size∧t.1.size≤30∧Ii t.2
theorem KD.tabs{s:List Tb}(h:KD s):iS s:=⟨Iv.1 h.up,h.each⟩
theorem iS.state{s:List Tb}(h:iS s)(hl:s.length≤16):KD s:=⟨hl,Iv.2 h.up,h.each⟩
theorem iS.nil:iS []:=⟨List.Pairwise.nil,fun t ht=>by simp at ht⟩
theorem iS.put{s:List Tb}(h:iS s){t:Tb}(ht:0<t.1.size∧t.1.size≤30∧Ii t.2):iS (AC s t):=
 ⟨MK h.up t,fun x hx=>by
  rcases ZD h.up hx with rfl|hx
  ·exact ht
  ·exact h.each x hx⟩
def nE(s l:List Tb):List Tb:=l.foldl AC s
theorem Kj:∀ {l s:List Tb},iS s→(∀t∈l,0<t.1.size∧t.1.size≤30∧Ii t.2)→iS (nE s l)
 | [],s,h,_=>h
 |t::l,s,h,hl=>Kj (l:=l) (h.put (hl t (List.mem_cons_self ..))) fun x hx=>hl x (List.mem_cons_of_mem _ hx)
theorem ML:∀ {l s:List Tb},upW s→(nE s l).length≤s.length+l.length
 | [],s,h=>by simp[nE]
 |t::l,s,h=>by
  have h1:=ML (l:=l) (MK h t);have h2:=L9 h t;show(nE (AC s t) l).length≤_;rw[List.length_cons];omega
theorem Ty:∀ {l s:List Tb},upW s→upW (nE s l)
 | [],s,h=>h
 |t::l,s,h=>Ty (l:=l) (MK h t)
theorem Tz:∀ {l s:List Tb},upW s→upW l→∀n,lkT (nE s l) n=(lkT l n).or (lkT s n)
 | [],s,h,_,n=>by simp[nE,lkT]
 |t::l,s,h,hl,n=>by
  obtain⟨l1,l2⟩:=List.pairwise_cons.1 hl;show lkT (nE (AC s t) l) n=_;rw[Tz (MK h t) l2 n,RB h,lkT]
  split
  ·rename_i e
   subst e;rw[Iu.2 fun x hx=>(KF (l1 x hx)).symm];rfl
  ·rfl
theorem ZE{s:List Tb}(hu:upW s){n:ByteArray}{l:List Rw}(h:lkT s n=some l):∃i:Nat,bv s n 0=(i:Int)∧s[i]? =some (n,l):=by
 obtain⟨i,h1,h2⟩:=Xj (Iv.2 hu) (KE h);exact⟨i,h1,h2⟩
abbrev Ses:Type:=Option (Bool×List Tb)
abbrev Dbp:Type:=List Tb×(Int→Ses)
def pi(O:Int→Ses)(id:Int)(v:Ses):Int→Ses:=fun x=>if x=id then v else O x
theorem K6(O:Int→Ses)(id:Int)(v:Ses):pi O id v id=v:=if_pos rfl
theorem Kk(O:Int→Ses){id x:Int}(v:Ses)(h:x≠id):pi O id v x=O x:=if_neg h
theorem NU(O:Int→Ses)(id:Int):pi O id (O id)=O:=funext fun x=>by
 unfold pi
 split
 ·rename_i h;rw[h]
 ·rfl
def JW:Ses→List Tb
 |none=>[]
 |some p=>p.2
def d6(D:Dbp)(id:Int):List Tb:=nE D.1 (JW (D.2 id))
def stO:Ses→Int
 |none=>73
 |some (true,_)=>69
 |some (false,_)=>84
def isS(id:Int):Bool:=decide (0≤id)&&decide (id≤1000)
def dg(D:Dbp)(id:Int):Int:=if isS id=true then stO (D.2 id)else 0
def P7:Ses→Ses
 |none=>none
 |some p=>some (true,p.2)
def Hg(D:Dbp)(id:Int):Dbp:=(D.1,pi D.2 id (P7 (D.2 id)))
def IS(D:Dbp)(id:Int):Dbp:=(D.1,pi D.2 id none)
def Gs(D:Dbp)(id:Int)(t:Tb):Dbp:=match D.2 id with
 |none=>(AC D.1 t,D.2)
 |some p=>(D.1,pi D.2 id (some (p.1,AC p.2 t)))
def doP(D:Dbp)(id:Int)(kd:Int)(n:ByteArray)(K V:Int)(kb:Bool):Dbp×List Rw×Int:=
 if(doS (d6 D id) kd n K V kb).2.2=0 then
  if kd=1 then(D,(doS (d6 D id) kd n K V kb).2.1,0)else(Gs D id (n,(lkT (doS (d6 D id) kd n K V kb).1 n).getD []),[],0)
 else(Hg D id,[],(doS (d6 D id) kd n K V kb).2.2)
def rW(D:Dbp)(id:Int):Dbp×Int:=match D.2 id with
 |none=>((D.1,pi D.2 id (some (false,[]))),0)
 |some _=>(D,10)
def gE(D:Dbp)(id:Int):Dbp×Int:=match D.2 id with
 |none=>(D,10)
 |some (true,_)=>(IS D id,13)
 |some (false,T)=>if 16<(nE D.1 T).length then(IS D id,11)else((nE D.1 T,pi D.2 id none),0)
def Fr(D:Dbp)(id:Int):Dbp×Int:=match D.2 id with
 |none=>(D,10)
 |some _=>(IS D id,0)
def U4(D:Dbp)(id cl:Int)(kd:Int)(n:ByteArray)(K V:Int)(kb tx:Bool):Dbp×List Rw×Int:=
 if cl=3 then((rW D id).1,[],(rW D id).2)
 else if cl=4 then((gE D id).1,[],(gE D id).2)
 else if cl=5 then((Fr D id).1,[],(Fr D id).2)
 else if stO (D.2 id)=69 then(D,[],13)
 else if cl=0∨cl=6 then(D,[],0)
 else if cl=1∨cl=2∨cl=8 then(if tx=true then doP D id kd n K V kb else(D,[],1))
 else(Hg D id,[],5)
def Ic(D:Dbp)(id cl:Int)(kd:Int)(n:ByteArray)(K V:Int)(kb tx:Bool):Dbp×List Rw×Int:=
 if isS id=true then U4 D id cl kd n K V kb tx else(D,[],1)
structure ce(D:Dbp)(k:Nat):Prop where
 st:KD D.1
 own:∀id p,D.2 id=some p→iS p.2∧p.2.length≤k
theorem ce.mono{D:Dbp}{k m:Nat}(h:ce D k)(hm:k≤m):ce D m:=⟨h.st,fun id p hp=>⟨(h.own id p hp).1,Nat.le_trans (h.own id p hp).2 hm⟩⟩
theorem ce.ownT{D:Dbp}{k:Nat}(h:ce D k)(id:Int):iS (JW (D.2 id))∧(JW (D.2 id)).length≤k:=by
 cases hd:D.2 id with
 |none=>exact⟨iS.nil,Nat.zero_le _⟩
 |some p=>exact h.own id p hd
theorem ce.seen{D:Dbp}{k:Nat}(h:ce D k)(id:Int):iS (d6 D id)∧(d6 D id).length≤16+k:=by
 have ho:=h.ownT id;refine⟨Kj h.st.tabs ho.1.each,?_⟩;have:=ML (l:=JW (D.2 id)) h.st.tabs.up;have:=h.st.len;unfold d6;omega
theorem ce.set{D:Dbp}{k:Nat}(h:ce D k)(id:Int)(v:Ses)(hv:∀p,v=some p→iS p.2∧p.2.length≤k):ce (D.1,pi D.2 id v) k:=
 ⟨h.st,fun x p hp=>by
  simp only[pi]at hp
  split at hp
  ·exact hv p hp
  ·exact h.own x p hp⟩
theorem ce.fail{D:Dbp}{k:Nat}(h:ce D k)(id:Int):ce (Hg D id) k:=h.set id _ fun p hp=>by
 cases hd:D.2 id with
 |none=>rw[hd]at hp;cases hp
 |some q=>rw[hd]at hp;injection hp with hp;subst hp;exact h.own id q hd
theorem ce.end_{D:Dbp}{k:Nat}(h:ce D k)(id:Int):ce (IS D id) k:=h.set id none fun p hp=>by cases hp
theorem ZF{s:List Tb}(hu:upW s){n:ByteArray}(h:∀t∈s,t.1≠n):lkT (H9 s n) n=some []:=by
 unfold H9;rw[MJ,Iu.2 fun t ht=>h t (List.mem_of_mem_take ht),lkT,if_pos rfl];rfl
theorem OW{s:List Tb}{kd K V:Int}{n:ByteArray}{kb:Bool}(h:iS s)(hn:0<n.size∧n.size≤30)(hk:inI K)(hv:inI V):iS (doS s kd n K V kb).1:=by
 have hu:=Iv.2 h.up;rcases IH s kd n K V kb with⟨_,⟨_,e⟩|⟨_,_,e⟩|⟨b7,_,e⟩⟩|⟨_,_,e⟩|⟨_,i,t,ht,_,e⟩
 ·rw[e];exact h
 ·rw[e];exact h
 ·rw[e]
  refine⟨Iv.1 (Xi b7 hu []),fun t ht=>?_⟩
  change t∈H9 s n at ht
  unfold H9 at ht;rcases List.mem_append.1 ht with ht|ht
  ·exact h.each t (List.mem_of_mem_take ht)
  ·rcases List.mem_cons.1 ht with rfl|ht
   ·exact⟨hn.1,hn.2,⟨by simp,fun i j a b _ ha=>by simp at ha,fun r hr=>by simp at hr⟩⟩
   ·exact h.each t (List.mem_of_mem_drop ht)
 ·rw[e];exact h
 ·rw[e]
  split
  ·exact h
  ·have hm:=h.each t (List.mem_of_getElem? ht)
   refine⟨Iv.1 (ZA hu i t ht _),fun x hx=>?_⟩
   rcases L8 hx with rfl|hx
   ·exact⟨hm.1,hm.2.1,U3 hm.2.2 hk hv⟩
   ·exact h.each x hx
theorem MM{s:List Tb}{kd K V:Int}{n:ByteArray}{kb:Bool}(h:iS s)(he:(doS s kd n K V kb).2.2=0):(lkT (doS s kd n K V kb).1 n).isSome=true:=by
 have hu:=Iv.2 h.up;rcases IH s kd n K V kb with⟨_,⟨_,e⟩|⟨_,_,e⟩|⟨b7,_,e⟩⟩|⟨_,_,e⟩|⟨_,i,t,ht,rfl,e⟩
 ·rw[e]at he;simp at he
 ·rw[e]at he;simp at he
 ·rw[e]
  show(lkT (H9 s n) n).isSome=true;rw[ZF h.up b7];rfl
 ·rw[e]at he;simp at he
 ·have hx:∀l,(lkT (s.set i (t.1,l)) t.1).isSome=true:=fun l=>by
   have aD:=(List.getElem?_eq_some_iff.1 ht).1;rw[Option.isSome_iff_ne_none];intro hc;exact Iu.1 hc (t.1,l) (List.mem_of_getElem? (i:=i) (by simp[aD])) rfl
  rw[e]
  split
  ·rw[(OV h.up).2 (List.mem_of_getElem? ht)];rfl
  ·exact hx _
theorem ZG{s:List Tb}{kd K V:Int}{n:ByteArray}{kb:Bool}(h:kd≠1):(doS s kd n K V kb).2.1=[]:=by
 rcases IH s kd n K V kb with⟨_,⟨_,e⟩|⟨_,_,e⟩|⟨b7,_,e⟩⟩|⟨_,_,e⟩|⟨_,i,t,ht,rfl,e⟩<;>rw[e]
 rw[if_neg h]
theorem Xn{s:List Tb}{kd K V:Int}{n:ByteArray}{kb:Bool}(h:iS s)(hn:0<n.size∧n.size≤30)(hk:inI K)(hv:inI V)(he:(doS s kd n K V kb).2.2=0):
  0<n.size∧n.size≤30∧Ii ((lkT (doS s kd n K V kb).1 n).getD []):=by
 obtain⟨l,hl⟩:=Option.isSome_iff_exists.1 (MM h he);rw[hl];exact⟨hn.1,hn.2,((OW h hn hk hv).each _ (KE hl)).2.2⟩
theorem ZH{s:List Tb}{kd K V:Int}{n:ByteArray}{kb:Bool}(h:KD s)(hn:0<n.size∧n.size≤30)(hk:inI K)(hv:inI V)(he:(doS s kd n K V kb).2.2=0):
  KD (AC s (n,(lkT (doS s kd n K V kb).1 n).getD [])):=by
 refine(h.tabs.put (Xn h.tabs hn hk hv he)).state ?_
 by_cases hh:(lkT s n).isSome=true
 ·rw[Xm h.tabs.up hh];exact h.len
 ·have h1:=L9 h.tabs.up (n,(lkT (doS s kd n K V kb).1 n).getD [])
  have h2:∀t∈s,t.1≠n:=Iu.1 (by simpa using hh)
  rcases IH s kd n K V kb with⟨_,⟨⟨t,ht,et⟩,e⟩|⟨_,_,e⟩|⟨_,hl,e⟩⟩|⟨_,_,e⟩|⟨_,i,t,ht,et,e⟩
  ·exact absurd et (h2 t ht)
  ·rw[e]at he;simp at he
  ·omega
  ·rw[e]at he;simp at he
  ·exact absurd et (h2 t (List.mem_of_getElem? ht))
theorem ce.write{D:Dbp}{k:Nat}(h:ce D k)(id:Int){kd K V:Int}{n:ByteArray}{kb:Bool}(hn:0<n.size∧n.size≤30)(hk:inI K)(hv:inI V)(he:(doS (d6 D id) kd n K V kb).2.2=0):
  ce (Gs D id (n,(lkT (doS (d6 D id) kd n K V kb).1 n).getD [])) (k+1):=by
 unfold Gs
 cases hd:D.2 id with
 |none=>
  have hs:d6 D id=D.1:=by unfold d6;rw[hd];rfl
  rw[hs]at he⊢;exact⟨ZH h.st hn hk hv he,(h.mono (Nat.le_succ _)).own⟩
 |some p=>
  refine(h.mono (Nat.le_succ k)).set id _ fun q hq=>?_
  injection hq with hq;subst hq;have hp:=h.own id p hd;refine⟨hp.1.put (Xn (h.seen id).1 hn hk hv he),?_⟩;have:=L9 hp.1.up (n,(lkT (doS (d6 D id) kd n K V kb).1 n).getD []);show(AC p.2 _).length≤_;omega
theorem ce.run{D:Dbp}{k:Nat}(h:ce D k)(id cl:Int){kd K V:Int}{n:ByteArray}{kb tx:Bool}(ht:tx=true→(0<n.size∧n.size≤30)∧inI K∧inI V):ce (Ic D id cl kd n K V kb tx).1 (k+1):=by
 have hm:=h.mono (Nat.le_succ k);unfold Ic
 split
 ·unfold U4
  split
  ·unfold rW
   split
   ·exact hm.set id _ fun p hp=>by injection hp with hp;subst hp;exact⟨iS.nil,Nat.zero_le _⟩
   ·exact hm
  split
  ·unfold gE
   split
   ·exact hm
   ·exact hm.end_ id
   ·rename_i T hd
    split
    ·exact hm.end_ id
    ·rename_i hl
     have hT:=h.own id _ hd;exact⟨(Kj h.st.tabs hT.1.each).state (show(nE D.1 T).length≤16 by omega),(hm.end_ id).own⟩
  split
  ·unfold Fr
   split
   ·exact hm
   ·exact hm.end_ id
  split
  ·exact hm
  split
  ·exact hm
  split
  ·split
   ·rename_i sE
    unfold doP
    split
    ·rename_i he
     split
     ·exact hm
     ·exact h.write id (ht sE).1 (ht sE).2.1 (ht sE).2.2 he
    ·exact hm.fail id
   ·exact hm
  ·exact hm.fail id
 ·exact hm
abbrev Sn:Type:=Int×Bool×List Tb
def dO:List Sn→Int→Ses
 | [],_=>none
 |x::l,id=>if x.1=id then some x.2 else dO l id
def AtS(ss:List Sn)(id:Int)(i:Nat):Prop:=(∃x,ss[i]? =some x∧x.1=id)∧∀(j:Nat) (x:Sn),j<i→ss[j]? =some x→x.1≠id
theorem IJ{ss:List Sn}{id:Int}:dO ss id=none↔∀x∈ss,x.1≠id:=by
 induction ss with
 |nil=>simp[dO]
 |cons x l ih=>
  rw[dO]
  split
  ·rename_i h;simp[h]
  ·rename_i h;rw[ih];simp[h]
theorem AtS.tail{x:Sn}{l:List Sn}{id:Int}{i:Nat}(h:AtS (x::l) id (i+1)):x.1≠id∧AtS l id i:=
 ⟨h.2 0 x (by omega) rfl,by obtain⟨y,h1,h2⟩:=h.1;exact⟨y,by simpa using h1,h2⟩,fun j y hj hy=>h.2 (j+1) y (by omega) (by simpa using hy)⟩
theorem I7{ss:List Sn}{id:Int}{i:Nat}(h:AtS ss id i){x:Sn}(hx:ss[i]? =some x):dO ss id=some x.2:=by
 induction ss generalizing i with
 |nil=>simp at hx
 |cons y l ih=>
  cases i with
  |zero=>
   obtain⟨z,h1,h2⟩:=h.1;simp at hx h1;subst hx;subst h1;rw[dO,if_pos h2]
  |succ i=>
   obtain⟨h1,h2⟩:=h.tail;rw[dO,if_neg h1];exact ih h2 (by simpa using hx)
theorem TA{ss:List Sn}{id:Int}{i:Nat}(h:AtS ss id i)(v:Bool×List Tb):dO (ss.set i (id,v))=pi (dO ss) id (some v):=by
 induction ss generalizing i with
 |nil=>obtain⟨z,h1,_⟩:=h.1;simp at h1
 |cons y l ih=>
  funext k
  cases i with
  |zero=>
   obtain⟨z,h1,h2⟩:=h.1;simp at h1;subst h1;show dO ((id,v)::l) k=_;unfold pi;rw[dO,dO]
   by_cases hk:k=id
   ·rw[if_pos hk.symm,if_pos hk]
   ·rw[if_neg (fun e=>hk e.symm),if_neg hk,if_neg (fun e=>hk (e.symm.trans h2))]
  |succ i=>
   obtain⟨h1,h2⟩:=h.tail;show dO (y::l.set i (id,v)) k=_;rw[dO,ih h2];unfold pi;rw[dO]
   by_cases hk:k=id
   ·subst hk
    rw[if_neg h1,if_pos rfl,if_pos rfl]
   ·rw[if_neg hk,if_neg hk]
theorem ZI{ss:List Sn}{id:Int}(h:dO ss id=none)(v:Bool×List Tb):dO (ss++[(id,v)])=pi (dO ss) id (some v):=by
 induction ss with
 |nil=>
  funext k
  show(if id=k then some v else dO [] k)=(if k=id then some v else dO [] k)
  by_cases hk:k=id
  ·rw[if_pos hk.symm,if_pos hk]
  ·rw[if_neg (fun e=>hk e.symm),if_neg hk]
 |cons y l ih=>
  funext k
  have h1:y.1≠id:=IJ.1 h y (List.mem_cons_self ..);have h2:dO l id=none:=IJ.2 fun x hx=>IJ.1 h x (List.mem_cons_of_mem _ hx)
  show dO (y::(l++[(id,v)])) k=_;rw[dO,ih h2];unfold pi;rw[dO]
  by_cases hk:k=id
  ·subst hk
   rw[if_neg h1,if_pos rfl,if_pos rfl]
  ·rw[if_neg hk,if_neg hk]
def P8(ss:List Sn)(id:Int):List Sn:=ss.filter fun x=> !decide (x.1=id)
theorem Xo(ss:List Sn)(id:Int):dO (P8 ss id)=pi (dO ss) id none:=by
 induction ss with
 |nil=>
  funext k
  unfold pi;show none=_
  split<;>rfl
 |cons y l ih=>
  funext k
  unfold P8 at ih⊢;rw[List.filter_cons]
  by_cases hy:y.1=id
  ·simp only[hy,decide_true,Bool.not_true,Bool.false_eq_true,if_false]
   rw[ih];unfold pi;rw[dO]
   by_cases hk:k=id
   ·rw[if_pos hk,if_pos hk]
   ·rw[if_neg hk,if_neg hk,if_neg (fun e=>hk (e.symm.trans hy))]
  ·simp only[hy,decide_false,Bool.not_false,if_true]
   rw[dO,ih];unfold pi;rw[dO]
   by_cases hk:k=id
   ·subst hk
    rw[if_neg hy,if_pos rfl,if_pos rfl]
   ·rw[if_neg hk,if_neg hk]
def dbS(S:List Tb)(ss:List Sn):Dbp:=(S,dO ss)
theorem Xp{S:List Tb}{ss:List Sn}{id:Int}{i:Nat}(h:AtS ss id i){b:Bool}{T:List Tb}(hx:ss[i]? =some (id,b,T)):dbS S (ss.set i (id,true,T))=Hg (dbS S ss) id:=by
 have hg:dO ss id=some (b,T):=I7 h hx;unfold dbS Hg;rw[TA h];show(S,_)=(S,pi (dO ss) id (P7 (dO ss id)));rw[hg]
 rfl
theorem U5{S:List Tb}{ss:List Sn}{id:Int}(h:dO ss id=none):dbS S ss=Hg (dbS S ss) id:=by
 unfold dbS Hg;show(S,dO ss)=(S,pi (dO ss) id (P7 (dO ss id)));rw[h];show(S,dO ss)=(S,pi (dO ss) id none);rw[←h,NU]
theorem Xq(S:List Tb)(ss:List Sn)(id:Int):dbS S (P8 ss id)=IS (dbS S ss) id:=by
 unfold dbS IS;rw[Xo]
theorem U6{S:List Tb}{ss:List Sn}{id:Int}(h:dO ss id=none):rW (dbS S ss) id=(dbS S (ss++[(id,false,[])]),0):=by
 unfold rW dbS;rw[ZI h];show(match dO ss id with|none=>_|some _=>_)=_
 rw[h]
theorem U7{S:List Tb}{ss:List Sn}{id:Int}{i:Nat}(h:AtS ss id i){b:Bool}{T:List Tb}(hx:ss[i]? =some (id,b,T))(t:Tb):dbS S (ss.set i (id,b,AC T t))=Gs (dbS S ss) id t:=by
 have hg:dO ss id=some (b,T):=I7 h hx;unfold dbS Gs;rw[TA h];show _=(match dO ss id with|none=>_|some _=>_)
 rw[hg]
theorem RC{S:List Tb}{ss:List Sn}{id:Int}(h:dO ss id=none)(t:Tb):dbS (AC S t) ss=Gs (dbS S ss) id t:=by
 unfold dbS Gs;show _=(match dO ss id with|none=>_|some _=>_)
 rw[h]
end Go.Proofs.YtpgddamhdfmdjaaGreatDoor
namespace Go.Proofs.YtpgddamhdfmdjaaGreatDoor.SL
open Go.ChangeShapes Go.WideShapes Go.ChangeAt Go.RowKit Go.Maps Go.ChangeMaps
def Bk(w:World)(g:Nat)(t:TypeId)(cs:Array Value):Prop:=w.heap[g]? =some (.cells cs t (0,0))
section
variable {w w':World} {g:Nat} {t:TypeId} {cs:Array Value}
theorem Bk.lt(h:Bk w g t cs):g<w.heap.size:=(Array.getElem?_eq_some_iff.1 h).1
theorem Bk.cell(h:Bk w g t cs)(i:Nat):w.cell? ⟨g,i,none⟩=cs[i]? :=cell_of_row w g i cs t (0,0) h
theorem Bk.frozen(h:Bk w g t cs)(i:Nat):w.frozen? ⟨g,i,none⟩=false:=by
 unfold Bk at h;simp[World.frozen?,h]
theorem Bk.new(w:World)(t:TypeId)(cs:Array Value):Bk (w.alloc (.cells cs t)) w.heap.size t cs:=heap_alloc_new w _
theorem Bk.set_(h:Bk w g t cs)(i:Nat)(u:Value):Bk (w.setCell ⟨g,i,none⟩ u) g t (cs.setIfInBounds i u):=by
 unfold Bk at h⊢;simp[World.setCell,Array.getElem?_modify,h]
theorem Bk.ne_{g':Nat}{t':TypeId}{mv:Array Value}(h:Bk w g t cs)(h':Bk w g' t' mv)(b7:t≠t'):g≠g':=by
 rintro rfl;unfold Bk at h h';rw[h]at h';injection h' with h';injection h' with _ ht;exact b7 ht
theorem Bk.heap(h:Bk w g t cs)(e:w'.heap[g]? =w.heap[g]?):Bk w' g t cs:=e.trans h
end
structure Chg(S:Nat→Prop)(w w':World):Prop where
 os:w'.os=w.os
 tape:w'.tape=w.tape
 output:w'.output=w.output
 size:w.heap.size≤w'.heap.size
 block:∀k,k<w.heap.size→¬S k→w'.heap[k]? =w.heap[k]?
section
variable {S S':Nat→Prop} {w w1 w2:World}
theorem Chg.refl(S:Nat→Prop)(w:World):Chg S w w:=⟨rfl,rfl,rfl,Nat.le_refl _,fun _ _ _=>rfl⟩
theorem Chg.trans'(h:Chg S w w1)(k:Chg S' w1 w2)(hs:∀b,b<w.heap.size→S' b→S b):Chg S w w2:=
 ⟨k.os.trans h.os,k.tape.trans h.tape,k.output.trans h.output,Nat.le_trans h.size k.size,fun i hi hn=>(k.block i (Nat.lt_of_lt_of_le hi h.size) (fun e=>hn (hs i hi e))).trans (h.block i hi hn)⟩
theorem Chg.trans(h:Chg S w w1)(k:Chg S w1 w2):Chg S w w2:=h.trans' k fun _ _ e=>e
theorem Chg.of_below(h:Below w.heap.size w w1):Chg S w w1:=⟨h.os,h.tape,h.output,h.size,fun i hi _=>h.block i hi⟩
theorem Chg.below(h:Chg S w w1){B:Nat}(hB:B≤w.heap.size)(hs:∀b,b<B→¬S b):Below B w w1:=⟨h.os,h.tape,h.output,h.size,fun i hi=>h.block i (Nat.lt_of_lt_of_le hi hB) (hs i hi)⟩
theorem Chg.setCell(h:Chg S w w1){p:Addr}(hp:S p.block)(u:Value):Chg S w (w1.setCell p u):=
 h.trans ⟨rfl,rfl,rfl,by simp[World.setCell],fun k hk hn=>Below.heap_setCell _ _ _ _ (fun e=>hn (by rw[e];exact hp))⟩
theorem Chg.drew(h:Chg S w w1):Chg S w w1.drew:=⟨h.os,h.tape,h.output,h.size,h.block⟩
theorem Chg.grown(h:Chg S w w1){row:Option Nat}(hg:w1.grownBy w2 row)(hr:∀k,row=some k→k<w.heap.size→S k):Chg S w w2:=
 ⟨hg.os.trans h.os,hg.tape.trans h.tape,hg.output.trans h.output,Nat.le_trans h.size hg.size,fun i hi hn=>(hg.block i (Nat.lt_of_lt_of_le hi h.size) (fun e=>hn (hr i e.symm hi))).trans (h.block i hi hn)⟩
end
theorem below_drewN(B:Nat)(w:World)(n:Nat):Below B w (w.drewN n):=by
 refine⟨?_,?_,?_,?_,?_⟩<;>first|rfl|exact Nat.le_refl _|(intros;rfl)|simp[World.drewN]
abbrev ptr(b:Nat):Value:=.pointer (some ⟨b,0,none⟩)
abbrev bV(x:ByteArray):Value:=.string x
def TS(w:World)(v:Value)(d:List ByteArray):Prop:=
 (∃A cap,v=.slice A 0 cap∧d=[])∨
 ∃h off cap,v=.slice (some ⟨h,off,none⟩) d.length cap∧d.length≤cap∧∀(i:Nat) (x:ByteArray),d[i]? =some x→w.cell? ⟨h,off+i,none⟩=some (.string x)
theorem TS.keep{w w':World}{v:Value}{d:List ByteArray}(h:TS w v d)(hk:∀p:Addr,(w.cell? p).isSome=true→w'.cell? p=w.cell? p):TS w' v d:=by
 rcases h with h|⟨h,off,cap,e,hc,hm⟩
 ·exact .inl h
 ·exact .inr ⟨h,off,cap,e,hc,fun i x hi=>(hk _ (by rw[hm i x hi];rfl)).trans (hm i x hi)⟩
theorem TS.below{w w':World}{v:Value}{d:List ByteArray}(h:TS w v d)(hb:Below w.heap.size w w'):TS w' v d:=
 h.keep fun p hp=>by
  obtain⟨u,hu⟩:=Option.isSome_iff_exists.1 hp;exact hb.cell (World.block_lt_of_cell? w p hu)
def OT(B:Nat)(w:World)(v:Value)(d:List ByteArray):Prop:=w.ownsRow B 9 1 v d.length (d.map bV)
theorem OT.ts{B:Nat}{w:World}{v:Value}{d:List ByteArray}(h:OT B w v d):TS w v d:=by
 rcases h.2 with⟨rfl,hz⟩|⟨g,cap,cur,rfl,hb,hh,hc,hm,hs,ht⟩
 ·exact .inl ⟨none,0,rfl,List.eq_nil_of_length_eq_zero hz⟩
 ·refine .inr ⟨g,0,cap,rfl,hc,fun i x hi=>?_⟩
  have:=World.ownsRow.cells h (g:=g) rfl i (.string x) (by rw[List.getElem?_map,hi];rfl)
  rw[Addr.add_lit,Nat.zero_add]at this;rw[Nat.zero_add];exact this
theorem OT.keep{B:Nat}{w w':World}{v:Value}{d:List ByteArray}(h:OT B w v d)(hk:∀g,v.ownBlock=some g→w'.heap[g]? =w.heap[g]?):OT B w' v d:=by
 refine⟨h.1,?_⟩;rcases h.2 with h2|⟨g,cap,cur,rfl,hb,hg,hr⟩
 ·exact .inl h2
 ·exact .inr ⟨g,cap,cur,rfl,hb,(hk g rfl).trans hg,hr⟩
theorem OT.nil(B:Nat)(w:World):OT B w (.slice none 0 0) []:=World.ownsRow_nil _ _ _ _
end Go.Proofs.YtpgddamhdfmdjaaGreatDoor.SL
namespace Go.Proofs.YtpgddamhdfmdjaaGreatDoor.MV
open Go.ChangeShapes Go.WideShapes Go.ChangeAt Go.RowKit Go.Maps Go.ChangeMaps
open Classical
def vE(v:Value):Option (DataW Value×List MemPlace):=some (.held v,[])
def Agr(D:DataW Value)(f:Lit→Option Value):Prop:=∀kl,WideAt.IsKeyLit kl→Maps.has D kl=(f kl).isSome∧∀v,f kl=some v→∀zd,D.atKey kl zd=.held v
def MapV(P:Program)(K:TypeId)(w:World)(b n:Nat)(f:Lit→Option Value):Prop:=∃D:DataW Value,w.ownsMap P K vE b n D∧Agr D f
section
variable {P:Program} {K:TypeId} {w w':World} {b n:Nat} {f g:Lit→Option Value}
theorem Agr.empty:Agr (.map []) fun _=>none:=fun kl _=>⟨rfl,fun v h=>by cases h⟩
theorem Agr.put{D:DataW Value}(h:Agr D f)(hm:IsMap D){kl:Lit}(hk:WideAt.IsKeyLit kl)(v:Value):Agr (D.put kl (.held v)) fun x=>if x=kl then some v else f x:=fun x hx=>by
 show _=(if x=kl then some v else f x).isSome∧∀u,(if x=kl then some v else f x)=some u→_
 by_cases e:x=kl
 ·subst e
  rw[if_pos rfl];exact⟨has_put_same hm hk _,fun u hu zd=>by injection hu with hu;subst hu;exact atKey_put_same hm hk _ _⟩
 ·rw[if_neg e]
  refine⟨(has_put_other e _).trans (h x hx).1,fun u hu zd=>?_⟩
  rw[atKey_put_other e];exact(h x hx).2 u hu zd
theorem Agr.del{D:DataW Value}(h:Agr D f){kl:Lit}:Agr (D.del kl) fun x=>if x=kl then none else f x:=fun x hx=>by
 show _=(if x=kl then none else f x).isSome∧∀u,(if x=kl then none else f x)=some u→_
 by_cases e:x=kl
 ·subst e
  rw[if_pos rfl];exact⟨has_del_same,fun u hu=>by cases hu⟩
 ·rw[if_neg e]
  refine⟨(has_del_other e).trans (h x hx).1,fun u hu zd=>?_⟩
  rw[atKey_del_other e];exact(h x hx).2 u hu zd
theorem MapV.lt(h:MapV P K w b n f):b<w.heap.size:=by obtain⟨D,h,_⟩:=h;exact h.lt
theorem MapV.obj(h:MapV P K w b n f):∃es clock,w.heap[b]? =some (.map es clock):=by
 obtain⟨D,⟨es,clock,hb,_⟩,_⟩:=h;exact⟨es,clock,hb⟩
theorem MapV.made(P:Program)(K:TypeId)(w:World):MapV P K (w.alloc (.map #[] 0)) w.heap.size 0 fun _=>none:=⟨.map [],World.ownsMap_made _ _ _ _,Agr.empty⟩
theorem MapV.keep(h:MapV P K w b n f)(e:w'.heap[b]? =w.heap[b]?):MapV P K w' b n f:=by
 obtain⟨D,⟨es,clock,hb,r⟩,hf⟩:=h;exact⟨D,⟨es,clock,e.trans hb,r⟩,hf⟩
theorem MapV.below(h:MapV P K w b n f)(hb:Below w.heap.size w w'):MapV P K w' b n f:=h.keep (hb.block b h.lt)
theorem MapV.congr(h:MapV P K w b n f)(e:∀k,f k=g k):MapV P K w b n g:=by rw[←show f=g from funext e];exact h
theorem MapV.mono(h:MapV P K w b n f){m:Nat}(hm:n≤m):MapV P K w b m f:=by
 obtain⟨D,h1,h2⟩:=h;exact⟨D,h1.mono hm,h2⟩
theorem P9{v:Value}{u:Value}{ps:List MemPlace}(h:vE v=some (.held u,ps)):v=u:=by
 unfold vE at h;injection h with h;injection h with h _;injection h
theorem MapV.look{t e:TypeId}(h:MapV P K w b n f)(hK:Keyed P K)(ht:P.underlying t=some (.map K e)){z:Value}(hz:(zeroValue e).run P w=.ok z w){key:Value}{kl:Lit}(cQ:keyOf P K key=some kl):
  (Instr.lookup t (.map (some b)) key true).run P w=.ok (.tuple #[(f kl).getD z,.bool (f kl).isSome]) w:=by
 obtain⟨D,hm,ha⟩:=h;have hl:=ha kl (hK.key cQ);obtain⟨v,ps,hr,hv⟩:=hm.look_ok hK ht hz (zd:=.held z) (zp:=[]) rfl cQ;rw[hr,hl.1]
 congr 4
 cases hf:f kl with
 |none=>
  rw[hf]at hl;rw[atKey_of_not_has hl.1]at hv;exact P9 hv
 |some u=>
  rw[hl.2 u hf]at hv;exact P9 hv
theorem MapV.put{t e:TypeId}(h:MapV P K w b n f)(hK:Keyed P K)(ht:P.underlying t=some (.map K e))(hn:n<maxLen){key:Value}{kl:Lit}(cQ:keyOf P K key=some kl)(v:Value):
  ∃w',(Instr.mapUpdate t (.map (some b)) key v).run P w=.ok () w'∧MapV P K w' b (n+1) (fun x=>if x=kl then some v else f x)∧w.mapTurned w' b:=by
 obtain⟨D,hm,ha⟩:=h;obtain⟨w',h1,h2,h3⟩:=hm.store hK ht hn cQ (d:=.held v) (ps:=[]) rfl;exact⟨w',h1,⟨_,h2,ha.put hm.isMap (hK.key cQ) v⟩,h3⟩
end
section
variable {P:Program} {w:World} {ops:Array Oper} {rest:List Oper} {o:Oper} {a:Act} {Q:Exit→Act→World→Prop} {K:TypeId} {b n:Nat} {f:Lit→Option Value}
theorem wpList_del(hg:o.guard=none)(m x:Operand)(t:TypeId)(ug:o.op=Op.call {callee:=Callee.builtin Builtin.delete,args:=#[m,x],argTypes:=#[t,K]})(e:TypeId)(hK:Keyed P K)(ht:P.underlying t=some (.map K e))(hm:a.eval m=.map (some b))(h:MapV P K w b n f)(key:Value)(kl:Lit)(hx:a.eval x=key)(cQ:keyOf P K key=some kl)(hk:∀w',MapV P K w' b n (fun x=>if x=kl then none else f x)→w.mapTurned w' b→wpList P ops Q rest (a.put o.dst (.tuple #[])) w'):wpList P ops Q (o::rest) a w:=by
 obtain⟨D,aE,ha⟩:=h;refine wpList_delete_own w hg m x t K ug e hK ht vE b n D hm aE key kl hx cQ fun w' h1 h2=>?_
 exact hk w' ⟨_,h1,ha.del⟩ h2
def RangeV(P:Program)(K:TypeId)(w:World)(b r n:Nat)(f:Lit→Option Value)(left:Lit→Bool)(eG:Nat):Prop:=∃D:DataW Value,w.ranges P K vE b r n D left eG∧Agr D f
theorem RangeV.left_eq{r eG:Nat}{left:Lit→Bool}(h:RangeV P K w b r n f left eG):w.rangeLeft b r=eG:=by obtain⟨D,h,_⟩:=h;exact h.left_eq
theorem RangeV.map{r eG:Nat}{left:Lit→Bool}(h:RangeV P K w b r n f left eG):MapV P K w b n f:=by obtain⟨D,h,ha⟩:=h;exact⟨D,h.owns,ha⟩
theorem RangeV.kept{w':World}{r eG:Nat}{left:Lit→Bool}(h:RangeV P K w b r n f left eG)(h1:w'.heap[b]? =w.heap[b]?)(h2:w'.heap[r]? =w.heap[r]?):RangeV P K w' b r n f left eG:=by
 obtain⟨D,⟨es,clock,since,seen,c0,hb,F,hs,hD,hr,rest⟩,ha⟩:=h;exact⟨D,⟨es,clock,since,seen,c0,h1.trans hb,F,hs,hD,h2.trans hr,rest⟩,ha⟩
theorem RangeV.lt{r eG:Nat}{left:Lit→Bool}(h:RangeV P K w b r n f left eG):r<w.heap.size:=by obtain⟨D,h,_⟩:=h;exact h.lt
theorem RangeV.below{w':World}{r eG:Nat}{left:Lit→Bool}(h:RangeV P K w b r n f left eG)(hb:Below w.heap.size w w'):RangeV P K w' b r n f left eG:=h.kept (hb.block b h.map.lt) (hb.block r h.lt)
theorem wpList_range(hg:o.guard=none)(m:Operand)(t:TypeId)(ug:o.op=Op.range t m)(e:TypeId)(hK:Keyed P K)(ht:P.underlying t=some (.map K e))(hm:a.eval m=.map (some b))(h:MapV P K w b n f)(hk:∀w' eG left,RangeV P K w' b w.heap.size n f left eG→(∀kl,WideAt.IsKeyLit kl→left kl=(f kl).isSome)→eG≤n→w.grownBy w' none→w'.heap.size=w.heap.size+1→wpList P ops Q rest (a.put o.dst (.pointer (some ⟨w.heap.size,0,none⟩))) w'):wpList P ops Q (o::rest) a w:=by
 obtain⟨D,aE,ha⟩:=h;exact wpList_range_own w hg m t ug K e hK ht vE b n D hm aE fun w' h1 h2 h3=>hk w' _ _ ⟨D,h1,ha⟩ (fun kl gY=>(ha kl gY).1) aE.size_le h2 h3
theorem wpList_step{α:Type}(uh:α→Value)(yX:∀key kl,keyOf P K key=some kl→∃x,key=uh x)(hg:o.guard=none)(it:Operand)(ug:o.op=Op.next it false)(hK:Keyed P K)(r:Nat)(left:Lit→Bool)(eG:Nat)(hit:a.eval it=.pointer (some ⟨r,0,none⟩))(h:RangeV P K w b r n f left eG)(ui:(∀kl,left kl=false)→wpList P ops Q rest (a.put o.dst (.tuple #[.bool false])) w)(uj:∀(x:α) (c:Value) (kl:Lit) (w':World) (oD:Nat),keyOf P K (uh x)=some kl→left kl=true→f kl=some c→RangeV P K w' b r n f (fun z=>left z&& !z.sameKey kl) oD→oD<eG→
   w.grownBy w' (some r)→w'.heap.size=w.heap.size→(Instr.entry (.pointer (some ⟨r,0,none⟩))).run P w'=.ok (.tuple #[uh x,c]) w'→wpList P ops Q rest (a.put o.dst (.tuple #[.bool true,uh x,c])) w'):
  wpList P ops Q (o::rest) a w:=by
 obtain⟨D,hr,ha⟩:=h;refine wpList_next_ranges w hg it ug K hK vE uh (fun v:Value=>v) yX (fun v y _=>⟨v,rfl⟩) b r n D left eG hit hr (fun _ h0=>ui h0) fun x c kl y w' oD cQ qJ hv al kQ aD eB bH tH=>?_
 have gY:=hK.key cQ;have hy:y.1=.held c:=by
  unfold vE at hv;injection hv with hv;rw[←hv]
 have nb:Maps.has D kl=true:=Maps.has_true_of_atKey al;have hf:f kl=some c:=by
  have h1:=(ha kl gY).1;rw[nb]at h1;obtain⟨v,ax⟩:=Option.isSome_iff_exists.1 h1.symm;have h2:=(ha kl gY).2 v ax (.held c);rw[al,hy]at h2;injection h2 with h2;rw[ax,h2]
 exact uj x c kl w' oD cQ qJ hf ⟨D,kQ,ha⟩ aD eB bH tH
end
def fS(g:ByteArray→Option Value):Lit→Option Value
 | .string l=>g ⟨l.toArray⟩
 |_=>none
theorem ba_of{a b:ByteArray}(h:a.data.toList=b.data.toList):a=b:=by
 obtain⟨⟨x⟩⟩:=a;obtain⟨⟨y⟩⟩:=b;simp only at h;rw[h]
theorem fS_put(g:ByteArray→Option Value)(k:ByteArray)(v:Option Value)(kl:Lit):(if kl=.string k.data.toList then v else fS g kl)=fS (fun x=>if x=k then v else g x) kl:=by
 cases kl with
 |string l=>
  show _=if(⟨l.toArray⟩:ByteArray)=k then v else g ⟨l.toArray⟩
  by_cases h:l=k.data.toList
  ·have e:(⟨l.toArray⟩:ByteArray)=k:=ba_of (by simp[h])
   rw[if_pos (by rw[h]),if_pos e]
  ·rw[if_neg (fun e=>h (by injection e)),if_neg (fun e=>h (by rw[←e]))];rfl
 |_=>exact if_neg (fun e=>by cases e)
def fI(g:Int→Option Value):Lit→Option Value
 | .int .i64 n=>g n
 |_=>none
theorem fI_put(g:Int→Option Value)(k:Int)(v:Option Value)(kl:Lit):(if kl=.int .i64 k then v else fI g kl)=fI (fun x=>if x=k then v else g x) kl:=by
 cases kl with
 |int q n=>
  cases q with
  |i64=>
   show _=if n=k then v else g n
   by_cases h:n=k
   ·subst h;rw[if_pos rfl,if_pos rfl]
   ·rw[if_neg (fun e=>h (by injection e)),if_neg h];rfl
  |_=>exact if_neg (fun e=>by cases e)
 |_=>exact if_neg (fun e=>by cases e)
end Go.Proofs.YtpgddamhdfmdjaaGreatDoor.MV
namespace Go.Proofs.YtpgddamhdfmdjaaGreatDoor
open Go.ChangeShapes Go.WideShapes Go.ChangeAt Go.RowKit
theorem ZJ:(Tryz.prog.info? 57).map (fun i=>(i.zero,i.size,i.bytes))=some (some (.agg #[.int .i64 0,.int .i64 0]),2,16):=by kernel_rfl
theorem ZK:(Tryz.prog.info? 55).map (fun i=>(i.zero,i.size,i.bytes))=some (some (.agg #[.string ByteArray.empty,.slice none 0 0]),2,40):=by kernel_rfl
theorem Qb:∃i,Tryz.prog.info? 57=some i∧i.zero=some (.agg #[.int .i64 0,.int .i64 0])∧i.size=2∧i.bytes=16:=by
 have h:=ZJ
 cases e:Tryz.prog.info? 57 with
 |none=>rw[e]at h;cases h
 |some i=>
  rw[e]at h;simp only[Option.map_some,Option.some.injEq,Prod.mk.injEq]at h;exact⟨i,rfl,h.1,h.2.1,h.2.2⟩
theorem OX:∃i,Tryz.prog.info? 55=some i∧i.zero=some (.agg #[.string ByteArray.empty,.slice none 0 0])∧i.size=2∧i.bytes=40:=by
 have h:=ZK
 cases e:Tryz.prog.info? 55 with
 |none=>rw[e]at h;cases h
 |some i=>
  rw[e]at h;simp only[Option.map_some,Option.some.injEq,Prod.mk.injEq]at h;exact⟨i,rfl,h.1,h.2.1,h.2.2⟩
theorem JX:Tryz.prog.underlying 39=some (.slice 57):=Tryz.underlying39
theorem I8:Tryz.prog.underlying 22=some (.slice 55):=Tryz.underlying22
def CK(w:World)(x:Nat)(kb:Bool)(K:Int):Prop:=w.cell? ⟨x,4,none⟩=some (.bool kb)∧w.cell? ⟨x,2,none⟩=some (.int .i64 K)
theorem CK.below{w w':World}{x:Nat}{kb:Bool}{K:Int}{B:Nat}(h:CK w x kb K)(hb:Below B w w')(hx:x<B):CK w' x kb K:=
 ⟨(hb.cell (p:=⟨x,4,none⟩) hx).trans h.1,(hb.cell (p:=⟨x,2,none⟩) hx).trans h.2⟩
theorem CK.lt{w:World}{x:Nat}{kb:Bool}{K:Int}(h:CK w x kb K):x<w.heap.size:=World.block_lt_of_cell? w _ h.1
theorem LE(r0 r1:Int)(x:Nat)(kb:Bool)(K:Int)(w:World)(h:CK w x kb K):
  Calls Tryz.prog 75 #[.agg #[.int .i64 r0,.int .i64 r1],.pointer (some ⟨x,0,none⟩)] w fun e w'=>e=.returned (.bool (d8 kb K (r0,r1)))∧Below w.heap.size w w':=by
 have hb:=(Below.refl w.heap.size w).alloc (Nat.le_refl _) (.cells #[.int .i64 r0,.int .i64 r1] 57);have HB:=qid hb;obtain⟨c4,c2⟩:=h.below hb h.lt;obtain⟨Q,hQ⟩:∃Q,d8 kb K (r0,r1)=Q:=⟨_,rfl⟩;rw[hQ];unfold d8 at hQ;have HQ:=qid hQ;clear hQ hb h
 cases kb with
 |false=>
  have:Q=true:=by rw[←HQ.out];rfl
  subst this;go_enter Tryz.func75,Tryz.ntmps75;go_wp2;go_ret;exact⟨rfl,HB.out⟩
 |true=>
  go_enter Tryz.func75,Tryz.ntmps75;go_wp2;go_ret;exact⟨by rw[←HQ.out];rfl,HB.out⟩
theorem Xr(kb:Bool)(K:Int){l:List Rw}{i:Nat}{r:Rw}(h:l[i]? =some r):Hk kb K (l.take (i+1))=if d8 kb K r=true then Hk kb K (l.take i)++[r]else Hk kb K (l.take i):=by
 obtain⟨hi,he⟩:=List.getElem?_eq_some_iff.1 h;unfold Hk;rw[List.take_add_one,h,Option.toList_some,List.filter_append,List.filter_cons]
 split
 ·rfl
 ·rw[List.filter_nil,List.append_nil]
theorem ZL{w:World}{B:Nat}{r0 r1:Int}(hb:w.heap[B]? =some (.cells #[.int .i64 r0,.int .i64 r1] 57 (0,0))):∀(j:Nat) (u:Value),(rcs [(r0,r1)])[j]? =some u→w.cell? ((⟨B,0,none⟩:Addr).add j)=some u:=
 World.news_of_block hb
theorem RE(v:Value)(l:List Rw)(x:Nat)(kb:Bool)(K:Int)(w:World)(h:RR w v l)(hc:CK w x kb K)(hl:l.length≤1000000):
  Calls Tryz.prog 76 #[v,.func (.func 75) #[] #[.pointer (some ⟨x,0,none⟩)]] w fun e w'=>∃v',e=.returned v'∧OR w.heap.size w' v' (Hk kb K l)∧Below w.heap.size w w':=by
 obtain⟨a,cap,rfl⟩:=h.form;obtain⟨i30,bQ,cS,bR,cY⟩:=Qb;have bE:=JX;obtain⟨HH,HC,HX,HL⟩:=hZ4 h hc hc.lt hl;clear h hc hl;have fC:∀args w,(callFunc 75 args).run Tryz.prog w=.ok (.enter 75 args) w:=fun args w=>by show Sem.run Tryz.prog (callFunc 75 args) w=_;go_simp
 go_enter Tryz.func76,Tryz.ntmps76;go_wp2
 go_loopg [5,10] l.length (fun gk u5 iW wx=>∃i:Nat,iW=.int .i64 (i:Int)∧i+gk=l.length∧Below w.heap.size w wx∧OR w.heap.size wx u5 (Hk kb K (l.take i)))
 case atStart=>exact⟨0,rfl,by omega,Below.refl _ _,World.ownsRow_nil _ _ _ _⟩
 case round=>
  obtain⟨i,rfl,hi,hB,hO⟩:=hrel;obtain⟨HB,HI,HO⟩:=hZ3 hB hi hO
  cases gk with
  |zero=>
   have l1:¬((i:Int)<(l.length:Int)):=by omega
   have he:l.take i=l:=List.take_of_length_le (by omega)
   have HE:=qid he;clear hB hi hO he;go_wp2;go_ret;exact⟨_,rfl,by have:=HO.out;rw[HE.out]at this;exact this,HB.out⟩
  |succ gk=>
   have aD:i<l.length:=by omega
   have dP:=HH.out.below hB;obtain⟨b,o,cp,he,cL,hx⟩:=dP.inv (by omega)
   injection he with ea _ ec;subst ea ec;obtain⟨r,bJ⟩:∃r,l[i]=r:=⟨_,rfl⟩;have du:l[i]? =some r:=by rw[List.getElem?_eq_getElem aD,bJ]
   obtain⟨x0,x1⟩:=hx i r du;have eR:=Xr kb K du;have l0:(0:Int)≤(i:Int):=by omega
   have l1:(i:Int)<(l.length:Int):=by omega
   obtain⟨i1,aN⟩:∃i1,i+1=i1:=⟨_,rfl⟩;have wk:IntKind.i64.wrap ((i:Int)+1)=(i1:Int):=by rw[show(i:Int)+1=(i1:Int) by omega];exact IntWalk.i64_in _ (by have:=HL.out;omega)
   have aQ:=qid aN;rw[aN]at eR;obtain⟨r0,r1⟩:=r;obtain⟨Q,hQ⟩:∃Q,d8 kb K (r0,r1)=Q:=⟨_,rfl⟩;obtain⟨L,hL⟩:∃L,Hk kb K (l.take i)=L:=⟨_,rfl⟩;have B9:L.length≤1000000:=by
    rw[←hL];have h1:=List.length_filter_le (d8 kb K) (l.take i);have h2:(l.take i).length≤l.length:=by rw[List.length_take];omega
    have h3:=HL.out;show(List.filter _ _).length≤_;omega
   have iR:=qid B9;rw[hQ,hL]at eR;rw[hL]at HO;have qS:Below w.heap.size w (wr.alloc (.cells #[.int .i64 r0,.int .i64 r1] 57)):=hB.alloc hB.size _;have dh:=qid qS;have BA:OR w.heap.size (wr.alloc (.cells #[.int .i64 r0,.int .i64 r1] 57)) u5 L:=HO.out.alloc _;have BB:=qid BA;have HM:=qid (LE r0 r1 x kb K _ (HC.out.below qS HX.out));rw[hQ]at HM;have j7:=qid eR;have jK:Blk (wr.alloc (.cells #[.int .i64 r0,.int .i64 r1] 57)) wr.heap.size 57 #[.int .i64 r0,.int .i64 r1]:=Blk.new _ _ _;have HK:=qid jK;clear hB hi dP hx bJ du aN aD hQ hL eR qS BA hO B9 jK
   cases Q with
   |false=>
    go_wp2_with (go_at_call 75;(refine HM.out.mono ?_);rintro e w2 ⟨rfl,aA⟩;have aL:=qid (dh.out.trans (aA.mono dh.out.size));have dB:=qid (aS BB.out aA);clear aA);go_roundg gk
    case measure=>exact Nat.lt_succ_self _
    case rel=>exact⟨i1,rfl,by have:=aQ.out;have:=HI.out;omega,aL.out,by have:=j7.out;rw[if_neg (by decide)]at this;rw[this];exact dB.out⟩
   |true=>
    go_wp2_with (first
     |(go_at_call 75;(refine HM.out.mono ?_);rintro e w2 ⟨rfl,aA⟩;have aL:=qid (dh.out.trans (aA.mono dh.out.size));have dB:=qid (aS BB.out aA);have bK:=HK.out.below aA HK.out.lt;have y0:w2.cell? ⟨wr.heap.size,0,none⟩=some (.int .i64 r0):=bK.cell 0;have y1:w2.cell? ⟨wr.heap.size,1,none⟩=some (.int .i64 r1):=bK.cell 1;clear aA bK)
     |(at_builtin;refine wpList_append_lies _ rfl _ _ 39 rfl w.heap.size 57 i30 (.agg #[.int .i64 0,.int .i64 0]) 2 16 bE bQ cS bR cY rfl (by decide) u5 L.length (rcs L) rfl (dB.out.alloc _) ⟨w2.heap.size,0,none⟩ 1 1 (rcs [(r0,r1)]) rfl rfl ?c1 ?c2 (by decide) ?c3 ?c4 ?c5 _ rfl ?_))
    all_goals first
     |exact ZL (heap_alloc_new _ _)
     |exact Gu _
     |(have:=iR.out;unfold maxLen;omega)
     |(have:=iR.out;omega)
     |(have:=aL.out.size;simp;omega)
     |skip
    intro g9 bN w9 aB aM af cE;have ay:OR w.heap.size w9 (.slice (some ⟨g9,0,none⟩) (L.length+1) bN) (L++[(r0,r1)]):=by
     unfold OR;rw[oF,List.length_append];exact aB
    have aP:=(aL.out.alloc aL.out.size (.cells #[.int .i64 r0,.int .i64 r1] 57)).grown aM (by have:=aL.out.size;simp;omega) (fun k hk=>(dB.out.lt k hk).1)
    obtain⟨cX,cI⟩:=hZ2 ay aP;clear aB ay aM af aP;go_wp2;go_roundg gk
    case measure=>exact Nat.lt_succ_self _
    case rel=>exact⟨i1,rfl,by have:=aQ.out;have:=HI.out;omega,cI.out,by have:=j7.out;simp only[if_true]at this;rw[this];exact cX.out⟩
theorem Xs(a b:Value)(k:Nat):∀j,j<k*2→(fl (List.replicate k (a,b)))[j]? =some (if j % 2=0 then a else b):=by
 intro j hj;have h:=Tn (List.replicate k (a,b)) (j / 2) (a,b) (by rw[List.getElem?_replicate,if_pos (by omega)])
 rcases(show j % 2=0∨j % 2=1 by omega)with e|e
 ·rw[if_pos e]
  have:=h.1;rw[show j / 2*2=j by omega]at this;exact this
 ·rw[if_neg (by omega)]
  have:=h.2;rw[show j / 2*2+1=j by omega]at this;exact this
theorem qbb(a b:Value)(k:Nat):(Builtin.zeroCells #[a,b] k).toList=fl (List.replicate k (a,b)):=by
 apply List.ext_getElem?
 intro j
 by_cases hj:j<k*2
 ·rw[Xs a b k j hj]
  rcases(show j % 2=0∨j % 2=1 by omega)with e|e<;>simp[Builtin.zeroCells,hj,e]
 ·have e2:(fl (List.replicate k (a,b)))[j]? =none:=by
   rw[List.getElem?_eq_none_iff,Gr,List.length_replicate];omega
  rw[e2];simp[Builtin.zeroCells];omega
theorem qbc(a b:Value)(k:Nat):(madeCells #[a,b] (k*2)).toList=fl (List.replicate k (a,b)):=by
 apply List.ext_getElem?
 intro j
 by_cases hj:j<k*2
 ·rw[Xs a b k j hj]
  rcases(show j % 2=0∨j % 2=1 by omega)with e|e<;>simp[madeCells,hj,e]
 ·have e2:(fl (List.replicate k (a,b)))[j]? =none:=by
   rw[List.getElem?_eq_none_iff,Gr,List.length_replicate];omega
  rw[e2];simp[madeCells];omega
theorem Qc{α:Type}(L:List α)(o N:Nat)(cs:List α)(h1:o+cs.length≤N)(h2:N≤L.length):(L.take o++cs++L.drop (o+cs.length)).take N=splice (L.take N) o cs:=by
 unfold splice;apply List.ext_getElem?;intro j;rw[List.getElem?_take];have mL:(L.take o).length=o:=by rw[List.length_take];omega
 have uk:((L.take N).take o).length=o:=by rw[List.length_take,List.length_take];omega
 by_cases hj:j<N
 ·rw[if_pos hj,List.append_assoc,List.getElem?_append (l₁:=L.take o),List.getElem?_append (l₁:=(L.take N).take o),mL,uk]
  by_cases h3:j<o
  ·rw[if_pos h3,if_pos h3,List.getElem?_take,if_pos h3,List.getElem?_take,if_pos h3,List.getElem?_take,if_pos hj]
  ·rw[if_neg h3,if_neg h3,List.getElem?_append,List.getElem?_append]
   by_cases h4:j-o<cs.length
   ·rw[if_pos h4,if_pos h4]
   ·rw[if_neg h4,if_neg h4,List.getElem?_drop,List.getElem?_drop,List.getElem?_take,if_pos (by omega)]
 ·rw[if_neg hj]
  symm
  rw[List.getElem?_eq_none_iff,List.length_append,List.length_append,uk,List.length_drop,List.length_take];omega
section
variable {P:Program} {w:World} {B g n cap z:Nat} {e:TypeId} {xs:List Value}
theorem Kx(h:w.ownsRow B e z (.slice (some ⟨g,0,none⟩) n cap) n xs)(o:Nat)(cs:List Value)(eh:o+cs.length≤n*z)(h1:∀v∈cs,v.oneCell'=true):
  ∃w',(storeCells ⟨g,o,none⟩ cs).run P w=.ok () w'∧w'.ownsRow B e z (.slice (some ⟨g,0,none⟩) n cap) n (splice xs o cs)∧w.grownBy w' (some g):=by
 rcases h.2 with⟨h',_⟩|⟨g',jm,cur,h',hb,hg,ns,kO,gC,jA⟩
 ·simp at h'
 ·simp only[Value.slice.injEq,Option.some.injEq,Addr.mk.injEq,and_true,true_and]at h'
  obtain⟨rfl,rfl⟩:=h';have hN:n*z≤cur.toList.length:=by rw[Array.length_toList,gC];exact Nat.mul_le_mul_right _ ns
  have ah:=run_storeCells_at P g o e cs 0 cur w hg (by rw[Array.length_toList]at hN;omega) h1
  simp only[Nat.add_zero]at ah;have hl:(splice xs o cs).length=n*z:=by rw[length_splice _ _ _ (by rw[h.1];exact eh),h.1]
  refine⟨_,ah,⟨hl,.inr ⟨g,cap,_,rfl,hb,setRow_heap w g cur _ e _ hg,ns,kO,?_,?_⟩⟩,⟨rfl,rfl,rfl,by simp,fun k _ hk=>setRow_other w g k _ (fun e=>hk (by simp[e]))⟩⟩
  ·simp only[List.size_toArray,List.length_append,List.length_take,List.length_drop,Array.length_toList]
   rw[Array.length_toList]at hN;omega
  ·rw[show(cur.toList.take o++cs++cur.toList.drop (o+cs.length)).toArray.toList=cur.toList.take o++cs++cur.toList.drop (o+cs.length)from rfl,Qc _ _ _ _ eh hN,jA]
theorem ZM(h:w.ownsRow B e z (.slice (some ⟨g,0,none⟩) n cap) n xs)(k:Nat)(hk:k≤n):w.ownsRow B e z (.slice (some ⟨g,0,none⟩) k cap) k (xs.take (k*z)):=by
 rcases h.2 with⟨h',_⟩|⟨g',jm,cur,h',hb,hg,ns,kO,gC,jA⟩
 ·simp at h'
 ·simp only[Value.slice.injEq,Option.some.injEq,Addr.mk.injEq,and_true,true_and]at h'
  obtain⟨rfl,rfl⟩:=h';have DE:k*z≤n*z:=Nat.mul_le_mul_right _ hk;refine⟨by rw[List.length_take,h.1];omega,.inr ⟨g,cap,cur,rfl,hb,hg,by omega,kO,gC,?_⟩⟩
  rw[←jA,List.take_take]
  congr 1;omega
theorem RF(t ty:TypeId)(i:TypeInfo)(a b:Value)(ht:P.underlying t=some (.slice e))(hi:P.info? e=some i)(hz:i.zero=some (.agg #[a,b]))(h1:a.oneCell'=true)(h2:b.oneCell'=true)(h:w.ownsRow B e 2 (.slice (some ⟨g,0,none⟩) n cap) n xs)(k c:Nat)(hk:k<n):
  ∃w',(Builtin.clear_ #[t] ty #[.slice (some ⟨g,k*2,none⟩) (n-k) c]).run P w=.ok (.tuple #[]) w'∧w'.ownsRow B e 2 (.slice (some ⟨g,0,none⟩) n cap) n (splice xs (k*2) (fl (List.replicate (n-k) (a,b))))∧w.grownBy w' (some g):=by
 have fD:∀v∈fl (List.replicate (n-k) (a,b)),v.oneCell'=true:=Lz _ _ fun p hp=>by
  rw[List.eq_of_mem_replicate hp];exact⟨h1,h2⟩
 obtain⟨w',hs,ho,hg⟩:=Kx (P:=P) h (k*2) (fl (List.replicate (n-k) (a,b))) (by rw[Gr,List.length_replicate];omega) fD
 refine⟨w',?_,ho,hg⟩;obtain⟨m,hm⟩:∃m,n-k=m+1:=⟨n-k-1,by omega⟩
 rw[hm]at hs⊢;have Db:=qbb a b (m+1);have yY:(Builtin.zeroCells (Value.agg #[a,b]).cells (m+1)).toList=fl (List.replicate (m+1) (a,b)):=Db;simp[Builtin.clear_,run_underlying ht,zeroValue,typeInfo,hi,hz,yY,hs]
theorem NV(dT sT ty:TypeId)(i:TypeInfo)(ht:P.underlying dT=some (.slice e))(hi:P.info? e=some i)(bH:i.size=z)(h:w.ownsRow B e z (.slice (some ⟨g,0,none⟩) n cap) n xs)(o dZ kB:Nat)(sp:Option Addr)(cz ba:Nat)(cs:List Value)(hl:cs.length=Nat.min cz dZ*z)(dw:0<Nat.min cz dZ→∃ad,sp=some ad∧∀j v,cs[j]? =some v→w.cell? (ad.add j)=some v)(eh:o+cs.length≤n*z)(h1:∀v∈cs,v.oneCell'=true):
  ∃w',(Builtin.copy_ #[dT,sT] ty #[.slice (some ⟨g,o,none⟩) dZ kB,.slice sp cz ba]).run P w=.ok (goInt (Nat.min cz dZ)) w'∧w'.ownsRow B e z (.slice (some ⟨g,0,none⟩) n cap) n (splice xs o cs)∧w.grownBy w' (some g):=by
 obtain⟨w',hs,ho,hg⟩:=Kx (P:=P) h o cs eh h1;refine⟨w',?_,ho,hg⟩;have hf:(Builtin.firstCells z (Nat.min cz dZ) (.slice sp cz ba)).run P w=.ok cs.toArray w:=by
  by_cases h0:0<Nat.min cz dZ
  ·obtain⟨ad,rfl,hc⟩:=dw h0
   exact run_firstCells_some w z _ ad cz ba cs hl hc
  ·have e0:Nat.min cz dZ=0:=by omega
   rw[e0,Nat.zero_mul]at hl;have:cs=[]:=List.eq_nil_of_length_eq_zero hl;subst this;rw[e0]
   cases sp with
   |none=>exact run_firstCells_none w z 0 cz ba
   |some ad=>exact run_firstCells_some w z 0 ad cz ba [] (by simp) (fun j v hj=>by simp at hj)
 subst bH;simp[Builtin.copy_,run_underlying ht,Builtin.lenOf,sizeOf,typeInfo,hi,hf,hs]
theorem Ht{ops:Array Oper}{rest:List Oper}{o:Oper}{a:Act}{Q:Exit→Act→World→Prop}(nt:o.guard=none)(d s:Operand)(dT sT:TypeId)(ho:o.op=.call {callee:=.builtin .copy,args:=#[d,s],argTypes:=#[dT,sT]})(i:TypeInfo)(ht:P.underlying dT=some (.slice e))(hi:P.info? e=some i)(bH:i.size=z)(off dZ kB:Nat)(sp:Option Addr)(cz ba:Nat)(hd:a.eval d=.slice (some ⟨g,off,none⟩) dZ kB)(hs:a.eval s=.slice sp cz ba)(h:w.ownsRow B e z (.slice (some ⟨g,0,none⟩) n cap) n xs)(cs:List Value)(hl:cs.length=Nat.min cz dZ*z)(dw:0<Nat.min cz dZ→∃ad,sp=some ad∧∀j v,cs[j]? =some v→w.cell? (ad.add j)=some v)(eh:off+cs.length≤n*z)(h1:∀v∈cs,v.oneCell'=true)(hk:∀w',w'.ownsRow B e z (.slice (some ⟨g,0,none⟩) n cap) n (splice xs off cs)→w.grownBy w' (some g)→wpList P ops Q rest (a.put o.dst (goInt (Nat.min cz dZ))) w'):wpList P ops Q (o::rest) a w:=by
 refine wpList_plain nt fun K hK=>?_
 obtain⟨w',hr,h2,h3⟩:=NV (P:=P) dT sT o.type i ht hi bH h off dZ kB sp cz ba cs hl dw eh h1;unfold Oper.wp;simp[execOp,ho,resolve,invoke,builtin,hd,hs,hr,Result.andThen];exact hK _ _ (hk w' h2 h3)
theorem JE{ops:Array Oper}{o:Oper}{a:Act}{K:Act→World→Prop}{Q:Exit→Act→World→Prop}{E:Prop}(nt:o.guard=none)(d s:Operand)(dT sT:TypeId)(ho:o.op=.call {callee:=.builtin .copy,args:=#[d,s],argTypes:=#[dT,sT]})(i:TypeInfo)(ht:P.underlying dT=some (.slice e))(hi:P.info? e=some i)(bH:i.size=z)(off dZ kB:Nat)(sp:Option Addr)(cz ba:Nat)(hd:a.eval d=.slice (some ⟨g,off,none⟩) dZ kB)(hs:a.eval s=.slice sp cz ba)(h:w.ownsRow B e z (.slice (some ⟨g,0,none⟩) n cap) n xs)(cs:List Value)(hl:cs.length=Nat.min cz dZ*z)(dw:0<Nat.min cz dZ→∃ad,sp=some ad∧∀j v,cs[j]? =some v→w.cell? (ad.add j)=some v)(eh:off+cs.length≤n*z)(h1:∀v∈cs,v.oneCell'=true)(hk:∀w',w'.ownsRow B e z (.slice (some ⟨g,0,none⟩) n cap) n (splice xs off cs)→w.grownBy w' (some g)→K (a.put o.dst (goInt (Nat.min cz dZ))) w'):
  if Region.wanted o (yielded ops a.tmps)=true then Oper.wp P o a w K Q else E:=by
 have hw:Region.wanted o (yielded ops a.tmps)=true:=by simp[Region.wanted,nt]
 rw[if_pos hw];obtain⟨w',hr,h2,h3⟩:=NV (P:=P) dT sT o.type i ht hi bH h off dZ kB sp cz ba cs hl dw eh h1;unfold Oper.wp;simp[execOp,ho,resolve,invoke,builtin,hd,hs,hr,Result.andThen];exact hk w' h2 h3
theorem Ny{ops:Array Oper}{rest:List Oper}{o:Oper}{x:Act}{Q:Exit→Act→World→Prop}(nt:o.guard=none)(s:Operand)(t:TypeId)(ho:o.op=.call {callee:=.builtin .clear,args:=#[s],argTypes:=#[t]})(i:TypeInfo)(a b:Value)(ht:P.underlying t=some (.slice e))(hi:P.info? e=some i)(hz:i.zero=some (.agg #[a,b]))(h1:a.oneCell'=true)(h2:b.oneCell'=true)(k c:Nat)(hs:x.eval s=.slice (some ⟨g,k*2,none⟩) (n-k) c)(h:w.ownsRow B e 2 (.slice (some ⟨g,0,none⟩) n cap) n xs)(hk:k<n)(hq:∀w',w'.ownsRow B e 2 (.slice (some ⟨g,0,none⟩) n cap) n (splice xs (k*2) (fl (List.replicate (n-k) (a,b))))→w.grownBy w' (some g)→wpList P ops Q rest (x.put o.dst (.tuple #[])) w'):wpList P ops Q (o::rest) x w:=by
 refine wpList_plain nt fun K hK=>?_
 obtain⟨w',hr,h3,h4⟩:=RF (P:=P) t o.type i a b ht hi hz h1 h2 h k c hk;unfold Oper.wp;simp[execOp,ho,resolve,invoke,builtin,hs,hr,Result.andThen];exact hK _ _ (hq w' h3 h4)
theorem run_app_zeros(t tn ty:TypeId)(i:TypeInfo)(a b:Value)(bytes:Nat)(kq kn:IntKind)(ht:P.underlying t=some (.slice e))(jw:P.underlying tn=some (.int kn))(hi:P.info? e=some i)(hz:i.zero=some (.agg #[a,b]))(bH:i.size=2)(uB:i.bytes=bytes)(base:Option Addr)(m ba:Nat)(olds:List Value)(jB:olds.length=m*2)(hold:0<m→∃ad,base=some ad∧∀j v,olds[j]? =some v→w.cell? (ad.add j)=some v)(k:Nat)(h0:0<k)(hg:ba<m+k)(hb:B≤w.heap.size)(y':(m+k)*bytes≤140737488355328)(uC:m+k≤maxLen):
  ∃c w',(Builtin.append_ #[t,tn] ty #[.slice base m ba,.int kq k]).run P w=.ok (.slice (some ⟨w.heap.size,0,none⟩) (m+k) c) w'∧
   w'.ownsRow B e 2 (.slice (some ⟨w.heap.size,0,none⟩) (m+k) c) (m+k) (olds++fl (List.replicate k (a,b)))∧w.grownBy w' none:=by
 have hf:(Builtin.firstCells i.size m (.slice base m ba)).run P w.drew=.ok olds.toArray w.drew:=by
  rw[bH]
  by_cases hm:0<m
  ·obtain⟨ad,rfl,hc⟩:=hold hm
   exact run_firstCells_some w.drew 2 m ad m ba olds jB hc
  ·have:m=0:=by omega
   subst this;have:olds=[]:=List.eq_nil_of_length_eq_zero (by simpa using jB)
   subst this
   cases base with
   |none=>exact run_firstCells_none w.drew 2 0 0 ba
   |some ad=>exact run_firstCells_some w.drew 2 0 ad 0 ba [] (by simp) (fun j v hj=>by simp at hj)
 have sG:k*bytes≤(m+k)*bytes:=Nat.mul_le_mul_right _ (by omega)
 have hr:=Lib.run_append_grow_zeros w t tn ty e i (.agg #[a,b]) kq kn ht jw hi hz base m ba olds hf k h0 (by omega) hg (by unfold maxLen at uC;omega) (by rw[uB];omega) (by rw[uB];exact growslice_fits hg y')
 refine⟨_,_,hr,?_,?_⟩
 ·have e1:(Value.agg #[a,b]).cells=#[a,b]:=rfl
  rw[e1];have kP:m+k≤grownCap w (m+k) ba e:=grownCap_ge w _ _ _;have bC:∀q,(Builtin.zeroCells #[a,b] q).size=q*2:=fun q=>size_zeroCells _ _
  refine⟨by rw[List.length_append,jB,Gr,List.length_replicate];omega,.inr ⟨w.heap.size,_,(olds.toArray++Builtin.zeroCells #[a,b] k++Builtin.zeroCells #[a,b] (grownCap w (m+k) ba e-(m+k))),rfl,hb,?_,kP,grownCap_le_maxLen w _ _ _ uC,?_,?_⟩⟩
  ·exact heap_alloc_new w.drew _
  ·rw[Array.size_append,Array.size_append,bC,bC,List.size_toArray,jB];omega
  ·rw[Array.toList_append,Array.toList_append,qbb,List.take_append_of_le_length (by rw[List.length_append,Gr,List.length_replicate,jB];omega),List.take_of_length_le (by rw[List.length_append,Gr,List.length_replicate,jB];omega)]
 ·have G:=World.grownBy_alloc w.drew (.cells (olds.toArray++Builtin.zeroCells (Value.agg #[a,b]).cells k++Builtin.zeroCells (Value.agg #[a,b]).cells (grownCap w (m+k) ba e-(m+k))) e) none
  exact⟨G.os,G.tape,G.output,G.size,fun j hj hn=>G.block j hj hn⟩
end
def Qd(kb:Bool)(K:Int):List Rw→Nat→Int
 | [],_=> -1
 |r::t,i=>if d8 kb K r=true then(i:Int)else Qd kb K t (i+1)
theorem Qe(kb:Bool)(K:Int):∀(l:List Rw) (i:Nat),(Qd kb K l i= -1∧∀r∈l,d8 kb K r=false)∨∃k r,Qd kb K l i=((i+k:Nat):Int)∧l[k]? =some r∧d8 kb K r=true∧∀x∈l.take k,d8 kb K x=false
 | [],i=>.inl ⟨rfl,fun r h=>by simp at h⟩
 |r::t,i=>by
  rw[Qd]
  by_cases h:d8 kb K r=true
  ·rw[if_pos h];exact .inr ⟨0,r,by simp,rfl,h,fun x hx=>by simp at hx⟩
  ·rw[if_neg h]
   have h0:d8 kb K r=false:=by simpa using h
   rcases Qe kb K t (i+1)with⟨h1,h2⟩|⟨k,u,h1,h2,h3,h4⟩
   ·refine .inl ⟨h1,fun x hx=>?_⟩
    rcases List.mem_cons.1 hx with rfl|hx
    ·exact h0
    ·exact h2 x hx
   ·refine .inr ⟨k+1,u,by rw[h1];congr 1;omega,by simpa using h2,h3,fun x hx=>?_⟩
    rw[List.take_succ_cons]at hx;rcases List.mem_cons.1 hx with rfl|hx
    ·exact h0
    ·exact h4 x hx
theorem Qf{kb:Bool}{K:Int}{l:List Rw}(h:∀r∈l,d8 kb K r=false):JU kb K l=l:=by
 unfold JU;rw[List.filter_eq_self];intro a ha;rw[h a ha];rfl
theorem MO(kb:Bool)(K:Int){l:List Rw}{i:Nat}{r:Rw}(h:l[i]? =some r):JU kb K (l.take (i+1))=if d8 kb K r=true then JU kb K (l.take i)else JU kb K (l.take i)++[r]:=by
 unfold JU;rw[List.take_add_one,h,Option.toList_some,List.filter_append,List.filter_cons]
 cases d8 kb K r<;>simp
theorem Xt(v:Value)(l:List Rw)(x:Nat)(kb:Bool)(K:Int)(w:World)(h:RR w v l)(hc:CK w x kb K)(hs:l.length≤1000000):
  Calls Tryz.prog 101 #[v,.func (.func 75) #[] #[.pointer (some ⟨x,0,none⟩)]] w fun e w'=>e=.returned (.int .i64 (Qd kb K l 0))∧Below w.heap.size w w':=by
 obtain⟨R,hR⟩:∃R,Qd kb K l 0=R:=⟨_,rfl⟩;rw[hR];obtain⟨a,cap,rfl⟩:=h.form;obtain⟨HH,HR,HC,HX,HS⟩:=hZ5 h hR hc hc.lt hs;have fC:∀args w,(callFunc 75 args).run Tryz.prog w=.ok (.enter 75 args) w:=fun args w=>by show Sem.run Tryz.prog (callFunc 75 args) w=_;go_simp
 clear h hR hc hs;go_enter Tryz.func101,Tryz.ntmps101;go_wp2
 go_loopg [8] l.length (fun gk u8 wx=>∃i:Nat,u8=.int .i64 (i:Int)∧i+gk=l.length∧Below w.heap.size w wx∧Qd kb K (l.drop i) i=R)
 case atStart=>exact⟨0,rfl,by omega,Below.refl _ _,HR.out⟩
 case round=>
  obtain⟨i,rfl,hi,hB,hr⟩:=hrel;obtain⟨HB,HI⟩:=hZ2 hB hi
  cases gk with
  |zero=>
   have l1:¬((i:Int)<(l.length:Int)):=by omega
   have hR:R= -1:=by rw[←hr,List.drop_of_length_le (by omega)];rfl
   subst hR;clear hB hi hr;go_wp2;go_ret;exact⟨rfl,HB.out⟩
  |succ gk=>
   have aD:i<l.length:=by omega
   have dP:=HH.out.below hB;obtain⟨b,o,cp,he,cL,hx⟩:=dP.inv (by omega)
   injection he with ea _ ec;subst ea ec;obtain⟨t,de⟩:∃t,l[i]=t:=⟨_,rfl⟩;obtain⟨x0,x1⟩:=hx i t (by rw[List.getElem?_eq_getElem aD,de])
   have l0:(0:Int)≤(i:Int):=by omega
   have l1:(i:Int)<(l.length:Int):=by omega
   obtain⟨i1,aN⟩:∃i1,i+1=i1:=⟨_,rfl⟩;have wk:IntKind.i64.wrap ((i:Int)+1)=(i1:Int):=by rw[show(i:Int)+1=(i1:Int) by omega];exact IntWalk.i64_in _ (by have:=HS.out;omega)
   have aQ:=qid aN;rw[List.drop_eq_getElem_cons aD,de,Qd,aN]at hr;obtain⟨r0,r1⟩:=t;have HF:=qid (LE r0 r1 x kb K wr (HC.out.below hB HX.out));obtain⟨Q,hQ⟩:∃Q,d8 kb K (r0,r1)=Q:=⟨_,rfl⟩;rw[hQ]at HF;simp only[hQ]at hr;have cM:=qid hr;clear hB hi hr dP hx de aN hQ aD
   cases Q with
   |true=>
    have hR:R=(i:Int):=by have:=cM.out;simpa using this.symm
    subst hR;go_wp2_with (go_at_call 75;(refine HF.out.mono ?_);rintro e w2 ⟨rfl,aA⟩;have aL:=qid aA;clear aA);go_ret;exact⟨rfl,HB.out.trans (aL.out.mono HB.out.size)⟩
   |false=>
    go_wp2_with (go_at_call 75;(refine HF.out.mono ?_);rintro e w2 ⟨rfl,aA⟩;have aL:=qid aA;clear aA);go_roundg gk
    case measure=>exact Nat.lt_succ_self _
    case rel=>exact⟨i1,rfl,by have:=aQ.out;have:=HI.out;omega,HB.out.trans (aL.out.mono HB.out.size),by have:=cM.out;simpa using this⟩
structure L0(kb:Bool)(K:Int)(l m:List Rw)(i j:Nat):Prop where
 len:m.length=l.length
 lt:i<j
 le:j≤l.length
 done:m.take i=JU kb K (l.take j)
 rest:m.drop j=l.drop j
theorem OY{α:Type}(m:List α)(i j:Nat)(x:α)(h:i≤j):(m.set j x).take i=m.take i:=by
 apply List.ext_getElem?
 intro k;rw[List.getElem?_take,List.getElem?_take]
 split
 ·rw[List.getElem?_set,if_neg (by omega)]
 ·rfl
theorem OZ{α:Type}(m:List α)(i j:Nat)(x:α)(h:i<j):(m.set i x).drop j=m.drop j:=by
 apply List.ext_getElem?
 intro k;rw[List.getElem?_drop,List.getElem?_drop,List.getElem?_set,if_neg (by omega)]
theorem L0.at_{kb:Bool}{K:Int}{l m:List Rw}{i j:Nat}(h:L0 kb K l m i j)(hj:j<l.length):m[j]? =some l[j]:=by
 have:=congrArg (fun q=>q[0]?) h.rest
 simp only[List.getElem?_drop,Nat.add_zero]at this;rw[this,List.getElem?_eq_getElem hj]
theorem L0.skip{kb:Bool}{K:Int}{l m:List Rw}{i j:Nat}(h:L0 kb K l m i j)(hj:j<l.length)(hm:d8 kb K l[j]=true):L0 kb K l m i (j+1):=
 ⟨h.len,by have:=h.lt;omega,hj,by rw[MO kb K (List.getElem?_eq_getElem hj),if_pos hm];exact h.done,by
  have:=congrArg (List.drop 1) h.rest;rw[List.drop_drop,List.drop_drop]at this;exact this⟩
theorem L0.keep{kb:Bool}{K:Int}{l m:List Rw}{i j:Nat}(h:L0 kb K l m i j)(hj:j<l.length)(hm:d8 kb K l[j]=false):L0 kb K l (m.set i l[j]) (i+1) (j+1):=by
 have hi:=h.lt;refine⟨by rw[List.length_set];exact h.len,by omega,hj,?_,?_⟩
 ·rw[MO kb K (List.getElem?_eq_getElem hj),hm,if_neg (by decide),←h.done,List.take_add_one,List.getElem?_set,if_pos rfl,if_pos (by rw[h.len];omega),OY m i i _ (Nat.le_refl _)]
  rfl
 ·rw[OZ _ _ _ _ (by omega)]
  have:=congrArg (List.drop 1) h.rest;rw[List.drop_drop,List.drop_drop]at this;exact this
theorem L0.start{kb:Bool}{K:Int}{l:List Rw}{i:Nat}{r:Rw}(hr:l[i]? =some r)(hm:d8 kb K r=true)(hf:∀x∈l.take i,d8 kb K x=false):L0 kb K l l i (i+1):=by
 have hi:=(List.getElem?_eq_some_iff.1 hr).1;exact⟨rfl,by omega,hi,by rw[MO kb K hr,if_pos hm,Qf hf],rfl⟩
theorem OR.cells{B g cap:Nat}{w:World}{l:List Rw}(h:OR B w (.slice (some ⟨g,0,none⟩) l.length cap) l)(i:Nat)(r:Rw)(hi:l[i]? =some r):w.cell? ⟨g,i*2,none⟩=some (.int .i64 r.1)∧w.cell? ⟨g,i*2+1,none⟩=some (.int .i64 r.2)∧w.frozen? ⟨g,i*2,none⟩=false∧w.frozen? ⟨g,i*2+1,none⟩=false:=by
 obtain⟨h1,h2⟩:=Ry l i r hi;have hl:i<l.length:=(List.getElem?_eq_some_iff.1 hi).1;have c:=fun j hj=>World.ownsRow.cellAt h (g:=g) (n:=l.length) (cap:=cap) j hj
 exact⟨(c (i*2) (by omega)).trans h1,(c (i*2+1) (by omega)).trans h2,World.ownsRow.frozenAt h _,World.ownsRow.frozenAt h _⟩
theorem ZN(l:List Rw)(i:Nat)(r q:Rw)(h:l[i]? =some r):((rcs l).set (i*2) (.int .i64 q.1)).set (i*2+1) (.int .i64 q.2)=rcs (l.set i q):=by
 unfold rcs;have h1:(l.map rp)[i]? =some (rp r):=by rw[List.getElem?_map,h];rfl
 rw[OO _ i (rp r) _ h1,L7 _ i (.int .i64 q.1,(rp r).2) _ (by rw[List.getElem?_set,if_pos rfl,if_pos (List.getElem?_eq_some_iff.1 h1).1 |> Eq.symm |>.symm]),List.set_set,List.map_set]
theorem OR.set{B g cap:Nat}{w:World}{l:List Rw}(h:OR B w (.slice (some ⟨g,0,none⟩) l.length cap) l)(i:Nat)(r q:Rw)(hi:l[i]? =some r):
  OR B ((w.setCell ⟨g,i*2,none⟩ (.int .i64 q.1)).setCell ⟨g,i*2+1,none⟩ (.int .i64 q.2)) (.slice (some ⟨g,0,none⟩) l.length cap) (l.set i q)∧w.grownBy ((w.setCell ⟨g,i*2,none⟩ (.int .i64 q.1)).setCell ⟨g,i*2+1,none⟩ (.int .i64 q.2)) (some g):=by
 obtain⟨a1,a2⟩:=World.ownsRow.stored h (i*2) (.int .i64 q.1);obtain⟨b1,b2⟩:=World.ownsRow.stored a1 (i*2+1) (.int .i64 q.2);rw[ZN l i r q hi]at b1;exact⟨by unfold OR;rw[List.length_set];exact b1,⟨b2.os.trans a2.os,b2.tape.trans a2.tape,b2.output.trans a2.output,Nat.le_trans a2.size b2.size,fun k hk hn=>(b2.block k (Nat.lt_of_lt_of_le hk a2.size) hn).trans (a2.block k hk hn)⟩⟩
theorem IZ{a b c:World}{row:Option Nat}(h:a.grownBy b row)(k:b.grownBy c row):a.grownBy c row:=
 ⟨k.os.trans h.os,k.tape.trans h.tape,k.output.trans h.output,Nat.le_trans h.size k.size,fun i hi hn=>(k.block i (Nat.lt_of_lt_of_le hi h.size) hn).trans (h.block i hi hn)⟩
theorem Kl{a b:World}{row:Option Nat}(h:Below a.heap.size a b):a.grownBy b row:=⟨h.os,h.tape,h.output,h.size,fun k hk _=>h.block k hk⟩
def qbM(B:Nat)(g cap:Nat)(kb:Bool)(K:Int)(l:List Rw)(w:World)(e:Ending)(w':World):Prop:=
 e=.returned (.slice (some ⟨g,0,none⟩) (JU kb K l).length cap)∧OR B w' (.slice (some ⟨g,0,none⟩) (JU kb K l).length cap) (JU kb K l)∧w.grownBy w' (some g)
theorem Qg{α:Type}(L:List α)(o k:Nat)(cs:List α)(h:k≤o)(h2:o≤L.length):(splice L o cs).take k=L.take k:=by
 unfold splice;rw[List.take_append_of_le_length (by rw[List.length_take];omega),List.take_take]
 congr 1;omega
theorem Qh{x y:Bool}(h:x=y):Ending.returned (.bool x)=Ending.returned (.bool y):=by rw[h]
def Hu(n:Int):Bool:=decide (97≤n∧n≤122∨65≤n∧n≤90∨n=95∨127<n)
def Hh(n:Int):Bool:=decide (48≤n∧n≤57)
def JY(n:Int):Bool:=Hu n||Hh n||n==36
def O0(n:Int):Bool:=Hu n||Hh n
def MP(n:Int):Bool:=Hh n||n==46
theorem Ma(n:Int)(w:World):Calls Tryz.prog 171 #[.int .i32 n] w fun e w'=>e=.returned (.bool (Hu n))∧w'=w:=by
 obtain⟨b,hb⟩:∃b,Hu n=b:=⟨_,rfl⟩;rw[hb];have HB:=qid hb;clear hb;go_enter Tryz.func171,Tryz.ntmps171;go_wp2
 all_goals
  go_ret;refine⟨?_,rfl⟩;rw[←HB.out];refine Qh ?_;unfold Hu;rw[Bool.eq_iff_iff];simp
  try omega
theorem Mb(n:Int)(w:World):Calls Tryz.prog 176 #[.int .i32 n] w fun e w'=>e=.returned (.bool (Hh n))∧w'=w:=by
 obtain⟨b,hb⟩:∃b,Hh n=b:=⟨_,rfl⟩;rw[hb];have HB:=qid hb;clear hb;go_enter Tryz.func176,Tryz.ntmps176;go_wp2
 all_goals
  go_ret;refine⟨?_,rfl⟩;rw[←HB.out];refine Qh ?_;unfold Hh;rw[Bool.eq_iff_iff];simp
  try omega
theorem K8(n:Int)(w:World):Calls Tryz.prog 144 #[.int .u8 n] w fun e w'=>e=.returned (.bool (Hu n))∧w'=w:=by
 obtain⟨b,hb⟩:∃b,Hu n=b:=⟨_,rfl⟩;rw[hb];have HB:=qid hb;clear hb;go_enter Tryz.func144,Tryz.ntmps144;go_wp2
 all_goals
  go_ret;refine⟨?_,rfl⟩;rw[←HB.out];refine Qh ?_;unfold Hu;rw[Bool.eq_iff_iff];simp
  try omega
theorem MQ(n:Int)(w:World):Calls Tryz.prog 147 #[.int .u8 n] w fun e w'=>e=.returned (.bool (Hh n))∧w'=w:=by
 obtain⟨b,hb⟩:∃b,Hh n=b:=⟨_,rfl⟩;rw[hb];have HB:=qid hb;clear hb;go_enter Tryz.func147,Tryz.ntmps147;go_wp2
 all_goals
  go_ret;refine⟨?_,rfl⟩;rw[←HB.out];refine Qh ?_;unfold Hh;rw[Bool.eq_iff_iff];simp
  try omega
theorem qbd(n:Int)(b:Bool)(h:Hid (Hu n=b))(w:World):Calls Tryz.prog 171 #[.int .i32 n] w fun e w'=>e=.returned (.bool b)∧w'=w:=by
 have:=Ma n w;rw[h.out]at this;exact this
theorem Xu(n:Int)(b:Bool)(h:Hid (Hh n=b))(w:World):Calls Tryz.prog 176 #[.int .i32 n] w fun e w'=>e=.returned (.bool b)∧w'=w:=by
 have:=Mb n w;rw[h.out]at this;exact this
theorem Xv(n:Int)(w:World):Calls Tryz.prog 172 #[.int .i32 n] w fun e w'=>e=.returned (.bool (JY n))∧w'=w:=by
 obtain⟨b0,h0⟩:∃b,Hu n=b:=⟨_,rfl⟩;have H0:=qid h0;clear h0;obtain⟨b1,h1⟩:∃b,Hh n=b:=⟨_,rfl⟩;have H1:=qid h1;clear h1
 cases b0<;>cases b1
 all_goals
  go_enter Tryz.func172,Tryz.ntmps172;go_wp2_with (first|(go_at_call 171;(with_reducible refine(qbd n _ H0 _).mono ?_);rintro e w1 ⟨rfl,hw⟩;obtain rfl:=hw.symm)|(go_at_call 176;(with_reducible refine(Xu n _ H1 _).mono ?_);rintro e w1 ⟨rfl,hw⟩;obtain rfl:=hw.symm))
 all_goals
  go_ret;refine⟨Qh ?_,rfl⟩;unfold JY;rw[H0.out,H1.out]
  try simp
theorem ZO(n:Int)(w:World):Calls Tryz.prog 229 #[.int .i32 n] w fun e w'=>e=.returned (.bool (O0 n))∧w'=w:=by
 obtain⟨b0,h0⟩:∃b,Hu n=b:=⟨_,rfl⟩;have H0:=qid h0;clear h0;obtain⟨b1,h1⟩:∃b,Hh n=b:=⟨_,rfl⟩;have H1:=qid h1;clear h1
 cases b0<;>cases b1
 all_goals
  go_enter Tryz.func229,Tryz.ntmps229;go_wp2_with (first|(go_at_call 171;(with_reducible refine(qbd n _ H0 _).mono ?_);rintro e w1 ⟨rfl,hw⟩;obtain rfl:=hw.symm)|(go_at_call 176;(with_reducible refine(Xu n _ H1 _).mono ?_);rintro e w1 ⟨rfl,hw⟩;obtain rfl:=hw.symm))
 all_goals
  go_ret;refine⟨Qh ?_,rfl⟩;unfold O0;rw[H0.out,H1.out]
  try simp
theorem ZP(n:Int)(w:World):Calls Tryz.prog 177 #[.int .i32 n] w fun e w'=>e=.returned (.bool (MP n))∧w'=w:=by
 obtain⟨b0,h0⟩:∃b,Hh n=b:=⟨_,rfl⟩;have H0:=qid h0;clear h0
 cases b0
 all_goals
  go_enter Tryz.func177,Tryz.ntmps177;go_wp2_with (first|(go_at_call 176;(with_reducible refine(Xu n _ H0 _).mono ?_);rintro e w1 ⟨rfl,hw⟩;obtain rfl:=hw.symm))
 all_goals
  go_ret;refine⟨Qh ?_,rfl⟩;unfold MP;rw[H0.out]
  try simp
def aT(p:UInt8→Bool)(l:Tx):Nat:=(l.takeWhile p).length
structure Kin(t:Int→Bool)(p:UInt8→Bool)(hi:Bool):Prop where
 low:∀c:UInt8,c.toNat<128→t (c.toNat:Int)=p c
 wide:∀n:Int,128≤n→t n=hi
 bytes:∀c:UInt8,128≤c.toNat→p c=hi
theorem TB(p:UInt8→Bool)(l:Tx)(n:Nat)(h1:∀c∈l.take n,p c=true)(c:UInt8)(r:Tx)(h2:l.drop n=c::r)(h3:p c=false):aT p l=n:=by
 have hn:n<l.length:=by
  have:=congrArg List.length h2;rw[List.length_drop,List.length_cons]at this;omega
 have e:l=l.take n++c::r:=by rw[←h2,List.take_append_drop]
 unfold aT;rw[e,List.takeWhile_append_of_pos h1,List.takeWhile_cons,if_neg (by rw[h3];decide),List.append_nil,List.length_take]
 omega
theorem Jf(p:UInt8→Bool)(l:Tx)(n:Nat)(h1:∀c∈l.take n,p c=true)(hn:l.length≤n):aT p l=l.length:=by
 rw[List.take_of_length_le hn]at h1;unfold aT;have:l.takeWhile p=l:=by
  have:=List.takeWhile_append_of_pos (l₂:=[]) h1
  simpa using this
 rw[this]
theorem Qi(s:ByteArray)(n:Nat)(h:n<s.size):s.data.toList.drop n=s[n]::s.data.toList.drop (n+1):=by
 have hl:n<s.data.toList.length:=by rw[←Lib.size_eq];exact h
 rw[List.drop_eq_getElem_cons hl]
 rfl
theorem NW(p:UInt8→Bool)(s:ByteArray)(pos k:Nat)(h1:∀c∈s.data.toList.take pos,p c=true)(h2:∀j,j<k→∀hj:pos+j<s.size,p (s[pos+j]'hj)=true)(hk:pos+k≤s.size):∀c∈s.data.toList.take (pos+k),p c=true:=by
 induction k with
 |zero=>exact h1
 |succ k ih=>
  have aD:pos+k<s.data.toList.length:=by rw[←Lib.size_eq];omega
  have dW:pos+k<s.size:=by omega
  rw[←Nat.add_assoc,List.take_succ_eq_append_getElem aD];intro c hc;rcases List.mem_append.1 hc with hc|hc
  ·exact ih (fun j hj dI=>h2 j (by omega) dI) (by omega) c hc
  ·rw[List.mem_singleton.1 hc]
   exact h2 k (by omega) dW
theorem Hl{w0 w:World}(g:Nat)(o:Obj)(B:Nat)(h:Below B w0 w)(hg:B≤g):Below B w0 {w with heap:=w.heap.setIfInBounds g o}:=by
 refine⟨h.os,h.tape,h.output,by simpa using h.size,fun k hk=>?_⟩
 rw[←h.block k hk];exact Array.getElem?_setIfInBounds_ne (by omega)
theorem Jg(t:Int→Bool)(p:UInt8→Bool)(hi:Bool)(hs:Kin t p hi)(s:ByteArray)(pos:Nat)(hp:pos<s.size)(h:∀c∈s.data.toList.take pos,p c=true):
  (t ((Utf8.decode s pos).1:Nat)=false→aT p s.data.toList=pos)∧(t ((Utf8.decode s pos).1:Nat)=true→pos+(Utf8.decode s pos).2≤s.size∧1≤(Utf8.decode s pos).2∧∀c∈s.data.toList.take (pos+(Utf8.decode s pos).2),p c=true):=by
 by_cases ha:(s[pos]'hp).toNat<128
 ·rw[decode_ascii s pos hp ha,hs.low _ ha]
  refine⟨fun e=>TB p _ pos h _ _ (Qi s pos hp) e,fun e=>⟨hp,Nat.le_refl _,NW p s pos 1 h (fun j hj dI=>?_) hp⟩⟩
  have:j=0:=by omega
  subst this;exact e
 ·have yZ:128≤(s[pos]'hp).toNat:=by omega
  obtain⟨d1,d2⟩:=decode_high s pos hp yZ;obtain⟨e1,e2⟩:=Pv s pos hp yZ;rw[hs.wide _ (by omega)]
  refine⟨fun e=>TB p _ pos h _ _ (Qi s pos hp) (by rw[hs.bytes _ yZ];exact e),fun e=>⟨e1,d2,NW p s pos _ h (fun j hj dI=>?_) e1⟩⟩
  rw[hs.bytes _ (e2 j hj dI)];exact e
theorem KG(t:Int→Bool)(p:UInt8→Bool)(hi:Bool)(hs:Hid (Kin t p hi))(s:ByteArray)(w:World)(hf:Hid (∀(n:Int) (w:World),Calls Tryz.prog 171 #[.int .i32 n] w fun e w'=>e=.returned (.bool (t n))∧Below w.heap.size w w')):
  Calls Tryz.prog 167 #[.string s,.func (.func 171) #[] #[]] w fun e w'=>e=.returned (.int .i64 (aT p s.data.toList:Nat))∧Below w.heap.size w w':=by
 have h0:(w.iter s 0).heap[w.heap.size]? =some (.stringIter s 0):=w.iter_heap s 0;have bD:Below w.heap.size w (w.iter s 0):=(Below.refl _ _).alloc (Nat.le_refl _) _;go_enter Tryz.func167,Tryz.ntmps167;go_wp2
 go_loopw [5] (fun _ wr=>∃pos,wr.heap[w.heap.size]? =some (.stringIter s pos)∧pos≤s.size∧(∀c∈s.data.toList.take pos,p c=true)∧Below w.heap.size w wr) (fun _ wr=>s.size-wr.iterPos w.heap.size)
 case atStart=>exact⟨0,h0,Nat.zero_le _,by simp,bD⟩
 case round=>
  obtain⟨pos,hg,ni,cU,hB⟩:=hrel;clear h0 bD;obtain⟨HG,dy,HB⟩:=hZ3 hg cU hB;have jL:wr.iterPos w.heap.size=pos:=by simp[World.iterPos,hg]
  have ky:=qid jL;clear hg cU hB jL
  by_cases hp:pos<s.size
  ·have jb:∀ty,(Instr.next (.pointer (some ⟨w.heap.size,0,none⟩)) true ty).run Tryz.prog wr=_:=fun ty=>By wr w.heap.size s pos ty HG.out hp
   have st:=Jg t p hi hs.out s pos hp dy.out;have h1:({wr with heap:=wr.heap.setIfInBounds w.heap.size (.stringIter s (pos+(Utf8.decode s pos).2))}:World).heap[w.heap.size]? =some (.stringIter s (pos+(Utf8.decode s pos).2)):=by
    have aD:w.heap.size<wr.heap.size:=(Array.getElem?_eq_some_iff.1 HG.out).1;simp[aD]
   have gH:=Hl w.heap.size (.stringIter s (pos+(Utf8.decode s pos).2)) w.heap.size HB.out (Nat.le_refl _)
   generalize ({wr with heap:=wr.heap.setIfInBounds w.heap.size (.stringIter s (pos+(Utf8.decode s pos).2))}:World)=w1 at*
   generalize (Utf8.decode s pos).1=rn at*
   generalize (Utf8.decode s pos).2=wd at*
   obtain⟨b,hb⟩:∃b,t (rn:Nat)=b:=⟨_,rfl⟩;rw[hb]at st;have F1:=hf.out (rn:Nat);rw[hb]at F1;obtain⟨eI,ST,H1,aX⟩:=hZ4 F1 st h1 gH;clear F1 st hb h1 gH
   cases b with
   |false=>
    have HR:=qid (ST.out.1 rfl);clear ST;go_wp2_with (go_at_call 171;refine(eI.out _).mono ?_;rintro e w2 ⟨rfl,aA⟩);go_ret;exact⟨by rw[HR.out];rfl,aX.out.trans (aA.mono aX.out.size)⟩
   |true=>
    obtain⟨s1,s2,s3⟩:=ST.out.2 rfl;go_wp2_with (go_at_call 171;refine(eI.out _).mono ?_;rintro e w2 ⟨rfl,aA⟩)
    go_roundw
    case rel=>exact⟨pos+wd,(aA.block _ (Array.getElem?_eq_some_iff.1 H1.out).1).trans H1.out,s1,s3,aX.out.trans (aA.mono aX.out.size)⟩
    case measure=>
     have e2:w2.iterPos w.heap.size=pos+wd:=by simp[World.iterPos,(aA.block _ (Array.getElem?_eq_some_iff.1 H1.out).1).trans H1.out]
     rw[ky.out,e2];omega
  ·have jb:∀ty,(Instr.next (.pointer (some ⟨w.heap.size,0,none⟩)) true ty).run Tryz.prog wr=_:=fun ty=>wl wr w.heap.size s pos ty HG.out hp
   go_wp2;go_ret;refine⟨?_,HB.out⟩;rw[Jf p _ pos dy.out (by rw[←Lib.size_eq];omega),←Lib.size_eq];rfl
theorem Xw(t:Int→Bool)(p:UInt8→Bool)(hi:Bool)(hs:Hid (Kin t p hi))(s:ByteArray)(w:World)(hf:Hid (∀(n:Int) (w:World),Calls Tryz.prog 172 #[.int .i32 n] w fun e w'=>e=.returned (.bool (t n))∧Below w.heap.size w w')):
  Calls Tryz.prog 167 #[.string s,.func (.func 172) #[] #[]] w fun e w'=>e=.returned (.int .i64 (aT p s.data.toList:Nat))∧Below w.heap.size w w':=by
 have h0:(w.iter s 0).heap[w.heap.size]? =some (.stringIter s 0):=w.iter_heap s 0;have bD:Below w.heap.size w (w.iter s 0):=(Below.refl _ _).alloc (Nat.le_refl _) _;go_enter Tryz.func167,Tryz.ntmps167;go_wp2
 go_loopw [5] (fun _ wr=>∃pos,wr.heap[w.heap.size]? =some (.stringIter s pos)∧pos≤s.size∧(∀c∈s.data.toList.take pos,p c=true)∧Below w.heap.size w wr) (fun _ wr=>s.size-wr.iterPos w.heap.size)
 case atStart=>exact⟨0,h0,Nat.zero_le _,by simp,bD⟩
 case round=>
  obtain⟨pos,hg,ni,cU,hB⟩:=hrel;clear h0 bD;obtain⟨HG,dy,HB⟩:=hZ3 hg cU hB;have jL:wr.iterPos w.heap.size=pos:=by simp[World.iterPos,hg]
  have ky:=qid jL;clear hg cU hB jL
  by_cases hp:pos<s.size
  ·have jb:∀ty,(Instr.next (.pointer (some ⟨w.heap.size,0,none⟩)) true ty).run Tryz.prog wr=_:=fun ty=>By wr w.heap.size s pos ty HG.out hp
   have st:=Jg t p hi hs.out s pos hp dy.out;have h1:({wr with heap:=wr.heap.setIfInBounds w.heap.size (.stringIter s (pos+(Utf8.decode s pos).2))}:World).heap[w.heap.size]? =some (.stringIter s (pos+(Utf8.decode s pos).2)):=by
    have aD:w.heap.size<wr.heap.size:=(Array.getElem?_eq_some_iff.1 HG.out).1;simp[aD]
   have gH:=Hl w.heap.size (.stringIter s (pos+(Utf8.decode s pos).2)) w.heap.size HB.out (Nat.le_refl _)
   generalize ({wr with heap:=wr.heap.setIfInBounds w.heap.size (.stringIter s (pos+(Utf8.decode s pos).2))}:World)=w1 at*
   generalize (Utf8.decode s pos).1=rn at*
   generalize (Utf8.decode s pos).2=wd at*
   obtain⟨b,hb⟩:∃b,t (rn:Nat)=b:=⟨_,rfl⟩;rw[hb]at st;have F1:=hf.out (rn:Nat);rw[hb]at F1;obtain⟨eI,ST,H1,aX⟩:=hZ4 F1 st h1 gH;clear F1 st hb h1 gH
   cases b with
   |false=>
    have HR:=qid (ST.out.1 rfl);clear ST;go_wp2_with (go_at_call 172;refine(eI.out _).mono ?_;rintro e w2 ⟨rfl,aA⟩);go_ret;exact⟨by rw[HR.out];rfl,aX.out.trans (aA.mono aX.out.size)⟩
   |true=>
    obtain⟨s1,s2,s3⟩:=ST.out.2 rfl;go_wp2_with (go_at_call 172;refine(eI.out _).mono ?_;rintro e w2 ⟨rfl,aA⟩)
    go_roundw
    case rel=>exact⟨pos+wd,(aA.block _ (Array.getElem?_eq_some_iff.1 H1.out).1).trans H1.out,s1,s3,aX.out.trans (aA.mono aX.out.size)⟩
    case measure=>
     have e2:w2.iterPos w.heap.size=pos+wd:=by simp[World.iterPos,(aA.block _ (Array.getElem?_eq_some_iff.1 H1.out).1).trans H1.out]
     rw[ky.out,e2];omega
  ·have jb:∀ty,(Instr.next (.pointer (some ⟨w.heap.size,0,none⟩)) true ty).run Tryz.prog wr=_:=fun ty=>wl wr w.heap.size s pos ty HG.out hp
   go_wp2;go_ret;refine⟨?_,HB.out⟩;rw[Jf p _ pos dy.out (by rw[←Lib.size_eq];omega),←Lib.size_eq];rfl
theorem LF(t:Int→Bool)(p:UInt8→Bool)(hi:Bool)(hs:Hid (Kin t p hi))(s:ByteArray)(w:World)(hf:Hid (∀(n:Int) (w:World),Calls Tryz.prog 176 #[.int .i32 n] w fun e w'=>e=.returned (.bool (t n))∧Below w.heap.size w w')):
  Calls Tryz.prog 167 #[.string s,.func (.func 176) #[] #[]] w fun e w'=>e=.returned (.int .i64 (aT p s.data.toList:Nat))∧Below w.heap.size w w':=by
 have h0:(w.iter s 0).heap[w.heap.size]? =some (.stringIter s 0):=w.iter_heap s 0;have bD:Below w.heap.size w (w.iter s 0):=(Below.refl _ _).alloc (Nat.le_refl _) _;go_enter Tryz.func167,Tryz.ntmps167;go_wp2
 go_loopw [5] (fun _ wr=>∃pos,wr.heap[w.heap.size]? =some (.stringIter s pos)∧pos≤s.size∧(∀c∈s.data.toList.take pos,p c=true)∧Below w.heap.size w wr) (fun _ wr=>s.size-wr.iterPos w.heap.size)
 case atStart=>exact⟨0,h0,Nat.zero_le _,by simp,bD⟩
 case round=>
  obtain⟨pos,hg,ni,cU,hB⟩:=hrel;clear h0 bD;obtain⟨HG,dy,HB⟩:=hZ3 hg cU hB;have jL:wr.iterPos w.heap.size=pos:=by simp[World.iterPos,hg]
  have ky:=qid jL;clear hg cU hB jL
  by_cases hp:pos<s.size
  ·have jb:∀ty,(Instr.next (.pointer (some ⟨w.heap.size,0,none⟩)) true ty).run Tryz.prog wr=_:=fun ty=>By wr w.heap.size s pos ty HG.out hp
   have st:=Jg t p hi hs.out s pos hp dy.out;have h1:({wr with heap:=wr.heap.setIfInBounds w.heap.size (.stringIter s (pos+(Utf8.decode s pos).2))}:World).heap[w.heap.size]? =some (.stringIter s (pos+(Utf8.decode s pos).2)):=by
    have aD:w.heap.size<wr.heap.size:=(Array.getElem?_eq_some_iff.1 HG.out).1;simp[aD]
   have gH:=Hl w.heap.size (.stringIter s (pos+(Utf8.decode s pos).2)) w.heap.size HB.out (Nat.le_refl _)
   generalize ({wr with heap:=wr.heap.setIfInBounds w.heap.size (.stringIter s (pos+(Utf8.decode s pos).2))}:World)=w1 at*
   generalize (Utf8.decode s pos).1=rn at*
   generalize (Utf8.decode s pos).2=wd at*
   obtain⟨b,hb⟩:∃b,t (rn:Nat)=b:=⟨_,rfl⟩;rw[hb]at st;have F1:=hf.out (rn:Nat);rw[hb]at F1;obtain⟨eI,ST,H1,aX⟩:=hZ4 F1 st h1 gH;clear F1 st hb h1 gH
   cases b with
   |false=>
    have HR:=qid (ST.out.1 rfl);clear ST;go_wp2_with (go_at_call 176;refine(eI.out _).mono ?_;rintro e w2 ⟨rfl,aA⟩);go_ret;exact⟨by rw[HR.out];rfl,aX.out.trans (aA.mono aX.out.size)⟩
   |true=>
    obtain⟨s1,s2,s3⟩:=ST.out.2 rfl;go_wp2_with (go_at_call 176;refine(eI.out _).mono ?_;rintro e w2 ⟨rfl,aA⟩)
    go_roundw
    case rel=>exact⟨pos+wd,(aA.block _ (Array.getElem?_eq_some_iff.1 H1.out).1).trans H1.out,s1,s3,aX.out.trans (aA.mono aX.out.size)⟩
    case measure=>
     have e2:w2.iterPos w.heap.size=pos+wd:=by simp[World.iterPos,(aA.block _ (Array.getElem?_eq_some_iff.1 H1.out).1).trans H1.out]
     rw[ky.out,e2];omega
  ·have jb:∀ty,(Instr.next (.pointer (some ⟨w.heap.size,0,none⟩)) true ty).run Tryz.prog wr=_:=fun ty=>wl wr w.heap.size s pos ty HG.out hp
   go_wp2;go_ret;refine⟨?_,HB.out⟩;rw[Jf p _ pos dy.out (by rw[←Lib.size_eq];omega),←Lib.size_eq];rfl
theorem ZQ(t:Int→Bool)(p:UInt8→Bool)(hi:Bool)(hs:Hid (Kin t p hi))(s:ByteArray)(w:World)(hf:Hid (∀(n:Int) (w:World),Calls Tryz.prog 177 #[.int .i32 n] w fun e w'=>e=.returned (.bool (t n))∧Below w.heap.size w w')):
  Calls Tryz.prog 167 #[.string s,.func (.func 177) #[] #[]] w fun e w'=>e=.returned (.int .i64 (aT p s.data.toList:Nat))∧Below w.heap.size w w':=by
 have h0:(w.iter s 0).heap[w.heap.size]? =some (.stringIter s 0):=w.iter_heap s 0;have bD:Below w.heap.size w (w.iter s 0):=(Below.refl _ _).alloc (Nat.le_refl _) _;go_enter Tryz.func167,Tryz.ntmps167;go_wp2
 go_loopw [5] (fun _ wr=>∃pos,wr.heap[w.heap.size]? =some (.stringIter s pos)∧pos≤s.size∧(∀c∈s.data.toList.take pos,p c=true)∧Below w.heap.size w wr) (fun _ wr=>s.size-wr.iterPos w.heap.size)
 case atStart=>exact⟨0,h0,Nat.zero_le _,by simp,bD⟩
 case round=>
  obtain⟨pos,hg,ni,cU,hB⟩:=hrel;clear h0 bD;obtain⟨HG,dy,HB⟩:=hZ3 hg cU hB;have jL:wr.iterPos w.heap.size=pos:=by simp[World.iterPos,hg]
  have ky:=qid jL;clear hg cU hB jL
  by_cases hp:pos<s.size
  ·have jb:∀ty,(Instr.next (.pointer (some ⟨w.heap.size,0,none⟩)) true ty).run Tryz.prog wr=_:=fun ty=>By wr w.heap.size s pos ty HG.out hp
   have st:=Jg t p hi hs.out s pos hp dy.out;have h1:({wr with heap:=wr.heap.setIfInBounds w.heap.size (.stringIter s (pos+(Utf8.decode s pos).2))}:World).heap[w.heap.size]? =some (.stringIter s (pos+(Utf8.decode s pos).2)):=by
    have aD:w.heap.size<wr.heap.size:=(Array.getElem?_eq_some_iff.1 HG.out).1;simp[aD]
   have gH:=Hl w.heap.size (.stringIter s (pos+(Utf8.decode s pos).2)) w.heap.size HB.out (Nat.le_refl _)
   generalize ({wr with heap:=wr.heap.setIfInBounds w.heap.size (.stringIter s (pos+(Utf8.decode s pos).2))}:World)=w1 at*
   generalize (Utf8.decode s pos).1=rn at*
   generalize (Utf8.decode s pos).2=wd at*
   obtain⟨b,hb⟩:∃b,t (rn:Nat)=b:=⟨_,rfl⟩;rw[hb]at st;have F1:=hf.out (rn:Nat);rw[hb]at F1;obtain⟨eI,ST,H1,aX⟩:=hZ4 F1 st h1 gH;clear F1 st hb h1 gH
   cases b with
   |false=>
    have HR:=qid (ST.out.1 rfl);clear ST;go_wp2_with (go_at_call 177;refine(eI.out _).mono ?_;rintro e w2 ⟨rfl,aA⟩);go_ret;exact⟨by rw[HR.out];rfl,aX.out.trans (aA.mono aX.out.size)⟩
   |true=>
    obtain⟨s1,s2,s3⟩:=ST.out.2 rfl;go_wp2_with (go_at_call 177;refine(eI.out _).mono ?_;rintro e w2 ⟨rfl,aA⟩)
    go_roundw
    case rel=>exact⟨pos+wd,(aA.block _ (Array.getElem?_eq_some_iff.1 H1.out).1).trans H1.out,s1,s3,aX.out.trans (aA.mono aX.out.size)⟩
    case measure=>
     have e2:w2.iterPos w.heap.size=pos+wd:=by simp[World.iterPos,(aA.block _ (Array.getElem?_eq_some_iff.1 H1.out).1).trans H1.out]
     rw[ky.out,e2];omega
  ·have jb:∀ty,(Instr.next (.pointer (some ⟨w.heap.size,0,none⟩)) true ty).run Tryz.prog wr=_:=fun ty=>wl wr w.heap.size s pos ty HG.out hp
   go_wp2;go_ret;refine⟨?_,HB.out⟩;rw[Jf p _ pos dy.out (by rw[←Lib.size_eq];omega),←Lib.size_eq];rfl
theorem ZR(t:Int→Bool)(p:UInt8→Bool)(hi:Bool)(hs:Hid (Kin t p hi))(s:ByteArray)(w:World)(hf:Hid (∀(n:Int) (w:World),Calls Tryz.prog 229 #[.int .i32 n] w fun e w'=>e=.returned (.bool (t n))∧Below w.heap.size w w')):
  Calls Tryz.prog 167 #[.string s,.func (.func 229) #[] #[]] w fun e w'=>e=.returned (.int .i64 (aT p s.data.toList:Nat))∧Below w.heap.size w w':=by
 have h0:(w.iter s 0).heap[w.heap.size]? =some (.stringIter s 0):=w.iter_heap s 0;have bD:Below w.heap.size w (w.iter s 0):=(Below.refl _ _).alloc (Nat.le_refl _) _;go_enter Tryz.func167,Tryz.ntmps167;go_wp2
 go_loopw [5] (fun _ wr=>∃pos,wr.heap[w.heap.size]? =some (.stringIter s pos)∧pos≤s.size∧(∀c∈s.data.toList.take pos,p c=true)∧Below w.heap.size w wr) (fun _ wr=>s.size-wr.iterPos w.heap.size)
 case atStart=>exact⟨0,h0,Nat.zero_le _,by simp,bD⟩
 case round=>
  obtain⟨pos,hg,ni,cU,hB⟩:=hrel;clear h0 bD;obtain⟨HG,dy,HB⟩:=hZ3 hg cU hB;have jL:wr.iterPos w.heap.size=pos:=by simp[World.iterPos,hg]
  have ky:=qid jL;clear hg cU hB jL
  by_cases hp:pos<s.size
  ·have jb:∀ty,(Instr.next (.pointer (some ⟨w.heap.size,0,none⟩)) true ty).run Tryz.prog wr=_:=fun ty=>By wr w.heap.size s pos ty HG.out hp
   have st:=Jg t p hi hs.out s pos hp dy.out;have h1:({wr with heap:=wr.heap.setIfInBounds w.heap.size (.stringIter s (pos+(Utf8.decode s pos).2))}:World).heap[w.heap.size]? =some (.stringIter s (pos+(Utf8.decode s pos).2)):=by
    have aD:w.heap.size<wr.heap.size:=(Array.getElem?_eq_some_iff.1 HG.out).1;simp[aD]
   have gH:=Hl w.heap.size (.stringIter s (pos+(Utf8.decode s pos).2)) w.heap.size HB.out (Nat.le_refl _)
   generalize ({wr with heap:=wr.heap.setIfInBounds w.heap.size (.stringIter s (pos+(Utf8.decode s pos).2))}:World)=w1 at*
   generalize (Utf8.decode s pos).1=rn at*
   generalize (Utf8.decode s pos).2=wd at*
   obtain⟨b,hb⟩:∃b,t (rn:Nat)=b:=⟨_,rfl⟩;rw[hb]at st;have F1:=hf.out (rn:Nat);rw[hb]at F1;obtain⟨eI,ST,H1,aX⟩:=hZ4 F1 st h1 gH;clear F1 st hb h1 gH
   cases b with
   |false=>
    have HR:=qid (ST.out.1 rfl);clear ST;go_wp2_with (go_at_call 229;refine(eI.out _).mono ?_;rintro e w2 ⟨rfl,aA⟩);go_ret;exact⟨by rw[HR.out];rfl,aX.out.trans (aA.mono aX.out.size)⟩
   |true=>
    obtain⟨s1,s2,s3⟩:=ST.out.2 rfl;go_wp2_with (go_at_call 229;refine(eI.out _).mono ?_;rintro e w2 ⟨rfl,aA⟩)
    go_roundw
    case rel=>exact⟨pos+wd,(aA.block _ (Array.getElem?_eq_some_iff.1 H1.out).1).trans H1.out,s1,s3,aX.out.trans (aA.mono aX.out.size)⟩
    case measure=>
     have e2:w2.iterPos w.heap.size=pos+wd:=by simp[World.iterPos,(aA.block _ (Array.getElem?_eq_some_iff.1 H1.out).1).trans H1.out]
     rw[ky.out,e2];omega
  ·have jb:∀ty,(Instr.next (.pointer (some ⟨w.heap.size,0,none⟩)) true ty).run Tryz.prog wr=_:=fun ty=>wl wr w.heap.size s pos ty HG.out hp
   go_wp2;go_ret;refine⟨?_,HB.out⟩;rw[Jf p _ pos dy.out (by rw[←Lib.size_eq];omega),←Lib.size_eq];rfl
theorem U8(t:Int→Bool)(p:UInt8→Bool)(hi:Bool)(hs:Hid (Kin t p hi))(s:ByteArray)(w:World)(hf:Hid (∀(n:Int) (w:World),Calls Tryz.prog 168 #[.int .i32 n] w fun e w'=>e=.returned (.bool (t n))∧Below w.heap.size w w')):
  Calls Tryz.prog 167 #[.string s,.func (.func 168) #[] #[]] w fun e w'=>e=.returned (.int .i64 (aT p s.data.toList:Nat))∧Below w.heap.size w w':=by
 have h0:(w.iter s 0).heap[w.heap.size]? =some (.stringIter s 0):=w.iter_heap s 0;have bD:Below w.heap.size w (w.iter s 0):=(Below.refl _ _).alloc (Nat.le_refl _) _;go_enter Tryz.func167,Tryz.ntmps167;go_wp2
 go_loopw [5] (fun _ wr=>∃pos,wr.heap[w.heap.size]? =some (.stringIter s pos)∧pos≤s.size∧(∀c∈s.data.toList.take pos,p c=true)∧Below w.heap.size w wr) (fun _ wr=>s.size-wr.iterPos w.heap.size)
 case atStart=>exact⟨0,h0,Nat.zero_le _,by simp,bD⟩
 case round=>
  obtain⟨pos,hg,ni,cU,hB⟩:=hrel;clear h0 bD;obtain⟨HG,dy,HB⟩:=hZ3 hg cU hB;have jL:wr.iterPos w.heap.size=pos:=by simp[World.iterPos,hg]
  have ky:=qid jL;clear hg cU hB jL
  by_cases hp:pos<s.size
  ·have jb:∀ty,(Instr.next (.pointer (some ⟨w.heap.size,0,none⟩)) true ty).run Tryz.prog wr=_:=fun ty=>By wr w.heap.size s pos ty HG.out hp
   have st:=Jg t p hi hs.out s pos hp dy.out;have h1:({wr with heap:=wr.heap.setIfInBounds w.heap.size (.stringIter s (pos+(Utf8.decode s pos).2))}:World).heap[w.heap.size]? =some (.stringIter s (pos+(Utf8.decode s pos).2)):=by
    have aD:w.heap.size<wr.heap.size:=(Array.getElem?_eq_some_iff.1 HG.out).1;simp[aD]
   have gH:=Hl w.heap.size (.stringIter s (pos+(Utf8.decode s pos).2)) w.heap.size HB.out (Nat.le_refl _)
   generalize ({wr with heap:=wr.heap.setIfInBounds w.heap.size (.stringIter s (pos+(Utf8.decode s pos).2))}:World)=w1 at*
   generalize (Utf8.decode s pos).1=rn at*
   generalize (Utf8.decode s pos).2=wd at*
   obtain⟨b,hb⟩:∃b,t (rn:Nat)=b:=⟨_,rfl⟩;rw[hb]at st;have F1:=hf.out (rn:Nat);rw[hb]at F1;obtain⟨eI,ST,H1,aX⟩:=hZ4 F1 st h1 gH;clear F1 st hb h1 gH
   cases b with
   |false=>
    have HR:=qid (ST.out.1 rfl);clear ST;go_wp2_with (go_at_call 168;refine(eI.out _).mono ?_;rintro e w2 ⟨rfl,aA⟩);go_ret;exact⟨by rw[HR.out];rfl,aX.out.trans (aA.mono aX.out.size)⟩
   |true=>
    obtain⟨s1,s2,s3⟩:=ST.out.2 rfl;go_wp2_with (go_at_call 168;refine(eI.out _).mono ?_;rintro e w2 ⟨rfl,aA⟩)
    go_roundw
    case rel=>exact⟨pos+wd,(aA.block _ (Array.getElem?_eq_some_iff.1 H1.out).1).trans H1.out,s1,s3,aX.out.trans (aA.mono aX.out.size)⟩
    case measure=>
     have e2:w2.iterPos w.heap.size=pos+wd:=by simp[World.iterPos,(aA.block _ (Array.getElem?_eq_some_iff.1 H1.out).1).trans H1.out]
     rw[ky.out,e2];omega
  ·have jb:∀ty,(Instr.next (.pointer (some ⟨w.heap.size,0,none⟩)) true ty).run Tryz.prog wr=_:=fun ty=>wl wr w.heap.size s pos ty HG.out hp
   go_wp2;go_ret;refine⟨?_,HB.out⟩;rw[Jf p _ pos dy.out (by rw[←Lib.size_eq];omega),←Lib.size_eq];rfl
-- the BC of bytes
def n8(c:UInt8):Bool:=Hu (c.toNat:Int)
def a9(c:UInt8):Bool:=Hh (c.toNat:Int)
def i8(c:UInt8):Bool:=JY (c.toNat:Int)
def Jh(c:UInt8):Bool:=O0 (c.toNat:Int)
def He(c:UInt8):Bool:=MP (c.toNat:Int)
theorem Ji(n:Int)(h:128≤n):Hu n=true:=by unfold Hu;exact decide_eq_true (by omega)
theorem MR(n:Int)(h:128≤n):Hh n=false:=by unfold Hh;exact decide_eq_false (by omega)
theorem O1:Kin Hu n8 true:=⟨fun _ _=>rfl,Ji,fun c h=>Ji _ (by omega)⟩
theorem O2:Kin Hh a9 false:=⟨fun _ _=>rfl,MR,fun c h=>MR _ (by omega)⟩
theorem Xx:Kin JY i8 true:=⟨fun _ _=>rfl,fun n h=>by unfold JY;rw[Ji n h];rfl,fun c h=>by unfold i8 JY;rw[Ji _ (by omega)];rfl⟩
theorem ZS:Kin O0 Jh true:=⟨fun _ _=>rfl,fun n h=>by unfold O0;rw[Ji n h];rfl,fun c h=>by unfold Jh O0;rw[Ji _ (by omega)];rfl⟩
theorem Qj(n:Int)(h:128≤n):MP n=false:=by unfold MP;rw[MR n h,beq_eq_false_iff_ne.2 (by omega)];rfl
theorem ZT:Kin MP He false:=⟨fun _ _=>rfl,Qj,fun c h=>Qj _ (by omega)⟩
theorem U9(s:ByteArray)(c:Int)(w:World):
  Calls Tryz.prog 204 #[.string s,.int .u8 c] w fun e w'=>e=.returned (.int .i64 (Lib.indexByte s.data.toList c.toNat.toUInt8))∧w'=w:=by
 go_enter Tryz.func204,Tryz.ntmps204;go_wp2;rw[run_callFunc_extern Tryz.func230 (by kernel_rfl) (by kernel_rfl) (by kernel_rfl) (e:=Extern.BytealgIndexByte.indexByte) (by kernel_rfl),Lib.run_indexByteString]
 simp only[Result.andThen];rw[Oper.upon_value];go_wp2;go_ret;exact⟨rfl,rfl⟩
theorem MS(s:ByteArray)(c:Int)(w:World):
  Calls Tryz.prog 179 #[.string s,.int .u8 c] w fun e w'=>e=.returned (.int .i64 (Lib.indexByte s.data.toList c.toNat.toUInt8))∧w'=w:=by
 have h:=U9 s c;go_enter Tryz.func179,Tryz.ntmps179;go_wp2_with (go_at_call 204;refine(h _).mono ?_;rintro e w' ⟨rfl,rfl⟩);go_ret;exact⟨rfl,rfl⟩
abbrev L1:ByteArray:=⟨#[32,9,10,12,13]⟩
theorem NX(n:Int)(w:World):Calls Tryz.prog 254 #[.int .i32 n] w fun e w'=>e=.returned (.bool (Utf8.valid n))∧w'=w:=by
 obtain⟨b,hb⟩:∃b,Utf8.valid n=b:=⟨_,rfl⟩;rw[hb];have HB:=qid hb;clear hb;go_enter Tryz.func254,Tryz.ntmps254;go_wp2
 all_goals
  go_ret;refine⟨?_,rfl⟩;rw[←HB.out];refine Qh ?_;unfold Utf8.valid;rw[Bool.eq_iff_iff];simp
  try omega
theorem Va(n:Int)(h0:0≤n)(h1:n<128)(w:World):Calls Tryz.prog 227 #[.string L1,.int .i32 n] w fun e w'=>e=.returned (.int .i64 (Lib.indexByte L1.data.toList n.toNat.toUInt8))∧Below w.heap.size w w':=by
 have d0:decide ((0:Int)≤n)=true:=decide_eq_true h0;have d1:decide (n<(128:Int))=true:=decide_eq_true h1;have HM:=qid (show n % 256=n by omega)
 clear h0 h1;go_enter Tryz.func227,Tryz.ntmps227;go_wp2_with (go_at_call 179;refine(MS _ _ _).mono ?_;rintro e w1 ⟨rfl,hw⟩;obtain rfl:=hw.symm);go_ret;refine⟨?_,Below.refl _ _⟩;rw[HM.out];rfl
theorem Vb(n:Int)(h0:Utf8.valid n=false)(w:World):Calls Tryz.prog 227 #[.string L1,.int .i32 n] w fun e w'=>e=.returned (.int .i64 (-1))∧Below w.heap.size w w':=by
 have hv:Calls Tryz.prog 254 #[.int .i32 n] w fun e w'=>e=.returned (.bool false)∧w'=w:=by
  have:=NX n w
  rwa[h0]at this
 have hr:¬(0≤n∧n<55296):=by
  intro h;unfold Utf8.valid at h0;simp at h0;omega
 have d1:(n==65533)=false:=by
  rw[beq_eq_false_iff_ne];intro e;subst e;revert h0;decide
 clear h0;have HV:=qid hv;clear hv
 by_cases h:0≤n
 ·have d0:decide ((0:Int)≤n)=true:=decide_eq_true h
  have d2:decide (n<(128:Int))=false:=decide_eq_false (by omega)
  clear h hr;go_enter Tryz.func227,Tryz.ntmps227;go_wp2_with (go_at_call 254;refine HV.out.mono ?_;rintro e w1 ⟨rfl,hw⟩;obtain rfl:=hw.symm);go_ret;exact⟨rfl,Below.refl _ _⟩
 ·have d0:decide ((0:Int)≤n)=false:=decide_eq_false h
  clear h hr;go_enter Tryz.func227,Tryz.ntmps227;go_wp2_with (go_at_call 254;refine HV.out.mono ?_;rintro e w1 ⟨rfl,hw⟩;obtain rfl:=hw.symm);go_ret;exact⟨rfl,Below.refl _ _⟩
theorem Qk(j:Nat)(h:j<L1.size):(L1[j]'h).toNat<128:=by
 have h5:j<5:=h
 match j,h5 with
 |0,_=>show(32:UInt8).toNat<128;decide
 |1,_=>show(9:UInt8).toNat<128;decide
 |2,_=>show(10:UInt8).toNat<128;decide
 |3,_=>show(12:UInt8).toNat<128;decide
 |4,_=>show(13:UInt8).toNat<128;decide
theorem Vc(w:World):Calls Tryz.prog 227 #[.string L1,.int .i32 65533] w fun e w'=>e=.returned (.int .i64 (-1))∧Below w.heap.size w w':=by
 obtain⟨s,hs⟩:∃s,s=L1:=⟨_,rfl⟩;have au:∀(j:Nat) (h:j<s.size),(s[j]'h).toNat<128:=by subst hs;exact Qk
 rw[←hs];clear hs;have HL:=qid au;clear au;have h0:(w.iter s 0).heap[w.heap.size]? =some (.stringIter s 0):=w.iter_heap s 0;have bD:Below w.heap.size w (w.iter s 0):=(Below.refl _ _).alloc (Nat.le_refl _) _;go_enter Tryz.func227,Tryz.ntmps227;go_wp2
 go_loopw [5] (fun _ wr=>∃pos,wr.heap[w.heap.size]? =some (.stringIter s pos)∧Below w.heap.size w wr) (fun _ wr=>s.size-wr.iterPos w.heap.size)
 case atStart=>exact⟨0,h0,bD⟩
 case round=>
  obtain⟨pos,hg,hB⟩:=hrel;clear h0 bD;obtain⟨HG,HB⟩:=hZ2 hg hB;have ky:=qid (show wr.iterPos w.heap.size=pos by simp[World.iterPos,hg])
  clear hg hB
  by_cases hp:pos<s.size
  ·have jb:∀ty,(Instr.next (.pointer (some ⟨w.heap.size,0,none⟩)) true ty).run Tryz.prog wr=_:=fun ty=>By wr w.heap.size s pos ty HG.out hp
   rw[decode_ascii s pos hp (HL.out pos hp)]at jb;have h1:({wr with heap:=wr.heap.setIfInBounds w.heap.size (.stringIter s (pos+1))}:World).heap[w.heap.size]? =some (.stringIter s (pos+1)):=by
    have aD:w.heap.size<wr.heap.size:=(Array.getElem?_eq_some_iff.1 HG.out).1;simp[aD]
   have gH:=Hl w.heap.size (.stringIter s (pos+1)) w.heap.size HB.out (Nat.le_refl _);have b7:(((s[pos]'hp).toNat:Int)==65533)=false:=by
    have:=HL.out pos hp;rw[beq_eq_false_iff_ne];omega
   simp only at jb
   generalize ({wr with heap:=wr.heap.setIfInBounds w.heap.size (.stringIter s (pos+1))}:World)=w1 at*
   generalize ((s[pos]'hp).toNat:Int)=rn at*
   obtain⟨H1,aX⟩:=hZ2 h1 gH;clear h1 gH;go_wp2
   go_roundw
   case rel=>exact⟨pos+1,H1.out,aX.out⟩
   case measure=>
    have e2:w1.iterPos w.heap.size=pos+1:=by simp[World.iterPos,H1.out]
    rw[ky.out,e2];omega
  ·have jb:∀ty,(Instr.next (.pointer (some ⟨w.heap.size,0,none⟩)) true ty).run Tryz.prog wr=_:=fun ty=>wl wr w.heap.size s pos ty HG.out hp
   go_wp2;go_ret;exact⟨rfl,HB.out⟩
theorem Hb{B:Nat}{a w:World}(h:Below B a w)(n:Nat):Below B a (w.drewN n):=⟨h.os,h.tape,h.output,h.size,h.block⟩
theorem Xy(l:Tx)(c:UInt8)(h:∀x∈l,x≠c):Lib.indexByte l c= -1:=by
 induction l with
 |nil=>rfl
 |cons x l ih=>
  have h1:=h x (by simp)
  have h2:=ih (fun y hy=>h y (by simp[hy]))
  unfold Lib.indexByte;rw[if_neg (by simpa using h1),h2]
  rfl
theorem RG(n:Int)(hv:Utf8.valid n=true)(um:128≤n)(b7:n≠65533)(w:World):Calls Tryz.prog 227 #[.string L1,.int .i32 n] w fun e w'=>e=.returned (.int .i64 (-1))∧Below w.heap.size w w':=by
 have di:Calls Tryz.prog 254 #[.int .i32 n] w fun e w'=>e=.returned (.bool true)∧w'=w:=by
  have:=NX n w
  rwa[hv]at this
 obtain⟨z2,z4,zb⟩:=encode_facts n hv um;obtain⟨L,hL⟩:∃L,Utf8.encode n=L:=⟨_,rfl⟩;obtain⟨s,hs⟩:∃s,s=L1:=⟨_,rfl⟩;have au:∀(j:Nat) (h:j<s.size),(s[j]'h).toNat<128:=by subst hs;exact Qk
 have bH:s.size=5:=by rw[hs];rfl
 have d0:decide ((0:Int)≤n)=true:=decide_eq_true (by omega)
 have d2:decide (n<(128:Int))=false:=decide_eq_false (by omega)
 have d1:(n==65533)=false:=by rw[beq_eq_false_iff_ne];exact b7
 rw[←hs];rw[hL]at z2 z4 zb;obtain⟨HV,HL,Ft⟩:=hZ3 di au zb;obtain⟨m,hm⟩:∃m,L.size=m+1:=⟨L.size-1,by omega⟩
 have gZ:1≤m:=by omega
 have qG:m≤3:=by omega
 have ya:m<L.size:=by omega
 have sW:m<s.size:=by omega
 have BD:128≤(L[m]'ya).toNat:=by
  have:=zb (by omega)
  simpa[hm]using this
 have BE:(s[m]'sW).toNat<128:=au m sW;have hq:(((s[m]'sW).toNat:Int) != ((L[m]'ya).toNat:Int))=true:=by rw[bne,beq_eq_false_iff_ne.2 (by omega)];rfl
 have sX:Hid (∀a b,Lib.indexByte (s.extract a b).data.toList (((L[m]'ya).toNat:Int).toNat.toUInt8)= -1):=qid (fun a b=>Xy _ _ (fun x hx e=>by
  have dX:x∈s.data.toList:=by
   have:=List.mem_of_mem_drop (List.mem_of_mem_take (show x∈(s.data.toList.drop a).take (b-a) by simpa[List.extract_eq_take_drop]using hx))
   exact this
  obtain⟨j,hj,rfl⟩:=List.getElem_of_mem dX;have dI:j<s.size:=by rw[Lib.size_eq];exact hj
  have:=au j dI;have e2:(s.data.toList[j]).toNat=(s[j]'dI).toNat:=rfl;rw[e]at e2;simp at e2;omega))
 clear hs au di zb hv um b7 z2 z4;have eA:=qid bH;clear bH;go_enter Tryz.func227,Tryz.ntmps227;go_wp2_with (go_at_call 254;refine HV.out.mono ?_;rintro e w1 ⟨rfl,hw⟩;obtain rfl:=hw.symm)
 go_step3
 go_wp2;have l0:(0:Int)≤(m:Int):=by omega
 have l1:(m:Int)<(s.size:Int):=by omega
 have l2:(m:Int)<(L.size:Int):=by omega
 have l4:(m:Int)+1≤(s.size:Int):=by omega
 have l5:m+1≤s.size:=by omega
 have l6:s.size≤5:=by have:=eA.out;omega
 have lw:IntKind.i64.wrap ((m:Int)+1)=(m:Int)+1:=IntWalk.i64_in _ (by omega)
 have Fu:=qid hm;clear hm gZ qG hL
 go_loop [9] (fun i=>i=.int .i64 m) (fun i=>0)
 case atStart=>rfl
 case round=>
  subst hrel;go_wp2
  go_step3
  go_wp2
  go_quiet (fail)
  go_wp2;have l7:(0:Int)≤(m:Int)+1:=by omega
  have l8:((m:Int)+1).toNat=m+1:=by omega
  go_quiet (first|(go_at_call 179;exact(MS _ _ _).mono (fun _ _ h=>⟨h.1,_,h.2⟩)))
  rw[sX.out];go_wp2;simp(config:={zetaDelta:=true}) only[Exit.noGoto_ret,Exit.inBlock,Exit.then];go_simp
  try rw[Exit.noGoto_ret]
  go_simp
  try rw[Exit.noGoto_ret]
  go_simp;go_ret;exact⟨rfl,Hb (Below.refl _ _) _⟩
def NY(n:Int):Int:=if 0≤n∧n<128 then Lib.indexByte L1.data.toList n.toNat.toUInt8 else -1
theorem Vd(n:Int)(w:World):Calls Tryz.prog 227 #[.string L1,.int .i32 n] w fun e w'=>e=.returned (.int .i64 (NY n))∧Below w.heap.size w w':=by
 by_cases h:0≤n∧n<128
 ·rw[show NY n=_ from if_pos h]
  exact Va n h.1 h.2 w
 ·rw[show NY n=_ from if_neg h]
  by_cases he:n=65533
  ·subst he;exact Vc w
  ·cases hv:Utf8.valid n with
   |false=>exact Vb n hv w
   |true=>
    have h0:0≤n:=by unfold Utf8.valid at hv;simp at hv;omega
    exact RG n hv (by omega) he w
def JM(n:Int):Bool:=decide (0≤NY n)
theorem Xz(n:Int)(w:World):Calls Tryz.prog 199 #[.string L1,.int .i32 n] w fun e w'=>e=.returned (.bool (JM n))∧Below w.heap.size w w':=by
 obtain⟨i,hi⟩:∃i,NY n=i:=⟨_,rfl⟩;have hr:=Vd n w;rw[hi]at hr;have e1:JM n=decide (0≤i):=by unfold JM;rw[hi]
 rw[e1];have HR:=qid hr;clear hr hi e1;go_enter Tryz.func199,Tryz.ntmps199;go_wp2_with (go_at_call 227;refine HR.out.mono ?_;rintro e w1 ⟨rfl,hb⟩);go_ret;exact⟨rfl,hb⟩
theorem Ve(n:Int)(w:World):Calls Tryz.prog 168 #[.int .i32 n] w fun e w'=>e=.returned (.bool (JM n))∧Below w.heap.size w w':=by
 obtain⟨b,hb⟩:∃b,JM n=b:=⟨_,rfl⟩;have hr:=Xz n w;rw[hb]at *;have HR:=qid hr;clear hr hb;go_enter Tryz.func168,Tryz.ntmps168;go_wp2_with (go_at_call 199;refine HR.out.mono ?_;rintro e w1 ⟨rfl,hb⟩);go_ret;exact⟨rfl,hb⟩
def n6(c:UInt8):Bool:=JM (c.toNat:Int)
theorem NZ(n:Int)(h:128≤n):JM n=false:=by unfold JM NY;rw[if_neg (by omega)];rfl
theorem Vf:Kin JM n6 false:=⟨fun _ _=>rfl,NZ,fun c h=>NZ _ (by omega)⟩
abbrev pcV(k:Int)(t:ByteArray)(n:Int):Value:=.agg #[.int .i64 k,.string t,.int .i64 n]
theorem TC{W w1:World}(hb:Below W.heap.size W w1):(∀b o,b<W.heap.size→w1.cell? ⟨b,o,none⟩=W.cell? ⟨b,o,none⟩)∧(∀b o,b<W.heap.size→w1.frozen? ⟨b,o,none⟩=W.frozen? ⟨b,o,none⟩):=
 ⟨fun b o h=>hb.cell (p:=⟨b,o,none⟩) h,fun b o h=>hb.frozen (p:=⟨b,o,none⟩) h⟩
theorem Hp(s:ByteArray)(w:World)(hs:s.size≤281474976710656):
  Calls Tryz.prog 48 #[.string s] w fun e w'=>e=.returned (.string s)∧Below w.heap.size w w':=by
 have c:=fun w=>Tryz.stringslite_Clone s w (by omega)
 go_enter Tryz.func48,Tryz.ntmps48;go_wp2_with (go_at_call 70;refine(c _).mono ?_;rintro e w' ⟨rfl,hb⟩);go_ret;exact⟨rfl,hb⟩
theorem K9{f:Nat}{t:Int→Bool}(h:∀(n:Int) (w:World),Calls Tryz.prog f #[.int .i32 n] w fun e w'=>e=.returned (.bool (t n))∧w'=w):
  ∀(n:Int) (w:World),Calls Tryz.prog f #[.int .i32 n] w fun e w'=>e=.returned (.bool (t n))∧Below w.heap.size w w':=
 fun n w=>(h n w).mono fun e w' hh=>⟨hh.1,by rw[hh.2];exact Below.refl _ _⟩
theorem ZU(s:ByteArray)(w:World):
  Calls Tryz.prog 125 #[.string s] w fun e w'=>e=.returned (pcV 0 ⟨#[]⟩ (aT n6 s.data.toList:Nat))∧Below w.heap.size w w':=by
 have hr:=fun w=>U8 JM n6 false (qid Vf) s w (qid Ve)
 obtain⟨n,hn⟩:∃n,aT n6 s.data.toList=n:=⟨_,rfl⟩;simp only[hn]at hr;rw[hn];have HR:=qid hr;clear hr hn;go_enter Tryz.func125,Tryz.ntmps125;go_wp2_with (go_at_call 167;refine(HR.out _).mono ?_;rintro e w1 ⟨rfl,aU⟩;obtain⟨pH,uo⟩:=TC aU);have hB:Below w.heap.size w w1:=((Below.refl _ _).alloc (Nat.le_refl _) _).trans (aU.mono (by simp))
 refine bodyPost_ret (v:=pcV 0 ⟨#[]⟩ (n:Nat)) (by simp[results,Tryz.results125,go_sem,pH,uo]) rfl ?_
 refine⟨rfl,((hB.setCell ?_ _).setCell ?_ _).setCell ?_ _⟩<;>exact Nat.le_refl _
structure Hm(w w1:World):Prop where
 bel:Below w.heap.size w w1
 lt:w.heap.size<w1.heap.size
 k0:w1.cell? ⟨w.heap.size,0,none⟩=some (.int .i64 0)
 k1:w1.cell? ⟨w.heap.size,1,none⟩=some (.string ⟨#[]⟩)
 k2:w1.cell? ⟨w.heap.size,2,none⟩=some (.int .i64 0)
 f0:w1.frozen? ⟨w.heap.size,0,none⟩=false
 f1:w1.frozen? ⟨w.heap.size,1,none⟩=false
 f2:w1.frozen? ⟨w.heap.size,2,none⟩=false
theorem Hm.new(w:World):Hm w (w.alloc (.cells #[.int .i64 0,.string ⟨#[]⟩,.int .i64 0] 137)):=
 ⟨(Below.refl _ _).alloc (Nat.le_refl _) _,by simp,by simp[go_sem],by simp[go_sem],by simp[go_sem],by simp[go_sem],by simp[go_sem],by simp[go_sem]⟩
theorem Hm.step{w w1 w2:World}(h:Hm w w1)(b:Below w1.heap.size w1 w2):Hm w w2:=by
 obtain⟨h1,h2⟩:=TC b;exact⟨h.bel.trans (b.mono (Nat.le_of_lt h.lt)),Nat.lt_of_lt_of_le h.lt b.size,by rw[h1 _ _ h.lt];exact h.k0,by rw[h1 _ _ h.lt];exact h.k1,by rw[h1 _ _ h.lt];exact h.k2,by rw[h2 _ _ h.lt];exact h.f0,by rw[h2 _ _ h.lt];exact h.f1,by rw[h2 _ _ h.lt];exact h.f2⟩
theorem Iw(p:UInt8→Bool)(l:Tx):aT p l≤l.length:=by
 unfold aT;exact(List.takeWhile_sublist p).length_le
theorem qbN(s:ByteArray)(w:World)(h0:aT a9 s.data.toList=0):
  Calls Tryz.prog 132 #[.string s] w fun e w'=>e=.returned (pcV 0 ⟨#[]⟩ 0)∧Below w.heap.size w w':=by
 have hr:=fun w=>LF Hh a9 false (qid O2) s w (qid (K9 Mb))
 simp only[h0]at hr;have HR:=qid hr;clear hr h0;go_enter Tryz.func132,Tryz.ntmps132;go_wp2_with (go_at_call 167;refine(HR.out _).mono ?_;rintro e w1 ⟨rfl,aU⟩;obtain⟨pH,uo⟩:=TC aU);have hB:Below w.heap.size w w1:=((Below.refl _ _).alloc (Nat.le_refl _) _).trans (aU.mono (by simp))
 refine bodyPost_ret (v:=pcV 0 ⟨#[]⟩ 0) (by simp[results,Tryz.results132,go_sem,pH,uo]) rfl ?_
 refine⟨rfl,((hB.setCell ?_ _).setCell ?_ _).setCell ?_ _⟩<;>exact Nat.le_refl _
theorem ZV(s:ByteArray)(w:World)(hs:s.size≤281474976710656)(h0:aT a9 s.data.toList≠0):
  Calls Tryz.prog 132 #[.string s] w fun e w'=>e=.returned (pcV 4 (s.extract 0 (aT He s.data.toList)) (aT He s.data.toList:Nat))∧Below w.heap.size w w':=by
 have hr:=fun w=>LF Hh a9 false (qid O2) s w (qid (K9 Mb))
 have hq:=fun w=>ZQ MP He false (qid ZT) s w (qid (K9 ZP))
 obtain⟨n,hn⟩:∃n,aT He s.data.toList=n:=⟨_,rfl⟩;obtain⟨m,hm⟩:∃m,aT a9 s.data.toList=m:=⟨_,rfl⟩;have hle:n≤s.size:=by rw[←hn,Lib.size_eq];exact Iw _ _
 rw[hn];simp only[hn]at hq;simp only[hm]at hr;rw[hm]at h0;have hc:=fun w=>Hp (s.extract 0 n) w (by rw[ByteArray.size_extract];omega)
 obtain⟨HR,HQ,HC⟩:=hZ3 hr hq hc;clear hr hq hn hm hc hs;have c0:((m:Int)==0)=false:=by rw[beq_eq_false_iff_ne];omega
 have c1:(0:Int)≤(n:Int):=by omega
 have c2:(n:Int)≤(s.size:Int):=by omega
 clear h0;go_enter Tryz.func132,Tryz.ntmps132;go_wp2_with (first
  |(go_at_call 167;(with_reducible refine(HR.out _).mono ?_);rintro e w1 ⟨rfl,aU⟩;have F1:=(Hm.new w).step aU;clear aU;obtain⟨hB,hL,k0,k1,k2,f0,f1,f2⟩:=id F1)
  |(go_at_call 167;(with_reducible refine(HQ.out _).mono ?_);rintro e w2 ⟨rfl,aA⟩;have F2:=F1.step aA;clear aA hB hL k0 k1 k2 f0 f1 f2;obtain⟨hB,hL,k0,k1,k2,f0,f1,f2⟩:=id F2)
  |(go_at_call 48;(with_reducible refine(HC.out _).mono ?_);rintro e w3 ⟨rfl,aG⟩;have F3:=F2.step aG;clear aG hB hL k0 k1 k2 f0 f1 f2;obtain⟨hB,hL,k0,k1,k2,f0,f1,f2⟩:=id F3))
 refine bodyPost_ret (v:=pcV 4 (s.extract 0 n) (n:Nat)) (by simp[results,Tryz.results132,go_sem,k0,k1,k2]) rfl ?_
 refine⟨rfl,((hB.setCell ?_ _).setCell ?_ _).setCell ?_ _⟩<;>exact Nat.le_refl _
end Go.Proofs.YtpgddamhdfmdjaaGreatDoor
