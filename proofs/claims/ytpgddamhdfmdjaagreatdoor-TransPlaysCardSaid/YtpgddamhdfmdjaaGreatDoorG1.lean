/- Lxp Tra Lhp -/
import Derived.Test.YtpgddamhdfmdjaaGreatDoorRows
import Derived.WalkKit
import Derived.ProofKit
import Derived.Below
import Derived.IntWalk
import Derived.Lib.Strings
import Derived.Lib.Hide
import Derived.Lib.Walk
import Derived.Laws.RangeString
import Derived.Laws.RangeAny
import Derived.Deep.Cut
import Derived.Deep.Draws
import Derived.Laws.Rows
import Derived.WalkSpells
import Derived.LaidEqlPtr
import Derived.WalkMore
import Derived.BigQuiet
import Derived.OwnWalk
import Derived.Deep.QuietTactic
import Derived.Deep.RegionWith
import Derived.Deep.RegionHeld3
set_option linter.unusedSimpArgs false
set_option linter.unusedVariables false
set_option maxRecDepth 100000
set_option maxHeartbeats 16000000
namespace Go.Proofs.YtpgddamhdfmdjaaGreatDoor
open Go.ChangeShapes Go.WideShapes Go.ChangeAt Go.RowKit
abbrev Tx:=List UInt8
theorem Pv(s:ByteArray)(pos:Nat)(h:pos<s.size)(ha:128≤(s[pos]'h).toNat):
  pos+(Utf8.decode s pos).2≤s.size∧∀j,j<(Utf8.decode s pos).2→∀hj:pos+j<s.size,128≤(s[pos+j]'hj).toNat:=by
 have get:∀k,∀hk:pos+k<s.size,(s.get! (pos+k)).toNat=(s[pos+k]'hk).toNat:=by
  intro k hk;have:s.get! (pos+k)=s[pos+k]'hk:=by
   show s.get! (pos+k)=_;simp[ByteArray.get!,getElem!_pos,hk]
   rfl
  rw[this]
 have key:∀n,(∀k,0<k→k<n→(decide (pos+k<s.size)&&(s.get! (pos+k)).toNat / 64==2)=true)→pos+n≤s.size∨n≤1→(pos+n≤s.size∨n=0∨n=1)→∀j,j<n→∀hj:pos+j<s.size,128≤(s[pos+j]'hj).toNat:=by
  intro n hn _ _ j lV hj
  by_cases h0:j=0
  ·subst h0;exact ha
  ·have:=hn j (by omega) lV
   simp only[Bool.and_eq_true,beq_iff_eq]at this;rw[get j hj]at this;omega
 have lim:∀k,(decide (pos+k<s.size)&&(s.get! (pos+k)).toNat / 64==2)=true→pos+k<s.size:=by
  intro k hk;simp only[Bool.and_eq_true,decide_eq_true_eq]at hk;exact hk.1
 have jT:¬(s.get! (pos+0)).toNat<128:=by rw[get 0 h];exact Nat.not_lt.2 ha
 have one:pos+1≤s.size∧∀j,j<1→∀hj:pos+j<s.size,128≤(s[pos+j]'hj).toNat:=⟨h,fun j hj dI=>by
  have:j=0:=by omega
  subst this;exact ha⟩
 unfold Utf8.decode;simp only;rw[if_neg jT]
 split
 ·rename_i h2
  simp only[Bool.and_eq_true]at h2
  split
  ·refine⟨?_,key 2 (fun k k0 k2=>?_) (.inl ?_) (.inl ?_)⟩
   ·have:=lim 1 (by simp only[Bool.and_eq_true];exact h2.2);omega
   ·have:k=1:=by omega
    subst this;simp only[Bool.and_eq_true];exact h2.2
   ·have:=lim 1 (by simp only[Bool.and_eq_true];exact h2.2);omega
   ·have:=lim 1 (by simp only[Bool.and_eq_true];exact h2.2);omega
  ·exact one
 ·split
  ·rename_i h3
   simp only[Bool.and_eq_true]at h3
   split
   ·have l2:=lim 2 (by simp only[Bool.and_eq_true];exact h3.2)
    refine⟨by omega,key 3 (fun k k0 k2=>?_) (.inl (by omega)) (.inl (by omega))⟩
    have:k=1∨k=2:=by omega
    rcases this with rfl|rfl
    ·simp only[Bool.and_eq_true];exact h3.1.2
    ·simp only[Bool.and_eq_true];exact h3.2
   ·exact one
  ·split
   ·rename_i h4
    simp only[Bool.and_eq_true]at h4
    split
    ·have l3:=lim 3 (by simp only[Bool.and_eq_true];exact h4.2)
     refine⟨by omega,key 4 (fun k k0 k2=>?_) (.inl (by omega)) (.inl (by omega))⟩
     have:k=1∨k=2∨k=3:=by omega
     rcases this with rfl|rfl|rfl
     ·simp only[Bool.and_eq_true];exact h4.1.1.2
     ·simp only[Bool.and_eq_true];exact h4.1.2
     ·simp only[Bool.and_eq_true];exact h4.2
    ·exact one
   ·exact one
theorem By{P:Program}(w:World)(g:Nat)(s:ByteArray)(pos:Nat)(ty:TypeId)(hg:w.heap[g]? =some (.stringIter s pos))(h:pos<s.size):
  (Instr.next (.pointer (some ⟨g,0,none⟩)) true ty).run P w=.ok (.tuple #[.bool true,.int .i64 pos,.int .i32 ((Utf8.decode s pos).1:Nat)]) {w with heap:=w.heap.setIfInBounds g (.stringIter s (pos+(Utf8.decode s pos).2))}:=by
 have aD:g<w.heap.size:=(Array.getElem?_eq_some_iff.1 hg).1;simp only[Instr.next,getObj,setObj,Sem.run_bind,Sem.run,hg,Result.andThen,h,if_true];simp[goInt,Sem.run,hg,aD]
theorem wl{P:Program}(w:World)(g:Nat)(s:ByteArray)(pos:Nat)(ty:TypeId)(hg:w.heap[g]? =some (.stringIter s pos))(h:¬pos<s.size):
  (Instr.next (.pointer (some ⟨g,0,none⟩)) true ty).run P w=.ok (.tuple #[.bool false]) w:=by
 simp[Instr.next,getObj,Sem.run,hg,h]
def Blk(w:World)(g:Nat)(t:TypeId)(cs:Array Value):Prop:=w.heap[g]? =some (.cells cs t (0,0))
section
variable {w w':World} {g:Nat} {t:TypeId} {cs:Array Value}
theorem Blk.lt(h:Blk w g t cs):g<w.heap.size:=(Array.getElem?_eq_some_iff.1 h).1
theorem Blk.cell(h:Blk w g t cs)(i:Nat):w.cell? ⟨g,i,none⟩=cs[i]? :=cell_of_row w g i cs t (0,0) h
theorem Blk.frozen(h:Blk w g t cs)(i:Nat):w.frozen? ⟨g,i,none⟩=false:=by
 unfold Blk at h;simp[World.frozen?,h]
theorem Blk.new(w:World)(t:TypeId)(cs:Array Value):Blk (w.alloc (.cells cs t)) w.heap.size t cs:=heap_alloc_new w _
theorem Blk.newAt(w:World)(t:TypeId)(cs:Array Value)(n:Nat)(h:w.heap.size=n):Blk (w.alloc (.cells cs t)) n t cs:=by subst h;exact heap_alloc_new w _
theorem Blk.drewN(h:Blk w g t cs)(n:Nat):Blk (w.drewN n) g t cs:=h
theorem Blk.alloc(h:Blk w g t cs)(o:Obj):Blk (w.alloc o) g t cs:=(Below.heap_alloc w o g h.lt).trans h
theorem Blk.set_(h:Blk w g t cs)(i:Nat)(u:Value):Blk (w.setCell ⟨g,i,none⟩ u) g t (cs.setIfInBounds i u):=by
 unfold Blk at h⊢;simp[World.setCell,Array.getElem?_modify,h]
theorem Blk.far(h:Blk w g t cs){p:Addr}(hp:g≠p.block)(u:Value):Blk (w.setCell p u) g t cs:=(Below.heap_setCell w p u g hp).trans h
theorem Blk.below{B:Nat}(h:Blk w g t cs)(hb:Below B w w')(hg:g<B):Blk w' g t cs:=(hb.block g hg).trans h
theorem Blk.grown{row:Option Nat}(h:Blk w g t cs)(hb:w.grownBy w' row)(hg:some g≠row):Blk w' g t cs:=(hb.block g h.lt hg).trans h
theorem Blk.ne_{g':Nat}{t':TypeId}{mv:Array Value}(h:Blk w g t cs)(h':Blk w g' t' mv)(b7:t≠t'):g≠g':=by
 rintro rfl;unfold Blk at h h';rw[h]at h';injection h' with h';injection h' with _ ht;exact b7 ht
end
structure But(S:List Nat)(w w':World):Prop where
 os:w'.os=w.os
 tape:w'.tape=w.tape
 output:w'.output=w.output
 size:w.heap.size≤w'.heap.size
 block:∀k,k<w.heap.size→k∉S→w'.heap[k]? =w.heap[k]?
theorem But.refl(S:List Nat)(w:World):But S w w:=⟨rfl,rfl,rfl,Nat.le_refl _,fun _ _ _=>rfl⟩
theorem But.alloc{S:List Nat}{a w:World}(h:But S a w)(o:Obj):But S a (w.alloc o):=
 ⟨h.os,h.tape,h.output,by have:=h.size;simp;omega,fun k hk hs=>(Below.heap_alloc w o k (Nat.lt_of_lt_of_le hk h.size)).trans (h.block k hk hs)⟩
theorem But.set{S:List Nat}{a w:World}(h:But S a w)(p:Addr)(u:Value)(hp:p.block∈S∨a.heap.size≤p.block):But S a (w.setCell p u):=
 ⟨h.os,h.tape,h.output,by have:=h.size;simpa using this,fun k hk hs=>(Below.heap_setCell w p u k (fun e=>by subst e;rcases hp with hp|hp;exact hs hp;omega)).trans (h.block k hk hs)⟩
theorem But.drewN{S:List Nat}{a w:World}(h:But S a w)(n:Nat):But S a (w.drewN n):=⟨h.os,h.tape,h.output,h.size,h.block⟩
theorem But.trans{S T U:List Nat}{a b c:World}(h:But S a b)(k:But T b c)(hS:∀x∈S,x∈U)(hT:∀x∈T,x<a.heap.size→x∈U):But U a c:=
 ⟨k.os.trans h.os,k.tape.trans h.tape,k.output.trans h.output,Nat.le_trans h.size k.size,fun i hi hn=>(k.block i (Nat.lt_of_lt_of_le hi h.size) (fun ht=>hn (hT i ht hi))).trans (h.block i hi (fun hs=>hn (hS i hs)))⟩
theorem But.below{S:List Nat}{a b:World}{B:Nat}(h:But S a b)(hB:B≤a.heap.size)(hS:∀x∈S,B≤x):Below B a b:=
 ⟨h.os,h.tape,h.output,h.size,fun k hk=>h.block k (by omega) (fun hs=>by have:=hS k hs;omega)⟩
theorem Blk.but{w w':World}{g:Nat}{t:TypeId}{cs:Array Value}{S:List Nat}(h:Blk w g t cs)(hb:But S w w')(hg:g∉S):Blk w' g t cs:=(hb.block g h.lt hg).trans h
abbrev nd(v:ByteArray)(p:Int)(pre:ByteArray)(nx tb:Value):Array Value:=#[.string v,.int .i64 p,.string pre,nx,tb]
def ND(w:World)(g:Nat)(v:ByteArray)(p:Int)(pre:ByteArray)(nx tb:Value):Prop:=Blk w g 263 (nd v p pre nx tb)
theorem qa0(w:World):(binOp .neq 261 (.slice none 0 0) (.slice none 0 0)).run Tryz.prog w=.ok (.bool false) w:=by
 have h:∀d:Nat,(Op.equalIn (d+1) 261 (.slice none 0 0) (.slice none 0 0)).run Tryz.prog w=.ok true w:=fun d=>by
  simp[Op.equalIn,run_underlying Tryz.underlying261]
 simp only[binOp];simp[Op.equal,Op.maxDepth,h 9999]
theorem NG(a:Addr)(n c:Nat)(w:World):(binOp .neq 261 (.slice (some a) n c) (.slice none 0 0)).run Tryz.prog w=.ok (.bool true) w:=by
 have h:∀d:Nat,(Op.equalIn (d+1) 261 (.slice (some a) n c) (.slice none 0 0)).run Tryz.prog w=.ok false w:=fun d=>by
  simp[Op.equalIn,run_underlying Tryz.underlying261]
 simp only[binOp];simp[Op.equal,Op.maxDepth,h 9999]
theorem Wg(w:World):(binOp .eql 260 (.pointer none) (.pointer none)).run Tryz.prog w=.ok (.bool true) w:=by
 have h:∀d:Nat,(Op.equalIn (d+1) 260 (.pointer none) (.pointer none)).run Tryz.prog w=.ok true w:=fun d=>by
  simp[Op.equalIn,run_underlying Tryz.underlying260]
 simp only[binOp];simp[Op.equal,Op.maxDepth,h 9999]
theorem Wh(a:Addr)(w:World):(binOp .eql 260 (.pointer (some a)) (.pointer none)).run Tryz.prog w=.ok (.bool false) w:=by
 have h:∀d:Nat,(Op.equalIn (d+1) 260 (.pointer (some a)) (.pointer none)).run Tryz.prog w=.ok false w:=fun d=>by
  simp[Op.equalIn,run_underlying Tryz.underlying260]
 simp only[binOp];simp[Op.equal,Op.maxDepth,h 9999]
theorem SS(a:Addr)(w:World):(binOp .neq 260 (.pointer (some a)) (.pointer none)).run Tryz.prog w=.ok (.bool true) w:=by
 have h:∀d:Nat,(Op.equalIn (d+1) 260 (.pointer (some a)) (.pointer none)).run Tryz.prog w=.ok false w:=fun d=>by
  simp[Op.equalIn,run_underlying Tryz.underlying260]
 simp only[binOp];simp[Op.equal,Op.maxDepth,h 9999]
theorem qbq(g:Nat)(x v:ByteArray)(p:Int)(r:Value)(w:World)(h:ND w g x 0 ⟨#[]⟩ (.pointer none) (.slice none 0 0)):
  Calls Tryz.prog 226 #[.pointer (some ⟨g,0,none⟩),.string ⟨#[]⟩,.string v,.int .i64 p,r] w fun e w'=>e=.returned (.tuple #[])∧ND w' g v p ⟨#[]⟩ (.pointer none) (.slice none 0 0)∧But [g] w w':=by
 have c0:w.cell? ⟨g,0,none⟩=some (.string x):=h.cell 0;have c1:w.cell? ⟨g,1,none⟩=some (.int .i64 0):=h.cell 1;have f0:=h.frozen 0;have f1:=h.frozen 1;have H:=Lib.hid h;clear h;go_enter Tryz.func226,Tryz.ntmps226;go_wp2;refine bodyPost_ret (v:=.tuple #[]) (by simp[results,Tryz.results226,go_sem]) rfl ?_
 refine⟨rfl,?_,(((But.refl [g] w).set ⟨g,0,none⟩ _ (.inl (by simp))).set ⟨g,1,none⟩ _ (.inl (by simp)))⟩
 have:=(Blk.set_ H.out 0 (.string v)).set_ 1 (.int .i64 p);exact this
theorem qcY(g:Nat)(v:ByteArray)(p:Int)(r:Value)(w:World)(h:ND w g ⟨#[]⟩ 0 ⟨#[]⟩ (.pointer none) (.slice none 0 0)):
  Calls Tryz.prog 226 #[.pointer (some ⟨g,0,none⟩),.string ⟨#[49]⟩,.string v,.int .i64 p,r] w fun e w'=>e=.returned (.tuple #[])∧ND w' g ⟨#[]⟩ 0 ⟨#[49]⟩ (.pointer (some ⟨w.heap.size,0,none⟩)) (.slice none 0 0)∧ND w' w.heap.size v p ⟨#[]⟩ (.pointer none) (.slice none 0 0)∧But [g] w w':=by
 have c2:w.cell? ⟨g,2,none⟩=some (.string ⟨#[]⟩):=h.cell 2;have c3:w.cell? ⟨g,3,none⟩=some (.pointer none):=h.cell 3;have c4:w.cell? ⟨g,4,none⟩=some (.slice none 0 0):=h.cell 4;have f2:=h.frozen 2;have f3:=h.frozen 3;have aD:=h.lt;obtain⟨W,hW⟩:∃W,W=((w.setCell ⟨g,2,none⟩ (.string ⟨#[49]⟩)).setCell ⟨g,3,none⟩ (.pointer (some ⟨w.heap.size,0,none⟩))).alloc (.cells (nd ⟨#[]⟩ 0 ⟨#[]⟩ (.pointer none) (.slice none 0 0)) 263):=⟨_,rfl⟩;have hN:ND W w.heap.size ⟨#[]⟩ 0 ⟨#[]⟩ (.pointer none) (.slice none 0 0):=by
  rw[hW];exact Blk.newAt _ _ _ _ (by simp)
 have hG:ND W g ⟨#[]⟩ 0 ⟨#[49]⟩ (.pointer (some ⟨w.heap.size,0,none⟩)) (.slice none 0 0):=by rw[hW];exact((Blk.set_ h 2 (.string ⟨#[49]⟩)).set_ 3 _).alloc _
 have hB:But [g] w W:=by rw[hW];exact(((But.refl [g] w).set _ _ (.inl (by simp))).set _ _ (.inl (by simp))).alloc _
 have HW:=Lib.hid hW.symm;have HN:=Lib.hid hN;have HG:=Lib.hid hG;have HB:=Lib.hid hB;have HL:=Lib.hid aD;have q1:=qa0 w;clear h hN hG hB hW;go_enter Tryz.func226,Tryz.ntmps226;go_wp2_with (go_at_call 226;(rw[HW.out]);((with_reducible refine(qbq _ _ v p r _ HN.out).mono ?_));rintro e w' ⟨rfl,h1,h2⟩)
 go_end0
 have hl:=HL.out;exact⟨rfl,Blk.but HG.out h2 (by simp;omega),h1,HB.out.trans h2 (fun x hx=>hx) (fun x hx eE=>by simp at hx;omega)⟩
def As(i:Nat):Int:=if i=36 then 0 else if i=49 then 1 else if i=50 then 2 else if i=51 then 3 else 4
def n9(tb:Value)(ts:Int)(m:Nat→Int):Array Value:=#[.string ⟨#[]⟩,.int .i64 0,.string ⟨#[]⟩,.pointer none,tb,.int .i64 ts]++((List.range 256).map fun i=>.int .u8 (m i)).toArray
def GR(w:World)(r:Nat)(tb:Value):Prop:=Blk w r 265 (n9 tb 4 As)
theorem Gy(tb:Value)(ts:Int)(m:Nat→Int)(i:Nat)(h:i<256):(n9 tb ts m)[6+i]? =some (.int .u8 (m i)):=by
 unfold n9;rw[Array.getElem?_append_right (by simp)]
 simp[h]
theorem lm(tb:Value)(ts:Int)(m:Nat→Int)(i:Nat)(h:i<6):(n9 tb ts m)[i]? =(#[.string ⟨#[]⟩,.int .i64 0,.string ⟨#[]⟩,.pointer none,tb,.int .i64 ts]:Array Value)[i]? :=by
 unfold n9;rw[Array.getElem?_append_left (by simpa using h)]
def TT(w:World)(T:Nat)(a b c d:Value):Prop:=Blk w T 260 #[a,b,c,d]
abbrev nP(g:Nat):Value:=.pointer (some ⟨g,0,none⟩)
abbrev nT(T:Nat):Value:=.slice (some ⟨T,0,none⟩) 4 4
set_option pp.deepTerms true in
set_option pp.maxSteps 1000000 in
theorem qcZ(g T r:Nat)(x k tb:Value)(v:ByteArray)(p:Int)(w0:World)(h0:ND w0 g ⟨#[]⟩ 0 ⟨#[]⟩ (.pointer none) (nT T))(ic:TT w0 T (.pointer none) x k (.pointer none))(bJ:GR w0 r tb):
  Calls Tryz.prog 226 #[nP g,.string ⟨#[51]⟩,.string v,.int .i64 p,nP r] w0 fun e w'=>e=.returned (.tuple #[])∧TT w' T (.pointer none) x k (nP w0.heap.size)∧ND w' w0.heap.size v p ⟨#[]⟩ (.pointer none) (.slice none 0 0)∧But [T] w0 w':=by
 have c2:w0.cell? ⟨g,2,none⟩=some (.string ⟨#[]⟩):=h0.cell 2;have c4:w0.cell? ⟨g,4,none⟩=some (nT T):=h0.cell 4;have t3:w0.cell? ⟨T,3,none⟩=some (.pointer none):=ic.cell 3;have f3:=ic.frozen 3;have m3:w0.cell? ⟨r,57,none⟩=some (.int .u8 3):=(bJ.cell 57).trans (Gy tb 4 As 51 (by decide))
 have aD:=ic.lt;have cx:=h0.lt;have Ce:g≠T:=Blk.ne_ h0 ic (by decide)
 have q1:=NG ⟨T,0,none⟩ 4 4;have q2:=Wg;have q3:((⟨#[51]⟩:ByteArray)[0]'(by decide)).toNat=51:=rfl
 have HH:=Lib.hid h0;have xa:=Lib.hid ic;have HL:=Lib.hid aD;clear h0 ic bJ;go_enter Tryz.func226,Tryz.ntmps226;go_wp2
 go_quiet (fail)
 obtain⟨w,hw⟩:∃w,w0.drewN nq=w:=⟨_,rfl⟩;have bH:w0.heap.size=w.heap.size:=by rw[←hw];rfl
 have bD:But [T] w0 w:=by rw[←hw];exact(But.refl [T] w0).drewN nq
 have h:ND w g ⟨#[]⟩ 0 ⟨#[]⟩ (.pointer none) (nT T):=by rw[←hw];exact Blk.drewN HH.out nq
 have hT:TT w T (.pointer none) x k (.pointer none):=by rw[←hw];exact Blk.drewN xa.out nq
 have eA:=Lib.hid bH;have xb:T<w.heap.size:=by omega
 clear c2 c4 t3 f3 m3;have c4:w.cell? ⟨g,4,none⟩=some (nT T):=h.cell 4;have t3:w.cell? ⟨T,3,none⟩=some (.pointer none):=hT.cell 3;have f3:=hT.frozen 3;obtain⟨W,hW⟩:∃W,W=(w.setCell ⟨T,3,none⟩ (nP w.heap.size)).alloc (.cells (nd ⟨#[]⟩ 0 ⟨#[]⟩ (.pointer none) (.slice none 0 0)) 263):=⟨_,rfl⟩;have hN:ND W w.heap.size ⟨#[]⟩ 0 ⟨#[]⟩ (.pointer none) (.slice none 0 0):=by
  rw[hW];exact Blk.newAt _ _ _ _ (by simp)
 have pX:TT W T (.pointer none) x k (nP w.heap.size):=by rw[hW];exact(hT.set_ 3 _).alloc _
 have hB:But [T] w W:=by rw[hW];exact((But.refl [T] w).set _ _ (.inl (by simp))).alloc _
 have d4:W.cell? ⟨g,4,none⟩=some (nT T):=by rw[hW];exact(((h.far (p:=⟨T,3,none⟩) Ce _).alloc _).cell 4)
 have e3:W.cell? ⟨T,3,none⟩=some (nP w.heap.size):=pX.cell 3;have HW:=Lib.hid hW.symm;have HN:=Lib.hid hN;have HT:=Lib.hid pX;have HB:=Lib.hid (bD.trans hB (fun x hx=>hx) (fun x hx _=>hx))
 clear h hT hN pX hB hW bD;rw[hw];clear hw bH;have zu:ND W.drew w.heap.size ⟨#[]⟩ 0 ⟨#[]⟩ (.pointer none) (.slice none 0 0):=HN.out;have kI:=Lib.hid zu;clear zu;go_wp2;rw[HW.out]
 go_region_with (go_at_call 226;(refine(qbq _ _ v p _ _ kI.out).mono ?_);rintro e w' ⟨rfl,h1,h2⟩)
 all_goals
  go_end0
  rw[eA.out];exact⟨rfl,Blk.but (w:=W.drew) HT.out h2 (by simp;omega),h1,HB.out.trans ((But.refl [] W).drewN 1 |>.trans h2 (U:=[w.heap.size]) (by simp) (fun x hx _=>hx)) (fun x hx=>hx) (fun x hx eE=>by have:=eA.out;simp at hx;omega)⟩
theorem pu1{α:Type _}{xs:List α}{i:Nat}(h:i<xs.toArray.size):xs.toArray[i]=xs[i]'(by simpa using h):=by simp
theorem pu2{α:Type _}(a:α)(l:List α)(i:Nat)(h:i+1<(a::l).length):(a::l)[i+1]=l[i]'(by simpa using h):=rfl
theorem pu3{α:Type _}(a:α)(l:List α):(a::l)[0]'(by simp)=a:=rfl
theorem pu4{α:Type _}(l:List α)(i:Nat)(a:α):l.toArray.setIfInBounds i a=(l.set i a).toArray:=by simp
theorem pu5{α:Type _}(a b:α)(l:List α):(a::l).set 0 b=b::l:=rfl
theorem pu6{α:Type _}(a b:α)(l:List α)(n:Nat):(a::l).set (n+1) b=a::l.set n b:=rfl
theorem pu.{u}:(∀(α:Type u) (xs:List α) (i:Nat) (h:i<xs.toArray.size),xs.toArray[i]=xs[i]'(by simpa using h))∧(∀(α:Type u) (a:α) (l:List α) (i:Nat) (h:i+1<(a::l).length),(a::l)[i+1]=l[i]'(by simpa using h))∧(∀(α:Type u) (a:α) (l:List α),(a::l)[0]'(by simp)=a)∧(∀(α:Type u) (l:List α) (i:Nat) (a:α),l.toArray.setIfInBounds i a=(l.set i a).toArray)∧(∀(α:Type u) (a b:α) (l:List α),(a::l).set 0 b=b::l)∧(∀(α:Type u) (a b:α) (l:List α) (n:Nat),(a::l).set (n+1) b=a::l.set n b):=⟨fun _ _ _ h=>pu1 h,fun _ a l i h=>pu2 a l i h,fun _ a l=>pu3 a l,fun _ l i a=>pu4 l i a,fun _ a b l=>pu5 a b l,fun _ a b l n=>pu6 a b l n⟩
section
variable {P:Program} {ops:Array Oper} {Q:Exit→Act→World→Prop} {md:Region.Mode} {S:World→Prop} {fuel:Nat} {listed:Array Bool} {a:Act} {w:World}
theorem tkY(i:Nat)(v:Value){oi:Oper}(hi:ops[i]? =some oi)(hS:S w)(hy:∀w,S w→(execOp a.eval oi).run P w=.ok (.value v) w)(h:wpAnyH P md ops Q S fuel (listed.setIfInBounds i true) (a.put oi.dst v) w)(hs:Region.noSelect ops=true:=by kernel_rfl)(hf:Region.free md ops listed i=true:=by kernel_rfl)(hr:(Region.ready md ops listed).contains i=true:=by kernel_rfl)(hw:Region.wanted oi (yielded ops a.tmps)=true:=by kernel_rfl)(hQ:∀c a w,Q (.panic c) (a.put oi.dst v) w→Q (.panic c) a w:=by exact fun _ _ _ h=>h):wpAnyH P md ops Q S (fuel+1) listed a w:=wpAnyH_take hi hs hf hr hQ (.inl ⟨hw,hy⟩) hS h
theorem tkN(i:Nat){oi:Oper}(hi:ops[i]? =some oi)(hS:S w)(h:wpAnyH P md ops Q S fuel (listed.setIfInBounds i true) (a.put oi.dst undef) w)(hs:Region.noSelect ops=true:=by kernel_rfl)(hf:Region.free md ops listed i=true:=by kernel_rfl)(hr:(Region.ready md ops listed).contains i=true:=by kernel_rfl)(hw:Region.wanted oi (yielded ops a.tmps)=false:=by kernel_rfl)(hQ:∀c a w,Q (.panic c) (a.put oi.dst undef) w→Q (.panic c) a w:=by exact fun _ _ _ h=>h):wpAnyH P md ops Q S (fuel+1) listed a w:=wpAnyH_take hi hs hf hr hQ (.inr ⟨hw,rfl⟩) hS h
theorem tkM{j:Nat}(v:Value){oi:Oper}(hi:ops[j+1]? =some oi)(hS:S w)(hy:∀w,S w→(execOp a.eval oi).run P w=.ok (.value v) w)(h:wpAnyH P md ops Q S fuel ((listed.setIfInBounds j true).setIfInBounds (j+1) true) (a.put oi.dst v) w)(hs:Region.noSelect ops=true:=by kernel_rfl)(hf:Region.free md ops (listed.setIfInBounds j true) (j+1)=true:=by kernel_rfl)(hr:(Region.ready md ops (listed.setIfInBounds j true)).contains (j+1)=true:=by kernel_rfl)(hw:Region.wanted oi (yielded ops a.tmps)=true:=by kernel_rfl)(hQ:∀c a w,Q (.panic c) (a.put oi.dst v) w→Q (.panic c) a w:=by exact fun _ _ _ h=>h):wpAnyH P md ops Q S (fuel+1) (listed.setIfInBounds j true) a w:=tkY (j+1) v hi hS hy h hs hf hr hw hQ
theorem tkL{j:Nat}{oi:Oper}(hi:ops[j+1]? =some oi)(hS:S w)(h:wpAnyH P md ops Q S fuel ((listed.setIfInBounds j true).setIfInBounds (j+1) true) (a.put oi.dst undef) w)(hs:Region.noSelect ops=true:=by kernel_rfl)(hf:Region.free md ops (listed.setIfInBounds j true) (j+1)=true:=by kernel_rfl)(hr:(Region.ready md ops (listed.setIfInBounds j true)).contains (j+1)=true:=by kernel_rfl)(hw:Region.wanted oi (yielded ops a.tmps)=false:=by kernel_rfl)(hQ:∀c a w,Q (.panic c) (a.put oi.dst undef) w→Q (.panic c) a w:=by exact fun _ _ _ h=>h):wpAnyH P md ops Q S (fuel+1) (listed.setIfInBounds j true) a w:=tkN (j+1) hi hS h hs hf hr hw hQ
end
theorem bcl{w wz:World}{b o:Nat}{v:Option Value}(hS:Below w.heap.size w wz)(hb:b<w.heap.size)(h:w.cell? ⟨b,o,none⟩=v):wz.cell? ⟨b,o,none⟩=v:=(hS.cell (p:=⟨b,o,none⟩) hb).trans h
theorem bk2{w wz:World}{g:Nat}{t:TypeId}{a b:Value}(h:Blk w g t #[a,b])(hS:Below w.heap.size w wz):wz.cell? ⟨g,0,none⟩=some a∧wz.cell? ⟨g,1,none⟩=some b:=⟨(h.below hS h.lt).cell 0,(h.below hS h.lt).cell 1⟩
theorem qid{p:Prop}(h:p):Hid p:=h
theorem hZ2{a b:Prop}(x:a)(y:b):Hid a∧Hid b:=⟨x,y⟩
theorem hZ3{a b c:Prop}(x:a)(y:b)(z:c):Hid a∧Hid b∧Hid c:=⟨x,y,z⟩
theorem hZ4{a b c d:Prop}(x:a)(y:b)(z:c)(u:d):Hid a∧Hid b∧Hid c∧Hid d:=⟨x,y,z,u⟩
theorem hZ5{a b c d e:Prop}(x:a)(y:b)(z:c)(u:d)(v:e):Hid a∧Hid b∧Hid c∧Hid d∧Hid e:=⟨x,y,z,u,v⟩
theorem hZ6{a b c d e f:Prop}(x:a)(y:b)(z:c)(u:d)(v:e)(r:f):Hid a∧Hid b∧Hid c∧Hid d∧Hid e∧Hid f:=⟨x,y,z,u,v,r⟩
end Go.Proofs.YtpgddamhdfmdjaaGreatDoor
