/- Lxp Tra Lhp Da Db De Dc Dd Df Dk -/
import Derived.Test.YtgdabkpahmlkpaaGreatDoorRows
import Derived.WalkKit
import Derived.ProofKit
import Derived.Below
import Derived.IntWalk
import Derived.Lib.Strings
import Derived.Lib.Hide
import Derived.Lib.Walk
import Derived.Laws.RangeString
import Derived.Laws.RangeAny
import Derived.Deep.Cut
import Derived.Deep.Draws
import Derived.Laws.Rows
import Derived.WalkSpells
import Derived.LaidEqlPtr
import Derived.WalkMore
import Derived.BigQuiet
import Derived.OwnWalk
import Derived.Deep.QuietTactic
import Derived.Deep.RegionWith
import Derived.Deep.RegionHeld3
import Derived.Laws.CopyOwn
import Derived.Laws.OwnMore
import Derived.Laws.MakeOwn
import Derived.Deep.AppendLies
import Derived.Lib.Bytealg
import Derived.Test.YtgdabkpahmlkpaaGreatDoorShelf
import Derived.Deep.LoopGhost
import Derived.Lib.AppendZerosOnto
import Derived.Lib.SliceRun
set_option linter.unusedSimpArgs false
set_option linter.unusedVariables false
namespace Go.Proofs.YtgdabkpahmlkpaaGreatDoor
set_option linter.unusedSimpArgs false
open Go.ChangeShapes Go.WideShapes Go.ChangeAt Go.RowKit
set_option maxRecDepth 100000
set_option linter.unusedVariables false

abbrev Tx := List UInt8
theorem decode_wide (s : ByteArray) (pos : Nat) (h : pos < s.size) (ha : 128 ≤ (s[pos]'h).toNat) :
  pos + (Utf8.decode s pos).2 ≤ s.size ∧ ∀ j,j < (Utf8.decode s pos).2 → ∀ hj : pos + j < s.size,128 ≤ (s[pos + j]'hj).toNat := by
 have get : ∀ k,∀ hk : pos + k < s.size,(s.get! (pos + k)).toNat = (s[pos + k]'hk).toNat := by
  intro k hk
  have : s.get! (pos + k) = s[pos + k]'hk := by
   show s.get! (pos + k) = _
   simp [ByteArray.get!,getElem!_pos,hk]
   rfl
  rw [this]
 have key : ∀ n,(∀ k,0 < k → k < n → (decide (pos + k < s.size) && (s.get! (pos + k)).toNat / 64 == 2) = true) → pos + n ≤ s.size ∨ n ≤ 1 → (pos + n ≤ s.size ∨ n = 0 ∨ n = 1) → ∀ j,j < n → ∀ hj : pos + j < s.size,128 ≤ (s[pos + j]'hj).toNat := by
  intro n hn _ _ j hjn hj
  by_cases h0 : j = 0
  ·subst h0; exact ha
  ·have := hn j (by omega) hjn
   simp only [Bool.and_eq_true,beq_iff_eq] at this
   rw [get j hj] at this
   omega
 have lim : ∀ k,(decide (pos + k < s.size) && (s.get! (pos + k)).toNat / 64 == 2) = true → pos + k < s.size := by
  intro k hk
  simp only [Bool.and_eq_true,decide_eq_true_eq] at hk
  exact hk.1
 have hn0 : ¬ (s.get! (pos + 0)).toNat < 128 := by rw [get 0 h]; exact Nat.not_lt.2 ha
 have one : pos + 1 ≤ s.size ∧ ∀ j,j < 1 → ∀ hj : pos + j < s.size,128 ≤ (s[pos + j]'hj).toNat := ⟨h,fun j hj hj2 => by
  have : j = 0 := by omega
  subst this; exact ha⟩
 unfold Utf8.decode
 simp only
 rw [if_neg hn0]
 split
 ·rename_i h2
  simp only [Bool.and_eq_true] at h2
  split
  ·refine ⟨?_,key 2 (fun k k0 k2 => ?_) (.inl ?_) (.inl ?_)⟩
   ·have := lim 1 (by simp only [Bool.and_eq_true]; exact h2.2); omega
   ·have : k = 1 := by omega
    subst this; simp only [Bool.and_eq_true]; exact h2.2
   ·have := lim 1 (by simp only [Bool.and_eq_true]; exact h2.2); omega
   ·have := lim 1 (by simp only [Bool.and_eq_true]; exact h2.2); omega
  ·exact one
 ·split
  ·rename_i h3
   simp only [Bool.and_eq_true] at h3
   split
   ·have l2 := lim 2 (by simp only [Bool.and_eq_true]; exact h3.2)
    refine ⟨by omega,key 3 (fun k k0 k2 => ?_) (.inl (by omega)) (.inl (by omega))⟩
    have : k = 1 ∨ k = 2 := by omega
    rcases this with rfl | rfl
    ·simp only [Bool.and_eq_true]; exact h3.1.2
    ·simp only [Bool.and_eq_true]; exact h3.2
   ·exact one
  ·split
   ·rename_i h4
    simp only [Bool.and_eq_true] at h4
    split
    ·have l3 := lim 3 (by simp only [Bool.and_eq_true]; exact h4.2)
     refine ⟨by omega,key 4 (fun k k0 k2 => ?_) (.inl (by omega)) (.inl (by omega))⟩
     have : k = 1 ∨ k = 2 ∨ k = 3 := by omega
     rcases this with rfl | rfl | rfl
     ·simp only [Bool.and_eq_true]; exact h4.1.1.2
     ·simp only [Bool.and_eq_true]; exact h4.1.2
     ·simp only [Bool.and_eq_true]; exact h4.2
    ·exact one
   ·exact one
theorem run_next_at_ {P : Program} (w : World) (g : Nat) (s : ByteArray) (pos : Nat) (ty : TypeId) (hg : w.heap[g]? = some (.stringIter s pos)) (h : pos < s.size) :
  (Instr.next (.pointer (some ⟨g,0,none⟩)) true ty).run P w = .ok (.tuple #[.bool true,.int .i64 pos,.int .i32 ((Utf8.decode s pos).1 : Nat)]) { w with heap := w.heap.setIfInBounds g (.stringIter s (pos + (Utf8.decode s pos).2)) } := by
 have hlt : g < w.heap.size := (Array.getElem?_eq_some_iff.1 hg).1
 simp only [Instr.next,getObj,setObj,Sem.run_bind,Sem.run,hg,Result.andThen,h,if_true]
 simp [goInt,Sem.run,hg,hlt]
theorem run_next_over {P : Program} (w : World) (g : Nat) (s : ByteArray) (pos : Nat) (ty : TypeId) (hg : w.heap[g]? = some (.stringIter s pos)) (h : ¬ pos < s.size) :
  (Instr.next (.pointer (some ⟨g,0,none⟩)) true ty).run P w = .ok (.tuple #[.bool false]) w := by
 simp [Instr.next,getObj,Sem.run,hg,h]

def Blk (w : World) (g : Nat) (t : TypeId) (cs : Array Value) : Prop := w.heap[g]? = some (.cells cs t (0,0))
section
variable {w w' : World} {g : Nat} {t : TypeId} {cs : Array Value}
theorem Blk.lt (h : Blk w g t cs) : g < w.heap.size := (Array.getElem?_eq_some_iff.1 h).1
theorem Blk.cell (h : Blk w g t cs) (i : Nat) : w.cell? ⟨g,i,none⟩ = cs[i]? := cell_of_row w g i cs t (0,0) h
theorem Blk.frozen (h : Blk w g t cs) (i : Nat) : w.frozen? ⟨g,i,none⟩ = false := by
 unfold Blk at h
 simp [World.frozen?,h]
theorem Blk.new (w : World) (t : TypeId) (cs : Array Value) : Blk (w.alloc (.cells cs t)) w.heap.size t cs := heap_alloc_new w _
theorem Blk.newAt (w : World) (t : TypeId) (cs : Array Value) (n : Nat) (h : w.heap.size = n) : Blk (w.alloc (.cells cs t)) n t cs := by subst h; exact heap_alloc_new w _
theorem Blk.drewN (h : Blk w g t cs) (n : Nat) : Blk (w.drewN n) g t cs := h
theorem Blk.alloc (h : Blk w g t cs) (o : Obj) : Blk (w.alloc o) g t cs := (Below.heap_alloc w o g h.lt).trans h
theorem Blk.set_ (h : Blk w g t cs) (i : Nat) (u : Value) : Blk (w.setCell ⟨g,i,none⟩ u) g t (cs.setIfInBounds i u) := by
 unfold Blk at h ⊢
 simp [World.setCell,Array.getElem?_modify,h]
theorem Blk.far (h : Blk w g t cs) {p : Addr} (hp : g ≠ p.block) (u : Value) : Blk (w.setCell p u) g t cs := (Below.heap_setCell w p u g hp).trans h
theorem Blk.below {B : Nat} (h : Blk w g t cs) (hb : Below B w w') (hg : g < B) : Blk w' g t cs := (hb.block g hg).trans h
theorem Blk.grown {row : Option Nat} (h : Blk w g t cs) (hb : w.grownBy w' row) (hg : some g ≠ row) : Blk w' g t cs := (hb.block g h.lt hg).trans h
theorem Blk.ne_ {g' : Nat} {t' : TypeId} {cs' : Array Value} (h : Blk w g t cs) (h' : Blk w g' t' cs') (hne : t ≠ t') : g ≠ g' := by
 rintro rfl
 unfold Blk at h h'
 rw [h] at h'
 injection h' with h'
 injection h' with _ ht
 exact hne ht
end
structure But (S : List Nat) (w w' : World) : Prop where
 os : w'.os = w.os
 tape : w'.tape = w.tape
 output : w'.output = w.output
 size : w.heap.size ≤ w'.heap.size
 block : ∀ k,k < w.heap.size → k ∉ S → w'.heap[k]? = w.heap[k]?
theorem But.refl (S : List Nat) (w : World) : But S w w := ⟨rfl,rfl,rfl,Nat.le_refl _,fun _ _ _ => rfl⟩
theorem But.alloc {S : List Nat} {a w : World} (h : But S a w) (o : Obj) : But S a (w.alloc o) :=
 ⟨h.os,h.tape,h.output,by have := h.size; simp; omega,fun k hk hs => (Below.heap_alloc w o k (Nat.lt_of_lt_of_le hk h.size)).trans (h.block k hk hs)⟩
theorem But.set {S : List Nat} {a w : World} (h : But S a w) (p : Addr) (u : Value) (hp : p.block ∈ S ∨ a.heap.size ≤ p.block) : But S a (w.setCell p u) :=
 ⟨h.os,h.tape,h.output,by have := h.size; simpa using this,fun k hk hs => (Below.heap_setCell w p u k (fun e => by subst e; rcases hp with hp | hp; exact hs hp; omega)).trans (h.block k hk hs)⟩
theorem But.drewN {S : List Nat} {a w : World} (h : But S a w) (n : Nat) : But S a (w.drewN n) := ⟨h.os,h.tape,h.output,h.size,h.block⟩
theorem But.trans {S T U : List Nat} {a b c : World} (h : But S a b) (k : But T b c) (hS : ∀ x ∈ S,x ∈ U) (hT : ∀ x ∈ T,x < a.heap.size → x ∈ U) : But U a c :=
 ⟨k.os.trans h.os,k.tape.trans h.tape,k.output.trans h.output,Nat.le_trans h.size k.size,fun i hi hn => (k.block i (Nat.lt_of_lt_of_le hi h.size) (fun ht => hn (hT i ht hi))).trans (h.block i hi (fun hs => hn (hS i hs)))⟩
theorem But.below {S : List Nat} {a b : World} {B : Nat} (h : But S a b) (hB : B ≤ a.heap.size) (hS : ∀ x ∈ S,B ≤ x) : Below B a b :=
 ⟨h.os,h.tape,h.output,h.size,fun k hk => h.block k (by omega) (fun hs => by have := hS k hs; omega)⟩
theorem Blk.but {w w' : World} {g : Nat} {t : TypeId} {cs : Array Value} {S : List Nat} (h : Blk w g t cs) (hb : But S w w') (hg : g ∉ S) : Blk w' g t cs := (hb.block g h.lt hg).trans h
abbrev nd (v : ByteArray) (p : Int) (pre : ByteArray) (nx tb : Value) : Array Value := #[.string v,.int .i64 p,.string pre,nx,tb]
def ND (w : World) (g : Nat) (v : ByteArray) (p : Int) (pre : ByteArray) (nx tb : Value) : Prop := Blk w g 281 (nd v p pre nx tb)
theorem sl_nn (w : World) : (binOp .neq 279 (.slice none 0 0) (.slice none 0 0)).run Tryz.prog w = .ok (.bool false) w := by
 have h : ∀ d : Nat,(Op.equalIn (d + 1) 279 (.slice none 0 0) (.slice none 0 0)).run Tryz.prog w = .ok true w := fun d => by
  simp [Op.equalIn,run_underlying Tryz.underlying279]
 simp only [binOp]
 simp [Op.equal,Op.maxDepth,h 9999]
theorem sl_sn (a : Addr) (n c : Nat) (w : World) : (binOp .neq 279 (.slice (some a) n c) (.slice none 0 0)).run Tryz.prog w = .ok (.bool true) w := by
 have h : ∀ d : Nat,(Op.equalIn (d + 1) 279 (.slice (some a) n c) (.slice none 0 0)).run Tryz.prog w = .ok false w := fun d => by
  simp [Op.equalIn,run_underlying Tryz.underlying279]
 simp only [binOp]
 simp [Op.equal,Op.maxDepth,h 9999]
theorem pt_nn (w : World) : (binOp .eql 278 (.pointer none) (.pointer none)).run Tryz.prog w = .ok (.bool true) w := by
 have h : ∀ d : Nat,(Op.equalIn (d + 1) 278 (.pointer none) (.pointer none)).run Tryz.prog w = .ok true w := fun d => by
  simp [Op.equalIn,run_underlying Tryz.underlying278]
 simp only [binOp]
 simp [Op.equal,Op.maxDepth,h 9999]
theorem pt_sn (a : Addr) (w : World) : (binOp .eql 278 (.pointer (some a)) (.pointer none)).run Tryz.prog w = .ok (.bool false) w := by
 have h : ∀ d : Nat,(Op.equalIn (d + 1) 278 (.pointer (some a)) (.pointer none)).run Tryz.prog w = .ok false w := fun d => by
  simp [Op.equalIn,run_underlying Tryz.underlying278]
 simp only [binOp]
 simp [Op.equal,Op.maxDepth,h 9999]
theorem pn_sn (a : Addr) (w : World) : (binOp .neq 278 (.pointer (some a)) (.pointer none)).run Tryz.prog w = .ok (.bool true) w := by
 have h : ∀ d : Nat,(Op.equalIn (d + 1) 278 (.pointer (some a)) (.pointer none)).run Tryz.prog w = .ok false w := fun d => by
  simp [Op.equalIn,run_underlying Tryz.underlying278]
 simp only [binOp]
 simp [Op.equal,Op.maxDepth,h 9999]
theorem add0 (g : Nat) (x v : ByteArray) (p : Int) (r : Value) (w : World) (h : ND w g x 0 ⟨#[]⟩ (.pointer none) (.slice none 0 0)) :
  Calls Tryz.prog 249 #[.pointer (some ⟨g,0,none⟩),.string ⟨#[]⟩,.string v,.int .i64 p,r] w fun e w' => e = .returned (.tuple #[]) ∧ ND w' g v p ⟨#[]⟩ (.pointer none) (.slice none 0 0) ∧ But [g] w w' := by
 have c0 : w.cell? ⟨g,0,none⟩ = some (.string x) := h.cell 0
 have c1 : w.cell? ⟨g,1,none⟩ = some (.int .i64 0) := h.cell 1
 have f0 := h.frozen 0
 have f1 := h.frozen 1
 have H := Lib.hid h
 clear h
 go_enter Tryz.func249,Tryz.ntmps249
 go_wp2
 refine bodyPost_ret (v := .tuple #[]) (by simp [results,Tryz.results249,go_sem]) rfl ?_
 refine ⟨rfl,?_,(((But.refl [g] w).set ⟨g,0,none⟩ _ (.inl (by simp))).set ⟨g,1,none⟩ _ (.inl (by simp)))⟩
 have := (Blk.set_ H.out 0 (.string v)).set_ 1 (.int .i64 p)
 exact this
theorem add1 (g : Nat) (v : ByteArray) (p : Int) (r : Value) (w : World) (h : ND w g ⟨#[]⟩ 0 ⟨#[]⟩ (.pointer none) (.slice none 0 0)) :
  Calls Tryz.prog 249 #[.pointer (some ⟨g,0,none⟩),.string ⟨#[49]⟩,.string v,.int .i64 p,r] w fun e w' => e = .returned (.tuple #[]) ∧ ND w' g ⟨#[]⟩ 0 ⟨#[49]⟩ (.pointer (some ⟨w.heap.size,0,none⟩)) (.slice none 0 0) ∧ ND w' w.heap.size v p ⟨#[]⟩ (.pointer none) (.slice none 0 0) ∧ But [g] w w' := by
 have c2 : w.cell? ⟨g,2,none⟩ = some (.string ⟨#[]⟩) := h.cell 2
 have c3 : w.cell? ⟨g,3,none⟩ = some (.pointer none) := h.cell 3
 have c4 : w.cell? ⟨g,4,none⟩ = some (.slice none 0 0) := h.cell 4
 have f2 := h.frozen 2
 have f3 := h.frozen 3
 have hlt := h.lt
 obtain ⟨W,hW⟩ : ∃ W,W = ((w.setCell ⟨g,2,none⟩ (.string ⟨#[49]⟩)).setCell ⟨g,3,none⟩ (.pointer (some ⟨w.heap.size,0,none⟩))).alloc (.cells (nd ⟨#[]⟩ 0 ⟨#[]⟩ (.pointer none) (.slice none 0 0)) 281) := ⟨_,rfl⟩
 have hN : ND W w.heap.size ⟨#[]⟩ 0 ⟨#[]⟩ (.pointer none) (.slice none 0 0) := by
  rw [hW]; exact Blk.newAt _ _ _ _ (by simp)
 have hG : ND W g ⟨#[]⟩ 0 ⟨#[49]⟩ (.pointer (some ⟨w.heap.size,0,none⟩)) (.slice none 0 0) := by rw [hW]; exact ((Blk.set_ h 2 (.string ⟨#[49]⟩)).set_ 3 _).alloc _
 have hB : But [g] w W := by rw [hW]; exact (((But.refl [g] w).set _ _ (.inl (by simp))).set _ _ (.inl (by simp))).alloc _
 have HW := Lib.hid hW.symm
 have HN := Lib.hid hN
 have HG := Lib.hid hG
 have HB := Lib.hid hB
 have HL := Lib.hid hlt
 have q1 := sl_nn w
 clear h hN hG hB hW
 go_enter Tryz.func249,Tryz.ntmps249
 go_wp2_with (go_at_call 249; (rw [HW.out]); ((with_reducible refine (add0 _ _ v p r _ HN.out).mono ?_)); rintro e w' ⟨rfl,h1,h2⟩)
 go_end0
 have hl := HL.out
 exact ⟨rfl,Blk.but HG.out h2 (by simp; omega),h1,HB.out.trans h2 (fun x hx => hx) (fun x hx hxl => by simp at hx; omega)⟩
def mapF (i : Nat) : Int := if i = 36 then 0 else if i = 49 then 1 else if i = 50 then 2 else if i = 51 then 3 else 4
def gCells (tb : Value) (ts : Int) (m : Nat → Int) : Array Value := #[.string ⟨#[]⟩,.int .i64 0,.string ⟨#[]⟩,.pointer none,tb,.int .i64 ts] ++ ((List.range 256).map fun i => .int .u8 (m i)).toArray
def GR (w : World) (r : Nat) (tb : Value) : Prop := Blk w r 283 (gCells tb 4 mapF)
theorem gr_map (tb : Value) (ts : Int) (m : Nat → Int) (i : Nat) (h : i < 256) : (gCells tb ts m)[6 + i]? = some (.int .u8 (m i)) := by
 unfold gCells
 rw [Array.getElem?_append_right (by simp)]
 simp [h]
theorem gr_head (tb : Value) (ts : Int) (m : Nat → Int) (i : Nat) (h : i < 6) : (gCells tb ts m)[i]? = (#[.string ⟨#[]⟩,.int .i64 0,.string ⟨#[]⟩,.pointer none,tb,.int .i64 ts] : Array Value)[i]? := by
 unfold gCells
 rw [Array.getElem?_append_left (by simpa using h)]
def TT (w : World) (T : Nat) (a b c d : Value) : Prop := Blk w T 278 #[a,b,c,d]
abbrev nP (g : Nat) : Value := .pointer (some ⟨g,0,none⟩)
abbrev nT (T : Nat) : Value := .slice (some ⟨T,0,none⟩) 4 4
set_option pp.deepTerms true in
set_option pp.maxSteps 1000000 in
theorem add3 (g T r : Nat) (x k tb : Value) (v : ByteArray) (p : Int) (w0 : World) (h0 : ND w0 g ⟨#[]⟩ 0 ⟨#[]⟩ (.pointer none) (nT T)) (hT0 : TT w0 T (.pointer none) x k (.pointer none)) (hr0 : GR w0 r tb) :
  Calls Tryz.prog 249 #[nP g,.string ⟨#[51]⟩,.string v,.int .i64 p,nP r] w0 fun e w' => e = .returned (.tuple #[]) ∧ TT w' T (.pointer none) x k (nP w0.heap.size) ∧ ND w' w0.heap.size v p ⟨#[]⟩ (.pointer none) (.slice none 0 0) ∧ But [T] w0 w' := by
 have c2 : w0.cell? ⟨g,2,none⟩ = some (.string ⟨#[]⟩) := h0.cell 2
 have c4 : w0.cell? ⟨g,4,none⟩ = some (nT T) := h0.cell 4
 have t3 : w0.cell? ⟨T,3,none⟩ = some (.pointer none) := hT0.cell 3
 have f3 := hT0.frozen 3
 have m3 : w0.cell? ⟨r,57,none⟩ = some (.int .u8 3) := (hr0.cell 57).trans (gr_map tb 4 mapF 51 (by decide))
 have hlt := hT0.lt
 have hgl := h0.lt
 have hgT : g ≠ T := Blk.ne_ h0 hT0 (by decide)
 have q1 := sl_sn ⟨T,0,none⟩ 4 4
 have q2 := pt_nn
 have q3 : ((⟨#[51]⟩ : ByteArray)[0]'(by decide)).toNat = 51 := rfl
 have HH := Lib.hid h0
 have HT0 := Lib.hid hT0
 have HL := Lib.hid hlt
 clear h0 hT0 hr0
 go_enter Tryz.func249,Tryz.ntmps249
 go_wp2
 go_quiet (fail)
 obtain ⟨w,hw⟩ : ∃ w,w0.drewN nq = w := ⟨_,rfl⟩
 have hsz : w0.heap.size = w.heap.size := by rw [← hw]; rfl
 have hb0 : But [T] w0 w := by rw [← hw]; exact (But.refl [T] w0).drewN nq
 have h : ND w g ⟨#[]⟩ 0 ⟨#[]⟩ (.pointer none) (nT T) := by rw [← hw]; exact Blk.drewN HH.out nq
 have hT : TT w T (.pointer none) x k (.pointer none) := by rw [← hw]; exact Blk.drewN HT0.out nq
 have HSZ := Lib.hid hsz
 have hlt' : T < w.heap.size := by omega
 clear c2 c4 t3 f3 m3
 have c4 : w.cell? ⟨g,4,none⟩ = some (nT T) := h.cell 4
 have t3 : w.cell? ⟨T,3,none⟩ = some (.pointer none) := hT.cell 3
 have f3 := hT.frozen 3
 obtain ⟨W,hW⟩ : ∃ W,W = (w.setCell ⟨T,3,none⟩ (nP w.heap.size)).alloc (.cells (nd ⟨#[]⟩ 0 ⟨#[]⟩ (.pointer none) (.slice none 0 0)) 281) := ⟨_,rfl⟩
 have hN : ND W w.heap.size ⟨#[]⟩ 0 ⟨#[]⟩ (.pointer none) (.slice none 0 0) := by
  rw [hW]; exact Blk.newAt _ _ _ _ (by simp)
 have hTW : TT W T (.pointer none) x k (nP w.heap.size) := by rw [hW]; exact (hT.set_ 3 _).alloc _
 have hB : But [T] w W := by rw [hW]; exact ((But.refl [T] w).set _ _ (.inl (by simp))).alloc _
 have d4 : W.cell? ⟨g,4,none⟩ = some (nT T) := by rw [hW]; exact (((h.far (p := ⟨T,3,none⟩) hgT _).alloc _).cell 4)
 have e3 : W.cell? ⟨T,3,none⟩ = some (nP w.heap.size) := hTW.cell 3
 have HW := Lib.hid hW.symm
 have HN := Lib.hid hN
 have HT := Lib.hid hTW
 have HB := Lib.hid (hb0.trans hB (fun x hx => hx) (fun x hx _ => hx))
 clear h hT hN hTW hB hW hb0
 rw [hw]
 clear hw hsz
 have hN2 : ND W.drew w.heap.size ⟨#[]⟩ 0 ⟨#[]⟩ (.pointer none) (.slice none 0 0) := HN.out
 have HN2 := Lib.hid hN2
 clear hN2
 go_wp2
 rw [HW.out]
 go_region_with (go_at_call 249; (refine (add0 _ _ v p _ _ HN2.out).mono ?_); rintro e w' ⟨rfl,h1,h2⟩)
 all_goals
  go_end0
  rw [HSZ.out]
  exact ⟨rfl,Blk.but (w := W.drew) HT.out h2 (by simp; omega),h1,HB.out.trans ((But.refl [] W).drewN 1 |>.trans h2 (U := [w.heap.size]) (by simp) (fun x hx _ => hx)) (fun x hx => hx) (fun x hx hxl => by have := HSZ.out; simp at hx; omega)⟩
end Go.Proofs.YtgdabkpahmlkpaaGreatDoor
namespace Go.Proofs.YtgdabkpahmlkpaaGreatDoor
open Go.ChangeShapes Go.WideShapes Go.ChangeAt Go.RowKit
set_option maxRecDepth 100000
theorem pu1 {α : Type _} {xs : List α} {i : Nat} (h : i < xs.toArray.size) : xs.toArray[i] = xs[i]'(by simpa using h) := by simp
theorem pu2 {α : Type _} (a : α) (l : List α) (i : Nat) (h : i + 1 < (a :: l).length) : (a :: l)[i + 1] = l[i]'(by simpa using h) := rfl
theorem pu3 {α : Type _} (a : α) (l : List α) : (a :: l)[0]'(by simp) = a := rfl
theorem pu4 {α : Type _} (l : List α) (i : Nat) (a : α) : l.toArray.setIfInBounds i a = (l.set i a).toArray := by simp
theorem pu5 {α : Type _} (a b : α) (l : List α) : (a :: l).set 0 b = b :: l := rfl
theorem pu6 {α : Type _} (a b : α) (l : List α) (n : Nat) : (a :: l).set (n + 1) b = a :: l.set n b := rfl
theorem pu.{u} : (∀ (α : Type u) (xs : List α) (i : Nat) (h : i < xs.toArray.size),xs.toArray[i] = xs[i]'(by simpa using h)) ∧ (∀ (α : Type u) (a : α) (l : List α) (i : Nat) (h : i + 1 < (a :: l).length),(a :: l)[i + 1] = l[i]'(by simpa using h)) ∧ (∀ (α : Type u) (a : α) (l : List α),(a :: l)[0]'(by simp) = a) ∧ (∀ (α : Type u) (l : List α) (i : Nat) (a : α),l.toArray.setIfInBounds i a = (l.set i a).toArray) ∧ (∀ (α : Type u) (a b : α) (l : List α),(a :: l).set 0 b = b :: l) ∧ (∀ (α : Type u) (a b : α) (l : List α) (n : Nat),(a :: l).set (n + 1) b = a :: l.set n b) := ⟨fun _ _ _ h => pu1 h,fun _ a l i h => pu2 a l i h,fun _ a l => pu3 a l,fun _ l i a => pu4 l i a,fun _ a b l => pu5 a b l,fun _ a b l n => pu6 a b l n⟩
section
variable {P : Program} {ops : Array Oper} {Q : Exit → Act → World → Prop} {md : Region.Mode} {S : World → Prop} {fuel : Nat} {listed : Array Bool} {a : Act} {w : World}
theorem tkY (i : Nat) (v : Value) {oi : Oper} (hi : ops[i]? = some oi) (hS : S w) (hy : ∀ w,S w → (execOp a.eval oi).run P w = .ok (.value v) w) (h : wpAnyH P md ops Q S fuel (listed.setIfInBounds i true) (a.put oi.dst v) w)
  (hs : Region.noSelect ops = true := by kernel_rfl) (hf : Region.free md ops listed i = true := by kernel_rfl) (hr : (Region.ready md ops listed).contains i = true := by kernel_rfl) (hw : Region.wanted oi (yielded ops a.tmps) = true := by kernel_rfl)
  (hQ : ∀ c a w,Q (.panic c) (a.put oi.dst v) w → Q (.panic c) a w := by exact fun _ _ _ h => h) : wpAnyH P md ops Q S (fuel + 1) listed a w := wpAnyH_take hi hs hf hr hQ (.inl ⟨hw,hy⟩) hS h
theorem tkN (i : Nat) {oi : Oper} (hi : ops[i]? = some oi) (hS : S w) (h : wpAnyH P md ops Q S fuel (listed.setIfInBounds i true) (a.put oi.dst undef) w)
  (hs : Region.noSelect ops = true := by kernel_rfl) (hf : Region.free md ops listed i = true := by kernel_rfl) (hr : (Region.ready md ops listed).contains i = true := by kernel_rfl) (hw : Region.wanted oi (yielded ops a.tmps) = false := by kernel_rfl)
  (hQ : ∀ c a w,Q (.panic c) (a.put oi.dst undef) w → Q (.panic c) a w := by exact fun _ _ _ h => h) : wpAnyH P md ops Q S (fuel + 1) listed a w := wpAnyH_take hi hs hf hr hQ (.inr ⟨hw,rfl⟩) hS h
end
theorem bcl {w wz : World} {b o : Nat} {v : Option Value} (hS : Below w.heap.size w wz) (hb : b < w.heap.size) (h : w.cell? ⟨b,o,none⟩ = v) : wz.cell? ⟨b,o,none⟩ = v := (hS.cell (p := ⟨b,o,none⟩) hb).trans h
theorem bk2 {w wz : World} {g : Nat} {t : TypeId} {a b : Value} (h : Blk w g t #[a,b]) (hS : Below w.heap.size w wz) : wz.cell? ⟨g,0,none⟩ = some a ∧ wz.cell? ⟨g,1,none⟩ = some b := ⟨(h.below hS h.lt).cell 0,(h.below hS h.lt).cell 1⟩

abbrev Rw : Type := Int × Int
abbrev Tb : Type := ByteArray × List Rw
def RR (w : World) (v : Value) (l : List Rw) : Prop :=
 (∃ a cap,l = [] ∧ v = .slice a 0 cap) ∨ ∃ g off cap,v = .slice (some ⟨g,off,none⟩) l.length cap ∧ l.length ≤ cap ∧ ∀ (i : Nat) (r : Rw),l[i]? = some r → w.cell? ⟨g,off + i * 2,none⟩ = some (.int .i64 r.1) ∧ w.cell? ⟨g,off + i * 2 + 1,none⟩ = some (.int .i64 r.2)
theorem RR.keep {w w' : World} {v : Value} {l : List Rw} (h : RR w v l) (hk : ∀ p : Addr,(w.cell? p).isSome = true → w'.cell? p = w.cell? p) : RR w' v l := by
 rcases h with h | ⟨g,off,cap,e,hc,hx⟩
 ·exact .inl h
 ·refine .inr ⟨g,off,cap,e,hc,fun i r hi => ?_⟩
  obtain ⟨h1,h2⟩ := hx i r hi
  exact ⟨(hk _ (by rw [h1]; rfl)).trans h1,(hk _ (by rw [h2]; rfl)).trans h2⟩
theorem bel_keep {w w' : World} (hb : Below w.heap.size w w') : ∀ p : Addr,(w.cell? p).isSome = true → w'.cell? p = w.cell? p := fun p hp => by
 obtain ⟨x,hx⟩ := Option.isSome_iff_exists.1 hp
 exact hb.cell (World.block_lt_of_cell? w p hx)
theorem RR.below {w w' : World} {v : Value} {l : List Rw} (h : RR w v l) (hb : Below w.heap.size w w') : RR w' v l := h.keep (bel_keep hb)
theorem RR.form {w : World} {v : Value} {l : List Rw} (h : RR w v l) : ∃ a cap,v = .slice a l.length cap := by
 rcases h with ⟨a,cap,rfl,rfl⟩ | ⟨g,off,cap,rfl,_⟩
 ·exact ⟨_,_,rfl⟩
 ·exact ⟨_,_,rfl⟩
theorem RR.inv {w : World} {v : Value} {l : List Rw} (h : RR w v l) (hp : 0 < l.length) : ∃ g off cap,v = .slice (some ⟨g,off,none⟩) l.length cap ∧ l.length ≤ cap ∧ ∀ (i : Nat) (r : Rw),l[i]? = some r → w.cell? ⟨g,off + i * 2,none⟩ = some (.int .i64 r.1) ∧ w.cell? ⟨g,off + i * 2 + 1,none⟩ = some (.int .i64 r.2) := by
 rcases h with ⟨a,cap,rfl,rfl⟩ | h
 ·simp at hp
 ·exact h
def SR (w : World) (v : Value) (s : List Tb) : Prop :=
 (∃ a cap,s = [] ∧ v = .slice a 0 cap) ∨ ∃ g off cap,v = .slice (some ⟨g,off,none⟩) s.length cap ∧ s.length ≤ cap ∧ ∀ (i : Nat) (t : Tb),s[i]? = some t → w.cell? ⟨g,off + i * 2,none⟩ = some (.string t.1) ∧ ∃ u,w.cell? ⟨g,off + i * 2 + 1,none⟩ = some u ∧ RR w u t.2
theorem SR.keep {w w' : World} {v : Value} {s : List Tb} (h : SR w v s) (hk : ∀ p : Addr,(w.cell? p).isSome = true → w'.cell? p = w.cell? p) : SR w' v s := by
 rcases h with h | ⟨g,off,cap,e,hc,hx⟩
 ·exact .inl h
 ·refine .inr ⟨g,off,cap,e,hc,fun i t hi => ?_⟩
  obtain ⟨h1,u,h2,h3⟩ := hx i t hi
  exact ⟨(hk _ (by rw [h1]; rfl)).trans h1,u,(hk _ (by rw [h2]; rfl)).trans h2,h3.keep hk⟩
theorem SR.below {w w' : World} {v : Value} {s : List Tb} (h : SR w v s) (hb : Below w.heap.size w w') : SR w' v s := h.keep (bel_keep hb)
theorem SR.form {w : World} {v : Value} {s : List Tb} (h : SR w v s) : ∃ a cap,v = .slice a s.length cap := by
 rcases h with ⟨a,cap,rfl,rfl⟩ | ⟨g,off,cap,rfl,_⟩
 ·exact ⟨_,_,rfl⟩
 ·exact ⟨_,_,rfl⟩
theorem SR.inv {w : World} {v : Value} {s : List Tb} (h : SR w v s) (hp : 0 < s.length) : ∃ g off cap,v = .slice (some ⟨g,off,none⟩) s.length cap ∧ s.length ≤ cap ∧ ∀ (i : Nat) (t : Tb),s[i]? = some t → w.cell? ⟨g,off + i * 2,none⟩ = some (.string t.1) ∧ ∃ u,w.cell? ⟨g,off + i * 2 + 1,none⟩ = some u ∧ RR w u t.2 := by
 rcases h with ⟨a,cap,rfl,rfl⟩ | h
 ·simp at hp
 ·exact h

def fl : List (Value × Value) → List Value
 | [] => []
 | p :: t => p.1 :: p.2 :: fl t
theorem fl_len : ∀ l : List (Value × Value),(fl l).length = l.length * 2
 | [] => rfl
 | p :: t => by rw [fl,List.length_cons,List.length_cons,fl_len t,List.length_cons]; omega
theorem fl_append : ∀ l m : List (Value × Value),fl (l ++ m) = fl l ++ fl m
 | [],m => rfl
 | p :: t,m => by rw [List.cons_append,fl,fl_append t m]; rfl
theorem fl_take : ∀ (l : List (Value × Value)) (k : Nat),fl (l.take k) = (fl l).take (k * 2)
 | l,0 => by simp [fl]
 | [],k + 1 => by simp [fl]
 | p :: t,k + 1 => by rw [List.take_succ_cons,fl,fl,fl_take t k,show (k + 1) * 2 = k * 2 + 1 + 1 by omega,List.take_succ_cons,List.take_succ_cons]
theorem fl_drop : ∀ (l : List (Value × Value)) (k : Nat),fl (l.drop k) = (fl l).drop (k * 2)
 | l,0 => by simp
 | [],k + 1 => by simp [fl]
 | p :: t,k + 1 => by rw [List.drop_succ_cons,fl,fl_drop t k,show (k + 1) * 2 = k * 2 + 1 + 1 by omega,List.drop_succ_cons,List.drop_succ_cons]
theorem fl_at : ∀ (l : List (Value × Value)) (i : Nat) (p : Value × Value),l[i]? = some p → (fl l)[i * 2]? = some p.1 ∧ (fl l)[i * 2 + 1]? = some p.2
 | [],i,p,h => by simp at h
 | q :: t,0,p,h => by simp at h; subst h; exact ⟨rfl,rfl⟩
 | q :: t,i + 1,p,h => by
  have := fl_at t i p (by simpa using h)
  rw [fl,show (i + 1) * 2 = i * 2 + 1 + 1 by omega,List.getElem?_cons_succ,List.getElem?_cons_succ,List.getElem?_cons_succ,List.getElem?_cons_succ]
  exact this
theorem fl_set1 : ∀ (l : List (Value × Value)) (i : Nat) (p : Value × Value) (u : Value),l[i]? = some p → (fl l).set (i * 2) u = fl (l.set i (u,p.2))
 | [],i,p,u,h => by simp at h
 | q :: t,0,p,u,h => by simp at h; subst h; rfl
 | q :: t,i + 1,p,u,h => by
  rw [fl,show (i + 1) * 2 = i * 2 + 1 + 1 by omega,List.set_cons_succ,List.set_cons_succ,List.set_cons_succ,fl,fl_set1 t i p u (by simpa using h)]
theorem fl_set2 : ∀ (l : List (Value × Value)) (i : Nat) (p : Value × Value) (u : Value),l[i]? = some p → (fl l).set (i * 2 + 1) u = fl (l.set i (p.1,u))
 | [],i,p,u,h => by simp at h
 | q :: t,0,p,u,h => by simp at h; subst h; rfl
 | q :: t,i + 1,p,u,h => by
  rw [fl,show (i + 1) * 2 + 1 = i * 2 + 1 + 1 + 1 by omega,List.set_cons_succ,List.set_cons_succ,List.set_cons_succ,fl,fl_set2 t i p u (by simpa using h)]
theorem fl_all (q : Value → Bool) : ∀ l : List (Value × Value),(∀ p ∈ l,q p.1 = true ∧ q p.2 = true) → ∀ v ∈ fl l,q v = true
 | [],_,v,h => by simp [fl] at h
 | p :: t,hp,v,h => by
  rw [fl,List.mem_cons,List.mem_cons] at h
  rcases h with rfl | rfl | h
  ·exact (hp p (by simp)).1
  ·exact (hp p (by simp)).2
  ·exact fl_all q t (fun x hx => hp x (by simp [hx])) v h
theorem fl_inv : ∀ (l : List (Value × Value)) (j : Nat) (u : Value),(fl l)[j]? = some u → ∃ i p,l[i]? = some p ∧ ((j = i * 2 ∧ u = p.1) ∨ (j = i * 2 + 1 ∧ u = p.2))
 | [],j,u,h => by simp [fl] at h
 | p :: t,0,u,h => by simp [fl] at h; exact ⟨0,p,rfl,.inl ⟨rfl,h.symm⟩⟩
 | p :: t,1,u,h => by simp [fl] at h; exact ⟨0,p,rfl,.inr ⟨rfl,h.symm⟩⟩
 | p :: t,j + 2,u,h => by
  rw [fl,List.getElem?_cons_succ,List.getElem?_cons_succ] at h
  obtain ⟨i,q,h1,h2⟩ := fl_inv t j u h
  refine ⟨i + 1,q,by simpa using h1,?_⟩
  rcases h2 with ⟨h2,h3⟩ | ⟨h2,h3⟩
  ·exact .inl ⟨by omega,h3⟩
  ·exact .inr ⟨by omega,h3⟩

abbrev rp (r : Rw) : Value × Value := (.int .i64 r.1,.int .i64 r.2)
def rcs (l : List Rw) : List Value := fl (l.map rp)
theorem rcs_len (l : List Rw) : (rcs l).length = l.length * 2 := by unfold rcs; rw [fl_len,List.length_map]
theorem rcs_one (l : List Rw) : ∀ v ∈ rcs l,v.oneCell' = true := fl_all _ _ fun p hp => by
 obtain ⟨r,_,rfl⟩ := List.mem_map.1 hp
 exact ⟨rfl,rfl⟩
theorem rcs_at (l : List Rw) (i : Nat) (r : Rw) (h : l[i]? = some r) : (rcs l)[i * 2]? = some (.int .i64 r.1) ∧ (rcs l)[i * 2 + 1]? = some (.int .i64 r.2) :=
 fl_at _ i (rp r) (by rw [List.getElem?_map,h]; rfl)
theorem rcs_append (l m : List Rw) : rcs (l ++ m) = rcs l ++ rcs m := by unfold rcs; rw [List.map_append,fl_append]
theorem rcs_take (l : List Rw) (k : Nat) : rcs (l.take k) = (rcs l).take (k * 2) := by unfold rcs; rw [List.map_take,fl_take]
def OR (B : Nat) (w : World) (v : Value) (l : List Rw) : Prop := w.ownsRow B 39 2 v l.length (rcs l)
abbrev Tv : Type := ByteArray × Value × List Rw
def tcs (x : List Tv) : List Value := fl (x.map fun t => (.string t.1,t.2.1))
def tbs (x : List Tv) : List Tb := x.map fun t => (t.1,t.2.2)
theorem tcs_len (x : List Tv) : (tcs x).length = x.length * 2 := by unfold tcs; rw [fl_len,List.length_map]
theorem tcs_at (x : List Tv) (i : Nat) (t : Tv) (h : x[i]? = some t) : (tcs x)[i * 2]? = some (.string t.1) ∧ (tcs x)[i * 2 + 1]? = some t.2.1 :=
 fl_at _ i (.string t.1,t.2.1) (by rw [List.getElem?_map,h]; rfl)
theorem tcs_append (x y : List Tv) : tcs (x ++ y) = tcs x ++ tcs y := by unfold tcs; rw [List.map_append,fl_append]
theorem tcs_set (x : List Tv) (i : Nat) (t : Tv) (u : Value) (l : List Rw) (h : x[i]? = some t) : (tcs x).set (i * 2 + 1) u = tcs (x.set i (t.1,u,l)) := by
 unfold tcs
 rw [fl_set2 _ i (.string t.1,t.2.1) u (by rw [List.getElem?_map,h]; rfl),List.map_set]
theorem tcs_name (x : List Tv) (i : Nat) (t : Tv) (n : ByteArray) (l : List Rw) (h : x[i]? = some t) : (tcs x).set (i * 2) (.string n) = tcs (x.set i (n,t.2.1,l)) := by
 unfold tcs
 rw [fl_set1 _ i (.string t.1,t.2.1) _ (by rw [List.getElem?_map,h]; rfl),List.map_set]
theorem tbs_len (x : List Tv) : (tbs x).length = x.length := List.length_map ..
theorem tbs_at (x : List Tv) (i : Nat) (t : Tv) (h : x[i]? = some t) : (tbs x)[i]? = some (t.1,t.2.2) := by unfold tbs; rw [List.getElem?_map,h]; rfl
theorem tbs_inv (x : List Tv) (i : Nat) (t : Tb) (h : (tbs x)[i]? = some t) : ∃ u,x[i]? = some (t.1,u,t.2) := by
 unfold tbs at h
 rw [List.getElem?_map] at h
 cases hx : x[i]? with
 | none => rw [hx] at h; cases h
 | some y => rw [hx] at h; injection h with h; subst h; exact ⟨y.2.1,rfl⟩
theorem tbs_set (x : List Tv) (i : Nat) (n : ByteArray) (u : Value) (l : List Rw) : tbs (x.set i (n,u,l)) = (tbs x).set i (n,l) := by unfold tbs; rw [List.map_set]
def aprt (a b : Tv) : Prop := a.2.1.ownBlock = none ∨ a.2.1.ownBlock ≠ b.2.1.ownBlock
structure FS (B : Nat) (w : World) (v : Value) (x : List Tv) : Prop where
 own : w.ownsRow B 37 2 v x.length (tcs x)
 rows : ∀ t ∈ x,OR B w t.2.1 t.2.2
 apart : ∀ (i j : Nat) (a b : Tv),i ≠ j → x[i]? = some a → x[j]? = some b → aprt a b
theorem own_keep {w w' : World} {B : Nat} {e : TypeId} {z n : Nat} {v : Value} {xs : List Value} (h : w.ownsRow B e z v n xs) (hk : ∀ g,v.ownBlock = some g → w'.heap[g]? = w.heap[g]?) : w'.ownsRow B e z v n xs := by
 refine ⟨h.1,?_⟩
 rcases h.2 with h2 | ⟨g,cap,cur,rfl,hb,hg,hr⟩
 ·exact .inl h2
 ·exact .inr ⟨g,cap,cur,rfl,hb,(hk g rfl).trans hg,hr⟩
theorem own_mono {w : World} {B B' : Nat} {e : TypeId} {z n : Nat} {v : Value} {xs : List Value} (h : w.ownsRow B e z v n xs) (hB : B' ≤ B) : w.ownsRow B' e z v n xs := by
 refine ⟨h.1,?_⟩
 rcases h.2 with h2 | ⟨g,cap,cur,rfl,hb,hr⟩
 ·exact .inl h2
 ·exact .inr ⟨g,cap,cur,rfl,Nat.le_trans hB hb,hr⟩
theorem own_sh2 {w : World} {B z n : Nat} {e : TypeId} {v : Value} {xs : List Value} (h : w.ownsRow B e z v n xs) : ∃ a c,v = .slice a n c := by
 rcases h.2 with ⟨rfl,h0⟩ | ⟨g,cap,cur,rfl,_⟩
 ·exact ⟨_,_,by rw [h0]⟩
 ·exact ⟨_,_,rfl⟩
theorem own_type {w : World} {B z n g : Nat} {e : TypeId} {v : Value} {xs : List Value} (h : w.ownsRow B e z v n xs) (hg : v.ownBlock = some g) : ∃ cur,Blk w g e cur := by
 rcases h.2 with ⟨rfl,h0⟩ | ⟨g',cap,cur,rfl,_,hh,_⟩
 ·cases hg
 ·simp [Value.ownBlock] at hg; subst hg; exact ⟨cur,hh⟩
theorem own_ne {w : World} {B B' z n z' n' g g' : Nat} {e e' : TypeId} {v v' : Value} {xs xs' : List Value} (h : w.ownsRow B e z v n xs) (h' : w.ownsRow B' e' z' v' n' xs') (hg : v.ownBlock = some g) (hg' : v'.ownBlock = some g') (hne : e ≠ e') : g ≠ g' := by
 obtain ⟨c,hc⟩ := own_type h hg
 obtain ⟨c',hc'⟩ := own_type h' hg'
 exact hc.ne_ hc' hne
theorem own_below {w w' : World} {B : Nat} {e : TypeId} {z n : Nat} {v : Value} {xs : List Value} (h : w.ownsRow B e z v n xs) (hb : Below w.heap.size w w') : w'.ownsRow B e z v n xs :=
 own_keep h fun g hg => hb.block g (h.lt g hg).2
theorem OR.rr {B : Nat} {w : World} {v : Value} {l : List Rw} (h : OR B w v l) : RR w v l := by
 rcases h.2 with ⟨rfl,h0⟩ | ⟨g,cap,cur,rfl,hb,hg,hn,_,hs,ht⟩
 ·exact .inl ⟨_,_,List.eq_nil_of_length_eq_zero h0,rfl⟩
 ·refine .inr ⟨g,0,cap,rfl,hn,fun i r hi => ?_⟩
  obtain ⟨h1,h2⟩ := rcs_at l i r hi
  have hl : i < l.length := (List.getElem?_eq_some_iff.1 hi).1
  have c := fun j hj => World.ownsRow.cellAt h (g := g) (n := l.length) (cap := cap) j hj
  rw [Nat.zero_add]
  exact ⟨(c (i * 2) (by omega)).trans h1,(c (i * 2 + 1) (by omega)).trans h2⟩
theorem FS.sr {B : Nat} {w : World} {v : Value} {x : List Tv} (h : FS B w v x) : SR w v (tbs x) := by
 rcases h.own.2 with ⟨rfl,h0⟩ | ⟨g,cap,cur,rfl,hb,hg,hn,_,hs,ht⟩
 ·have : x = [] := List.eq_nil_of_length_eq_zero h0
  subst this
  exact .inl ⟨_,_,rfl,rfl⟩
 ·refine .inr ⟨g,0,cap,by rw [tbs_len],by rw [tbs_len]; exact hn,fun i t hi => ?_⟩
  obtain ⟨u,hu⟩ := tbs_inv x i t hi
  obtain ⟨h1,h2⟩ := tcs_at x i _ hu
  have hl : i < x.length := (List.getElem?_eq_some_iff.1 hu).1
  have c := fun j hj => World.ownsRow.cellAt h.own (g := g) (n := x.length) (cap := cap) j hj
  rw [Nat.zero_add]
  exact ⟨(c (i * 2) (by omega)).trans h1,u,(c (i * 2 + 1) (by omega)).trans h2,(h.rows _ (List.mem_of_getElem? hu)).rr⟩
theorem FS.keep {w w' : World} {B : Nat} {v : Value} {x : List Tv} (h : FS B w v x) (h1 : ∀ g,v.ownBlock = some g → w'.heap[g]? = w.heap[g]?) (h2 : ∀ t ∈ x,∀ g,t.2.1.ownBlock = some g → w'.heap[g]? = w.heap[g]?) : FS B w' v x :=
 ⟨own_keep h.own h1,fun t ht => own_keep (h.rows t ht) (h2 t ht),h.apart⟩
theorem FS.below {w w' : World} {B : Nat} {v : Value} {x : List Tv} (h : FS B w v x) (hb : Below w.heap.size w w') : FS B w' v x :=
 h.keep (fun g hg => hb.block g (h.own.lt g hg).2) (fun t ht g hg => hb.block g ((h.rows t ht).lt g hg).2)
theorem FS.mono {w : World} {B B' : Nat} {v : Value} {x : List Tv} (h : FS B w v x) (hB : B' ≤ B) : FS B' w v x :=
 ⟨own_mono h.own hB,fun t ht => own_mono (h.rows t ht) hB,h.apart⟩
theorem FS.form {w : World} {B : Nat} {v : Value} {x : List Tv} (h : FS B w v x) (hp : 0 < x.length) : ∃ g cap,v = .slice (some ⟨g,0,none⟩) x.length cap ∧ B ≤ g ∧ g < w.heap.size := h.own.form hp
theorem FS.at_ {w : World} {B g cap : Nat} {x : List Tv} (h : FS B w (.slice (some ⟨g,0,none⟩) x.length cap) x) (i : Nat) (t : Tv) (hi : x[i]? = some t) : w.cell? ⟨g,i * 2,none⟩ = some (.string t.1) ∧ w.cell? ⟨g,i * 2 + 1,none⟩ = some t.2.1 := by
 obtain ⟨h1,h2⟩ := tcs_at x i t hi
 have hl : i < x.length := (List.getElem?_eq_some_iff.1 hi).1
 have c := fun j hj => World.ownsRow.cellAt h.own (g := g) (n := x.length) (cap := cap) j hj
 exact ⟨(c (i * 2) (by omega)).trans h1,(c (i * 2 + 1) (by omega)).trans h2⟩
theorem ty_ne : (37 : TypeId) ≠ 39 := by decide

def lowP {α : Type} (p : α → Bool) (l : List α) : Nat := (l.takeWhile p).length
theorem low_le {α : Type} (p : α → Bool) : ∀ l : List α,lowP p l ≤ l.length
 | [] => Nat.le_refl _
 | a :: t => by
  unfold lowP
  rw [List.takeWhile_cons]
  split
  ·have := low_le p t
   unfold lowP at this
   simp only [List.length_cons]; omega
  ·simp
theorem low_before {α : Type} (p : α → Bool) : ∀ (l : List α) (i : Nat) (x : α),i < lowP p l → l[i]? = some x → p x = true
 | [],i,x,h,_ => by simp [lowP] at h
 | a :: t,i,x,h,hx => by
  unfold lowP at h
  rw [List.takeWhile_cons] at h
  split at h
  ·rename_i ha
   cases i with
   | zero => simp at hx; subst hx; exact ha
   | succ i => exact low_before p t i x (by simpa [lowP] using h) (by simpa using hx)
  ·simp at h
theorem low_at {α : Type} (p : α → Bool) : ∀ (l : List α) (x : α),l[lowP p l]? = some x → p x = false
 | [],x,h => by simp at h
 | a :: t,x,h => by
  unfold lowP at h
  rw [List.takeWhile_cons] at h
  split at h
  ·exact low_at p t x (by simpa [lowP] using h)
  ·rename_i ha; simp at h; subst h; simpa using ha
theorem low_uniq {α : Type} (p : α → Bool) (l : List α) (i : Nat) (hi : i ≤ l.length) (h1 : ∀ t x,t < i → l[t]? = some x → p x = true) (h2 : ∀ x,l[i]? = some x → p x = false) : lowP p l = i := by
 rcases Nat.lt_trichotomy (lowP p l) i with h | h | h
 ·have hl : lowP p l < l.length := by omega
  have := low_at p l _ (List.getElem?_eq_getElem hl)
  rw [h1 _ _ h (List.getElem?_eq_getElem hl)] at this
  cases this
 ·exact h
 ·have hl : i < l.length := by have := low_le p l; omega
  have := h2 _ (List.getElem?_eq_getElem hl)
  rw [low_before p l i _ h (List.getElem?_eq_getElem hl)] at this
  cases this
def MonoP {α : Type} (p : α → Bool) (l : List α) : Prop := ∀ (i j : Nat) (a b : α),i ≤ j → l[i]? = some a → l[j]? = some b → p b = true → p a = true

def upR (l : List Rw) : Prop := ∀ (i j : Nat) (a b : Rw),i < j → l[i]? = some a → l[j]? = some b → a.1 < b.1
def ltK (k : Int) (r : Rw) : Bool := decide (r.1 < k)
theorem upR_mono {l : List Rw} (h : upR l) (k : Int) : MonoP (ltK k) l := by
 intro i j a b hij ha hb hp
 have hb2 := of_decide_eq_true hp
 rcases Nat.lt_or_ge i j with h1 | h1
 ·have := h i j a b h1 ha hb
  exact decide_eq_true (by omega)
 ·have : i = j := by omega
  subst this
  rw [ha] at hb; injection hb with hb; subst hb; exact hp
def lowR (l : List Rw) (k : Int) : Nat := lowP (ltK k) l
def hasR (l : List Rw) (k : Int) : Bool := match l[lowR l k]? with | some r => r.1 == k | none => false
def insR (l : List Rw) (k v : Int) : List Rw := l.take (lowR l k) ++ (k,v) :: l.drop (lowR l k)
def putR (l : List Rw) (k v : Int) : List Rw × Int :=
 if hasR l k = true then (l.set (lowR l k) (k,v),0) else if 64 ≤ l.length then (l,11) else (insR l k v,0)
def addR (l : List Rw) (k : Int) : List Rw × Int :=
 match l[lowR l k]? with
 | some r => if r.1 = k then (if 999999 ≤ r.2 then (l,2) else (l.set (lowR l k) (k,r.2 + 1),0)) else (l,0)
 | none => (l,0)
def meantB (kd : Bool) (k : Int) (r : Rw) : Bool := !kd || r.1 == k
def getR (kd : Bool) (k : Int) (l : List Rw) : List Rw := l.filter (meantB kd k)
def delR (kd : Bool) (k : Int) (l : List Rw) : List Rw := l.filter fun r => !meantB kd k r
def upN (s : List Tb) : Prop := ∀ (i j : Nat) (a b : Tb),i < j → s[i]? = some a → s[j]? = some b → a.1.data.toList < b.1.data.toList
def ltN (n : ByteArray) (t : Tb) : Bool := decide (t.1.data.toList < n.data.toList)
theorem upN_mono {s : List Tb} (h : upN s) (n : ByteArray) : MonoP (ltN n) s := by
 intro i j a b hij ha hb hp
 have hb2 := of_decide_eq_true hp
 rcases Nat.lt_or_ge i j with h1 | h1
 ·have := h i j a b h1 ha hb
  exact decide_eq_true (List.lt_trans this hb2)
 ·have : i = j := by omega
  subst this
  rw [ha] at hb; injection hb with hb; subst hb; exact hp
def lowT (s : List Tb) (n : ByteArray) : Nat := lowP (ltN n) s
def madeS (s : List Tb) (n : ByteArray) : List Tb := s.take (lowT s n) ++ (n,[]) :: s.drop (lowT s n)
def findN : List Tb → ByteArray → Nat → Int
 | [],_,_ => -1
 | t :: r,n,i => if (t.1.toList == n.toList) = true then (i : Int) else findN r n (i + 1)
theorem find_some : ∀ (s : List Tb) (n : ByteArray) (i : Nat),(findN s n i = -1 ∧ ∀ t ∈ s,t.1 ≠ n) ∨ ∃ k t,findN s n i = ((i + k : Nat) : Int) ∧ s[k]? = some t ∧ t.1 = n ∧ ∀ j u,j < k → s[j]? = some u → u.1 ≠ n
 | [],n,i => .inl ⟨rfl,fun t h => by simp at h⟩
 | t :: r,n,i => by
  rw [findN]
  by_cases h : (t.1.toList == n.toList) = true
  ·rw [if_pos h]
   refine .inr ⟨0,t,by simp,rfl,?_,fun j u hj => by omega⟩
   rw [beq_iff_eq,Lib.toList_data,Lib.toList_data] at h
   apply ByteArray.ext; exact Array.toList_inj.1 h
  ·rw [if_neg h]
   have hne : t.1 ≠ n := fun e => h (by rw [e]; simp)
   rcases find_some r n (i + 1) with ⟨h1,h2⟩ | ⟨k,u,h1,h2,h3,h4⟩
   ·refine .inl ⟨h1,fun x hx => ?_⟩
    rcases List.mem_cons.1 hx with rfl | hx
    ·exact hne
    ·exact h2 x hx
   ·refine .inr ⟨k + 1,u,by rw [h1]; congr 1; omega,by simpa using h2,h3,fun j x hj hx => ?_⟩
    cases j with
    | zero => simp at hx; subst hx; exact hne
    | succ j => exact h4 j x (by omega) (by simpa using hx)
def chgR (kd : Int) (K V : Int) (kb : Bool) (l : List Rw) : List Rw × Int :=
 if kd = 2 then putR l K V else if kd = 3 then addR l K else (delR kb K l,0)
def doS (s : List Tb) (kd : Int) (n : ByteArray) (K V : Int) (kb : Bool) : List Tb × List Rw × Int :=
 if kd = 5 then (if 0 ≤ findN s n 0 then (s,[],9) else if 16 ≤ s.length then (s,[],11) else (madeS s n,[],0))
 else if findN s n 0 < 0 then (s,[],8)
 else match s[(findN s n 0).toNat]? with
  | some t => if kd = 1 then (s,getR kb K t.2,0) else (s.set (findN s n 0).toNat (t.1,(chgR kd K V kb t.2).1),[],(chgR kd K V kb t.2).2)
  | none => (s,[],8)

def inI (n : Int) : Prop := 0 ≤ n ∧ n ≤ 999999
structure RowsP (l : List Rw) : Prop where
 len : l.length ≤ 64
 up : upR l
 ins : ∀ r ∈ l,inI r.1 ∧ inI r.2
structure StateP (s : List Tb) : Prop where
 len : s.length ≤ 16
 up : upN s
 each : ∀ t ∈ s,0 < t.1.size ∧ t.1.size ≤ 30 ∧ RowsP t.2
theorem upR_set {l : List Rw} (h : upR l) (i : Nat) (r : Rw) (hr : l[i]? = some r) (v : Int) : upR (l.set i (r.1,v)) := by
 intro a b x y hab hx hy
 rw [List.getElem?_set] at hx hy
 have hl : i < l.length := (List.getElem?_eq_some_iff.1 hr).1
 split at hx
 ·rename_i e; subst e
  try rw [if_pos hl] at hx
  injection hx with hx; subst hx
  rw [if_neg (by omega)] at hy
  have z := h _ _ r _ hab hr hy
  exact z
 ·split at hy
  ·rename_i e; subst e
   try rw [if_pos hl] at hy
   injection hy with hy; subst hy
   have z := h _ _ _ r hab hx hr
   exact z
  ·exact h _ _ _ _ hab hx hy
theorem has_at {l : List Rw} {k : Int} (h : hasR l k = true) : ∃ r,l[lowR l k]? = some r ∧ r.1 = k := by
 unfold hasR at h
 split at h
 ·rename_i r hr; exact ⟨r,hr,by simpa using h⟩
 ·cases h
theorem has_not {l : List Rw} {k : Int} (h : hasR l k = false) (hu : upR l) : ∀ (i : Nat) (r : Rw),l[i]? = some r → (i < lowR l k → r.1 < k) ∧ (lowR l k ≤ i → k < r.1) := by
 intro i r hr
 refine ⟨fun h1 => of_decide_eq_true (low_before (ltK k) l i r h1 hr),fun h1 => ?_⟩
 have hil : i < l.length := (List.getElem?_eq_some_iff.1 hr).1
 have hlow : lowR l k < l.length := by omega
 have h2 := low_at (ltK k) l _ (List.getElem?_eq_getElem hlow)
 have h3 := of_decide_eq_false h2
 unfold hasR at h
 rw [List.getElem?_eq_getElem hlow] at h
 simp only at h
 have h4 : l[lowR l k].1 ≠ k := fun e => by rw [e] at h; simp at h
 have h5 : k < l[lowR l k].1 := by
  have : ¬ (l[lowR l k].1 < k) := h3
  omega
 rcases Nat.lt_or_ge (lowR l k) i with h6 | h6
 ·have := hu _ _ _ _ h6 (List.getElem?_eq_getElem hlow) hr; omega
 ·have : i = lowR l k := by omega
  subst this
  rw [List.getElem?_eq_getElem hlow] at hr; injection hr with hr; subst hr; exact h5
theorem ins_at {α : Type} (l : List α) (n : Nat) (x : α) (hn : n ≤ l.length) (i : Nat) : (l.take n ++ x :: l.drop n)[i]? = if i < n then l[i]? else if i = n then some x else l[i - 1]? := by
 have ht : (l.take n).length = n := by rw [List.length_take]; omega
 rw [List.getElem?_append,ht]
 split
 ·rename_i h; rw [List.getElem?_take,if_pos h]
 ·rename_i h
  split
  ·rename_i e; subst e; simp
  ·rename_i e
   obtain ⟨d,rfl⟩ : ∃ d,i = n + 1 + d := ⟨i - n - 1,by omega⟩
   rw [show n + 1 + d - n = d + 1 by omega,List.getElem?_cons_succ,List.getElem?_drop]
   congr 1; omega
theorem upR_ins {l : List Rw} {k : Int} (h : hasR l k = false) (hu : upR l) (v : Int) : upR (insR l k v) := by
 have hh := has_not h hu
 have hle : lowR l k ≤ l.length := low_le (ltK k) l
 intro a b x y hab hx hy
 unfold insR at hx hy
 rw [ins_at l _ _ hle] at hx hy
 split at hx
 ·rename_i h1
  split at hy
  ·exact hu _ _ _ _ hab hx hy
  ·split at hy
   ·injection hy with hy; subst hy; exact (hh a x hx).1 h1
   ·have h2 := (hh a x hx).1 h1
    have h3 := (hh _ y hy).2 (by omega)
    omega
 ·split at hx
  ·injection hx with hx; subst hx
   rw [if_neg (by omega),if_neg (by omega)] at hy
   exact (hh _ y hy).2 (by omega)
  ·rw [if_neg (by omega),if_neg (by omega)] at hy
   exact hu _ _ _ _ (by omega) hx hy
theorem mem_set {α : Type} {l : List α} {i : Nat} {x y : α} (h : y ∈ l.set i x) : y = x ∨ y ∈ l := by
 rcases List.mem_or_eq_of_mem_set h with h | h
 ·exact .inr h
 ·exact .inl h
theorem put_right {l : List Rw} {k v : Int} (h : RowsP l) (hk : inI k) (hv : inI v) : RowsP (putR l k v).1 := by
 unfold putR
 by_cases hc : hasR l k = true
 ·rw [if_pos hc]
  obtain ⟨r,hr,rfl⟩ := has_at hc
  refine ⟨by rw [List.length_set]; exact h.len,upR_set h.up _ r hr v,fun x hx => ?_⟩
  rcases mem_set hx with rfl | hx
  ·exact ⟨hk,hv⟩
  ·exact h.ins x hx
 ·rw [if_neg hc]
  by_cases h64 : 64 ≤ l.length
  ·rw [if_pos h64]; exact h
  ·rw [if_neg h64]
   have hle := low_le (ltK k) l
   refine ⟨?_,upR_ins (by simpa using hc) h.up v,fun x hx => ?_⟩
   ·show (insR l k v).length ≤ 64
    unfold insR
    rw [List.length_append,List.length_cons,List.length_take,List.length_drop]
    unfold lowR; omega
   ·unfold insR at hx
    rcases List.mem_append.1 hx with hx | hx
    ·exact h.ins x (List.mem_of_mem_take hx)
    ·rcases List.mem_cons.1 hx with rfl | hx
     ·exact ⟨hk,hv⟩
     ·exact h.ins x (List.mem_of_mem_drop hx)
theorem add_right {l : List Rw} {k : Int} (h : RowsP l) : RowsP (addR l k).1 := by
 unfold addR
 split
 ·rename_i r hr
  by_cases hk : r.1 = k
  ·rw [if_pos hk]
   by_cases h9 : 999999 ≤ r.2
   ·rw [if_pos h9]; exact h
   ·rw [if_neg h9]
    have hri := h.ins r (List.mem_of_getElem? hr)
    subst hk
    refine ⟨by rw [List.length_set]; exact h.len,upR_set h.up _ r hr _,fun x hx => ?_⟩
    rcases mem_set hx with rfl | hx
    ·exact ⟨hri.1,by have := hri.2.1; unfold inI; omega⟩
    ·exact h.ins x hx
  ·rw [if_neg hk]; exact h
 ·exact h
theorem filter_up {l : List Rw} (q : Rw → Bool) (h : upR l) : upR (l.filter q) := by
 have hp : l.Pairwise (fun a b => a.1 < b.1) := by
  rw [List.pairwise_iff_getElem]
  intro i j hi hj hij
  exact h i j _ _ hij (List.getElem?_eq_getElem hi) (List.getElem?_eq_getElem hj)
 have hq := hp.filter q
 rw [List.pairwise_iff_getElem] at hq
 intro i j a b hij ha hb
 obtain ⟨hi,rfl⟩ := List.getElem?_eq_some_iff.1 ha
 obtain ⟨hj,rfl⟩ := List.getElem?_eq_some_iff.1 hb
 exact hq i j hi hj hij
theorem filter_right {l : List Rw} (q : Rw → Bool) (h : RowsP l) : RowsP (l.filter q) :=
 ⟨Nat.le_trans (List.length_filter_le _ _) h.len,filter_up q h.up,fun r hr => h.ins r (List.mem_filter.1 hr).1⟩
theorem chg_right {l : List Rw} {kd K V : Int} {kb : Bool} (h : RowsP l) (hk : inI K) (hv : inI V) : RowsP (chgR kd K V kb l).1 := by
 unfold chgR
 split
 ·exact put_right h hk hv
 ·split
  ·exact add_right h
  ·exact filter_right _ h
theorem upN_set {s : List Tb} (h : upN s) (i : Nat) (t : Tb) (ht : s[i]? = some t) (l : List Rw) : upN (s.set i (t.1,l)) := by
 intro a b x y hab hx hy
 rw [List.getElem?_set] at hx hy
 have hl : i < s.length := (List.getElem?_eq_some_iff.1 ht).1
 split at hx
 ·rename_i e; subst e
  try rw [if_pos hl] at hx
  injection hx with hx; subst hx
  rw [if_neg (by omega)] at hy
  have z := h _ _ t _ hab ht hy
  exact z
 ·split at hy
  ·rename_i e; subst e
   try rw [if_pos hl] at hy
   injection hy with hy; subst hy
   have z := h _ _ _ t hab hx ht
   exact z
  ·exact h _ _ _ _ hab hx hy
theorem lt_tri (a b : List UInt8) (h1 : ¬ a < b) (h2 : a ≠ b) : b < a := by
 rcases Decidable.em (b < a) with h | h
 ·exact h
 ·exact absurd (List.le_antisymm (List.not_lt.1 h) (List.not_lt.1 h1)) h2
theorem not_in {s : List Tb} {n : ByteArray} (h : ∀ t ∈ s,t.1 ≠ n) (hu : upN s) : ∀ (i : Nat) (t : Tb),s[i]? = some t → (i < lowT s n → t.1.data.toList < n.data.toList) ∧ (lowT s n ≤ i → n.data.toList < t.1.data.toList) := by
 intro i t ht
 refine ⟨fun h1 => of_decide_eq_true (low_before (ltN n) s i t h1 ht),fun h1 => ?_⟩
 have hil : i < s.length := (List.getElem?_eq_some_iff.1 ht).1
 have hlow : lowT s n < s.length := by omega
 have h2 := of_decide_eq_false (low_at (ltN n) s _ (List.getElem?_eq_getElem hlow))
 have h4 : s[lowT s n].1.data.toList ≠ n.data.toList := fun e => h _ (List.getElem_mem hlow) (by apply ByteArray.ext; exact Array.toList_inj.1 e)
 have h5 : n.data.toList < s[lowT s n].1.data.toList := lt_tri _ _ h2 h4
 rcases Nat.lt_or_ge (lowT s n) i with h6 | h6
 ·exact List.lt_trans h5 (hu _ _ _ _ h6 (List.getElem?_eq_getElem hlow) ht)
 ·have : i = lowT s n := by omega
  subst this
  rw [List.getElem?_eq_getElem hlow] at ht; injection ht with ht; subst ht; exact h5
theorem upN_made {s : List Tb} {n : ByteArray} (h : ∀ t ∈ s,t.1 ≠ n) (hu : upN s) (l : List Rw) : upN (s.take (lowT s n) ++ (n,l) :: s.drop (lowT s n)) := by
 have hh := not_in h hu
 have hle : lowT s n ≤ s.length := low_le (ltN n) s
 intro a b x y hab hx hy
 rw [ins_at s _ _ hle] at hx hy
 split at hx
 ·rename_i h1
  split at hy
  ·exact hu _ _ _ _ hab hx hy
  ·split at hy
   ·injection hy with hy; subst hy; exact (hh a x hx).1 h1
   ·exact List.lt_trans ((hh a x hx).1 h1) ((hh _ y hy).2 (by omega))
 ·split at hx
  ·injection hx with hx; subst hx
   rw [if_neg (by omega),if_neg (by omega)] at hy
   exact (hh _ y hy).2 (by omega)
  ·rw [if_neg (by omega),if_neg (by omega)] at hy
   exact hu _ _ _ _ (by omega) hx hy
theorem find_neg {s : List Tb} {n : ByteArray} (h : findN s n 0 < 0) : ∀ t ∈ s,t.1 ≠ n := by
 rcases find_some s n 0 with ⟨_,h2⟩ | ⟨k,t,h1,_⟩
 ·exact h2
 ·omega
theorem find_pos {s : List Tb} {n : ByteArray} (h : 0 ≤ findN s n 0) : ∃ t,s[(findN s n 0).toNat]? = some t ∧ t.1 = n ∧ (findN s n 0).toNat < s.length := by
 rcases find_some s n 0 with ⟨h1,h2⟩ | ⟨k,t,h1,h2,h3,_⟩
 ·omega
 ·have e : (findN s n 0).toNat = k := by omega
  rw [e]
  exact ⟨t,h2,h3,(List.getElem?_eq_some_iff.1 h2).1⟩
theorem right_set {s : List Tb} (h : StateP s) (i : Nat) (t : Tb) (ht : s[i]? = some t) (l : List Rw) (hl : RowsP l) : StateP (s.set i (t.1,l)) := by
 have hm := h.each t (List.mem_of_getElem? ht)
 refine ⟨by rw [List.length_set]; exact h.len,upN_set h.up i t ht l,fun x hx => ?_⟩
 rcases mem_set hx with rfl | hx
 ·exact ⟨hm.1,hm.2.1,hl⟩
 ·exact h.each x hx
theorem do_right {s : List Tb} {kd K V : Int} {n : ByteArray} {kb : Bool} (h : StateP s) (hn : 0 < n.size ∧ n.size ≤ 30) (hk : inI K) (hv : inI V) : StateP (doS s kd n K V kb).1 := by
 unfold doS
 split
 ·split
  ·exact h
  ·rename_i hf
   split
   ·exact h
   ·rename_i hl
    have hle : lowT s n ≤ s.length := low_le (ltN n) s
    refine ⟨?_,upN_made (find_neg (by omega)) h.up [],fun t ht => ?_⟩
    ·show (madeS s n).length ≤ 16
     unfold madeS
     rw [List.length_append,List.length_cons,List.length_take,List.length_drop]; omega
    ·change t ∈ madeS s n at ht
     unfold madeS at ht
     rcases List.mem_append.1 ht with ht | ht
     ·exact h.each t (List.mem_of_mem_take ht)
     ·rcases List.mem_cons.1 ht with rfl | ht
      ·exact ⟨hn.1,hn.2,⟨by simp,fun i j a b _ ha => by simp at ha,fun r hr => by simp at hr⟩⟩
      ·exact h.each t (List.mem_of_mem_drop ht)
 ·split
  ·exact h
  ·split
   ·rename_i t ht
    split
    ·exact h
    ·exact right_set h _ t ht _ (chg_right (h.each t (List.mem_of_getElem? ht)).2.2 hk hv)
   ·exact h

theorem cmpI_lt {a b : Int} (h : a < b) : Lib.compareInt a b = -1 := by unfold Lib.compareInt; rw [if_pos h]
theorem cmpI_eq {a b : Int} (h : a = b) : Lib.compareInt a b = 0 := by unfold Lib.compareInt; rw [if_neg (by omega),if_neg (by omega)]
theorem cmpI_gt {a b : Int} (h : b < a) : Lib.compareInt a b = 1 := by unfold Lib.compareInt; rw [if_neg (by omega),if_pos h]
theorem cmpB : ∀ a b : List UInt8,(a < b → Lib.compareBytes a b = -1) ∧ (a = b → Lib.compareBytes a b = 0) ∧ (b < a → Lib.compareBytes a b = 1)
 | [],[] => ⟨fun h => absurd h (List.lt_irrefl _),fun _ => rfl,fun h => absurd h (List.lt_irrefl _)⟩
 | [],y :: t => ⟨fun _ => rfl,(fun h => by cases h),fun h => absurd h (List.not_lt_nil _)⟩
 | x :: r,[] => ⟨fun h => absurd h (List.not_lt_nil _),(fun h => by cases h),fun _ => rfl⟩
 | x :: r,y :: t => by
  obtain ⟨i1,i2,i3⟩ := cmpB r t
  unfold Lib.compareBytes
  refine ⟨fun h => ?_,fun h => ?_,fun h => ?_⟩
  ·rcases List.cons_lt_cons_iff.1 h with h | ⟨h,h2⟩
   ·rw [if_pos h]
   ·subst h; rw [if_neg (UInt8.lt_irrefl _),if_neg (UInt8.lt_irrefl _)]; exact i1 h2
  ·injection h with h1 h2
   subst h1; rw [if_neg (UInt8.lt_irrefl _),if_neg (UInt8.lt_irrefl _)]; exact i2 h2
  ·rcases List.cons_lt_cons_iff.1 h with h | ⟨h,h2⟩
   ·rw [if_neg (UInt8.lt_asymm h),if_pos h]
   ·subst h; rw [if_neg (UInt8.lt_irrefl _),if_neg (UInt8.lt_irrefl _)]; exact i3 h2
theorem rcmp_any (r0 r1 k : Int) (w : World) : Calls Tryz.prog 128 #[.agg #[.int .i64 r0,.int .i64 r1],.int .i64 k] w fun e w' => e = .returned (.int .i64 (Lib.compareInt r0 k)) ∧ Below w.heap.size w w' := by
 have HC := Lib.hid (fun W => Tryz.cmp_Compare_int r0 k W)
 have HB := Lib.hid ((Below.refl w.heap.size w).alloc (Nat.le_refl _) (.cells #[.int .i64 r0,.int .i64 r1] 39))
 go_enter Tryz.func128,Tryz.ntmps128
 go_wp2_with (go_at_call 129; (refine (HC.out _).mono ?_); rintro e w2 ⟨rfl,hw⟩; obtain rfl := hw)
 go_ret
 exact ⟨rfl,HB.out⟩
theorem tcmp_any (n : ByteArray) (u : Value) (m : ByteArray) (w : World) : Calls Tryz.prog 89 #[.agg #[.string n,u],.string m] w fun e w' => e = .returned (.int .i64 (Lib.compareBytes n.data.toList m.data.toList)) ∧ Below w.heap.size w w' := by
 have HC := Lib.hid (fun W => Tryz.strings_Compare n m W)
 have HB := Lib.hid ((Below.refl w.heap.size w).alloc (Nat.le_refl _) (.cells #[.string n,u] 37))
 go_enter Tryz.func89,Tryz.ntmps89
 go_wp2_with (go_at_call 90; (refine (HC.out _).mono ?_); rintro e w2 ⟨rfl,hw⟩; obtain rfl := hw)
 go_ret
 exact ⟨rfl,HB.out⟩
set_option maxHeartbeats 4000000 in
theorem rsearch_any (v : Value) (l : List Rw) (k : Int) (w : World) (h : RR w v l) (hm : MonoP (ltK k) l) (hl : l.length ≤ 1000000) :
  Calls Tryz.prog 127 #[v,.int .i64 k,.func (.func 128) #[] #[]] w fun e w' => e = .returned (.tuple #[.int .i64 (lowR l k : Nat),.bool (hasR l k)]) ∧ Below w.heap.size w w' := by
 obtain ⟨R,hR⟩ : ∃ R,lowR l k = R := ⟨_,rfl⟩
 obtain ⟨F,hF⟩ : ∃ F,hasR l k = F := ⟨_,rfl⟩
 rw [hR,hF]
 obtain ⟨a,cap,rfl⟩ := h.form
 have HH := Lib.hid h
 have HM := Lib.hid hm
 have HR := Lib.hid hR
 have HF := Lib.hid hF
 clear h hm hR hF
 have henter : ∀ args w,(callFunc 128 args).run Tryz.prog w = .ok (.enter 128 args) w := fun args w => by show Sem.run Tryz.prog (callFunc 128 args) w = _; go_simp
 go_enter Tryz.func127,Tryz.ntmps127
 go_wp2
 go_loopg [9,10] l.length (fun gk u9 u10 wx => ∃ lo hi : Nat,u9 = .int .i64 (lo : Int) ∧ u10 = .int .i64 (hi : Int) ∧ lo ≤ hi ∧ hi ≤ l.length ∧ hi - lo ≤ gk ∧ Hid (Below w.heap.size w wx) ∧ Hid ((∀ (t : Nat) (x : Rw),t < lo → l[t]? = some x → ltK k x = true) ∧ (∀ (t : Nat) (x : Rw),hi ≤ t → l[t]? = some x → ltK k x = false)))
 case atStart => exact ⟨0,l.length,rfl,rfl,Nat.zero_le _,Nat.le_refl _,by omega,Below.refl _ _,⟨fun t x ht => absurd ht (Nat.not_lt_zero _),fun t x h1 h2 => by have := (List.getElem?_eq_some_iff.1 h2).1; omega⟩⟩
 case round =>
  obtain ⟨lo,hi,rfl,rfl,hlh,hin,hg,HB,I⟩ := hrel
  by_cases hlt : lo < hi
  ·obtain ⟨m,hmid⟩ : ∃ m,(lo + hi) / 2 = m := ⟨_,rfl⟩
   have hml : m < l.length := by omega
   have hRR := HH.out.below HB.out
   obtain ⟨b,o,cp,he,hcp,hx⟩ := hRR.inv (by omega)
   injection he with ea _ ec
   subst ea ec
   obtain ⟨r,hr0⟩ : ∃ r,l[m] = r := ⟨_,rfl⟩
   have hrm : l[m]? = some r := by rw [List.getElem?_eq_getElem hml,hr0]
   obtain ⟨x0,x1⟩ := hx m r hrm
   have wm : ((lo : Int) + (hi : Int)) / 2 = (m : Int) := by omega
   have HM2 := Lib.hid hrm
   have HMID := Lib.hid hmid
   have l0 : (0 : Int) ≤ (m : Int) := by omega
   have l1 : (m : Int) < (l.length : Int) := by omega
   obtain ⟨r0,r1⟩ := r
   have HC := Lib.hid (rcmp_any r0 r1 k wr)
   obtain ⟨m1,hm1⟩ : ∃ m1,m + 1 = m1 := ⟨_,rfl⟩
   have wk : IntKind.i64.wrap ((m : Int) + 1) = (m1 : Int) := by rw [show (m : Int) + 1 = (m1 : Int) by omega]; exact IntWalk.i64_in _ (by omega)
   have HM1 := Lib.hid hm1
   clear hx hrm hRR hmid hr0 hml hm1
   by_cases hc : r0 < k
   ·have hq := cmpI_lt hc
    rw [hq] at HC
    have HCC := Lib.hid hc
    clear hc hq
    go_wp2_with (go_at_call 128; (refine HC.out.mono ?_); rintro e w2 ⟨rfl,hb2⟩; have HB2 := Lib.hid hb2; clear hb2)
    go_roundg (hi - m1)
    case measure => have := HMID.out; have := HM1.out; omega
    case rel =>
     have e1 := HMID.out
     have e2 := HM1.out
     refine ⟨m1,hi,rfl,rfl,by omega,hin,by omega,HB.out.trans (HB2.out.mono HB.out.size),fun t x ht hx => ?_,I.out.2⟩
     exact HM.out t m x _ (by omega) hx HM2.out (decide_eq_true HCC.out)
   ·have hq : Lib.compareInt r0 k = 0 ∨ Lib.compareInt r0 k = 1 := by
     rcases Int.lt_trichotomy r0 k with h | h | h
     ·exact absurd h hc
     ·exact .inl (cmpI_eq h)
     ·exact .inr (cmpI_gt h)
    have HCC := Lib.hid hc
    clear hc
    rcases hq with hq | hq
    all_goals
     rw [hq] at HC
     clear hq
     go_wp2_with (go_at_call 128; (refine HC.out.mono ?_); rintro e w2 ⟨rfl,hb2⟩; have HB2 := Lib.hid hb2; clear hb2)
     go_roundg (m - lo)
     case measure => have := HMID.out; omega
     case rel =>
      have e1 := HMID.out
      refine ⟨lo,m,rfl,rfl,by omega,by omega,Nat.le_refl _,HB.out.trans (HB2.out.mono HB.out.size),I.out.1,fun t x ht hx => ?_⟩
      cases hp : ltK k x with
      | false => rfl
      | true =>
       have := HM.out m t _ x ht HM2.out hx hp
       have h1 : r0 < k := of_decide_eq_true this
       have h2 := HCC.out
       omega
  ·obtain rfl : hi = lo := by omega
   have hRe : R = hi := by
    rw [← HR.out]
    exact low_uniq (ltK k) l hi hin I.out.1 (fun x hx => I.out.2 hi x (Nat.le_refl _) hx)
   subst hRe
   by_cases hn : R < l.length
   ·have hRR := HH.out.below HB.out
    obtain ⟨b,o,cp,he,hcp,hx⟩ := hRR.inv (by omega)
    injection he with ea _ ec
    subst ea ec
    obtain ⟨r,hr0⟩ : ∃ r,l[R] = r := ⟨_,rfl⟩
    have hrm : l[R]? = some r := by rw [List.getElem?_eq_getElem hn,hr0]
    obtain ⟨x0,x1⟩ := hx R r hrm
    have hf : F = (r.1 == k) := by
     rw [← HF.out]; unfold hasR; rw [HR.out,hrm]
    obtain ⟨r0,r1⟩ := r
    have HC := Lib.hid (fun W => rcmp_any r0 r1 k W)
    clear hx hrm hRR hr0
    simp only at hf
    have l0 : (0 : Int) ≤ (R : Int) := by omega
    have l1 : (R : Int) < (l.length : Int) := by omega
    by_cases hc : r0 = k
    ·have hq := cmpI_eq hc
     rw [hq] at HC
     have hF2 : F = true := by rw [hf,hc]; simp
     subst hF2
     clear hc hq hf
     go_wp2_with (go_at_call 128; (refine (HC.out _).mono ?_); rintro e w2 ⟨rfl,hb2⟩; have HB2 := Lib.hid (HB.out.trans (hb2.mono HB.out.size)); clear hb2)
     go_ret2
     exact ⟨rfl,HB2.out⟩
    ·have hq : Lib.compareInt r0 k = -1 ∨ Lib.compareInt r0 k = 1 := by
      rcases Int.lt_trichotomy r0 k with h | h | h
      ·exact .inl (cmpI_lt h)
      ·exact absurd h hc
      ·exact .inr (cmpI_gt h)
     have hF2 : F = false := by rw [hf,beq_eq_false_iff_ne]; exact hc
     subst hF2
     clear hc hf
     rcases hq with hq | hq
     all_goals
      rw [hq] at HC
      clear hq
      go_wp2_with (go_at_call 128; (refine (HC.out _).mono ?_); rintro e w2 ⟨rfl,hb2⟩; have HB2 := Lib.hid (HB.out.trans (hb2.mono HB.out.size)); clear hb2)
      go_ret2
      exact ⟨rfl,HB2.out⟩
   ·have hF2 : F = false := by
     rw [← HF.out]; unfold hasR; rw [HR.out,List.getElem?_eq_none (by omega)]
    subst hF2
    go_wp2
    go_ret2
    exact ⟨rfl,HB.out⟩
def hasT (s : List Tb) (n : ByteArray) : Bool := match s[lowT s n]? with | some t => decide (t.1.data.toList = n.data.toList) | none => false
set_option maxHeartbeats 4000000 in
theorem tsearch_any (v : Value) (l : List Tb) (k : ByteArray) (w : World) (h : SR w v l) (hm : MonoP (ltN k) l) (hl : l.length ≤ 1000000) :
  Calls Tryz.prog 88 #[v,.string k,.func (.func 89) #[] #[]] w fun e w' => e = .returned (.tuple #[.int .i64 (lowT l k : Nat),.bool (hasT l k)]) ∧ Below w.heap.size w w' := by
 obtain ⟨R,hR⟩ : ∃ R,lowT l k = R := ⟨_,rfl⟩
 obtain ⟨F,hF⟩ : ∃ F,hasT l k = F := ⟨_,rfl⟩
 rw [hR,hF]
 obtain ⟨a,cap,rfl⟩ := h.form
 have HH := Lib.hid h
 have HM := Lib.hid hm
 have HR := Lib.hid hR
 have HF := Lib.hid hF
 clear h hm hR hF
 have henter : ∀ args w,(callFunc 89 args).run Tryz.prog w = .ok (.enter 89 args) w := fun args w => by show Sem.run Tryz.prog (callFunc 89 args) w = _; go_simp
 go_enter Tryz.func88,Tryz.ntmps88
 go_wp2
 go_loopg [9,10] l.length (fun gk u9 u10 wx => ∃ lo hi : Nat,u9 = .int .i64 (lo : Int) ∧ u10 = .int .i64 (hi : Int) ∧ lo ≤ hi ∧ hi ≤ l.length ∧ hi - lo ≤ gk ∧ Hid (Below w.heap.size w wx) ∧ Hid ((∀ (t : Nat) (x : Tb),t < lo → l[t]? = some x → ltN k x = true) ∧ (∀ (t : Nat) (x : Tb),hi ≤ t → l[t]? = some x → ltN k x = false)))
 case atStart => exact ⟨0,l.length,rfl,rfl,Nat.zero_le _,Nat.le_refl _,by omega,Below.refl _ _,⟨fun t x ht => absurd ht (Nat.not_lt_zero _),fun t x h1 h2 => by have := (List.getElem?_eq_some_iff.1 h2).1; omega⟩⟩
 case round =>
  obtain ⟨lo,hi,rfl,rfl,hlh,hin,hg,HB,I⟩ := hrel
  by_cases hlt : lo < hi
  ·obtain ⟨m,hmid⟩ : ∃ m,(lo + hi) / 2 = m := ⟨_,rfl⟩
   have hml : m < l.length := by omega
   have hRR := HH.out.below HB.out
   obtain ⟨b,o,cp,he,hcp,hx⟩ := hRR.inv (by omega)
   injection he with ea _ ec
   subst ea ec
   obtain ⟨r,hr0⟩ : ∃ r,l[m] = r := ⟨_,rfl⟩
   have hrm : l[m]? = some r := by rw [List.getElem?_eq_getElem hml,hr0]
   obtain ⟨x0,u,x1,hu⟩ := hx m r hrm
   have wm : ((lo : Int) + (hi : Int)) / 2 = (m : Int) := by omega
   have HM2 := Lib.hid hrm
   have HMID := Lib.hid hmid
   have l0 : (0 : Int) ≤ (m : Int) := by omega
   have l1 : (m : Int) < (l.length : Int) := by omega
   obtain ⟨r0,r1⟩ := r
   have HC := Lib.hid (tcmp_any r0 u k wr)
   obtain ⟨m1,hm1⟩ : ∃ m1,m + 1 = m1 := ⟨_,rfl⟩
   have wk : IntKind.i64.wrap ((m : Int) + 1) = (m1 : Int) := by rw [show (m : Int) + 1 = (m1 : Int) by omega]; exact IntWalk.i64_in _ (by omega)
   have HM1 := Lib.hid hm1
   clear hu hx hrm hRR hmid hr0 hml hm1
   by_cases hc : r0.data.toList < k.data.toList
   ·have hq := (cmpB _ _).1 hc
    rw [hq] at HC
    have HCC := Lib.hid hc
    clear hc hq
    go_wp2_with (go_at_call 89; (refine HC.out.mono ?_); rintro e w2 ⟨rfl,hb2⟩; have HB2 := Lib.hid hb2; clear hb2)
    go_roundg (hi - m1)
    case measure => have := HMID.out; have := HM1.out; omega
    case rel =>
     have e1 := HMID.out
     have e2 := HM1.out
     refine ⟨m1,hi,rfl,rfl,by omega,hin,by omega,HB.out.trans (HB2.out.mono HB.out.size),fun t x ht hx => ?_,I.out.2⟩
     exact HM.out t m x _ (by omega) hx HM2.out (decide_eq_true HCC.out)
   ·have hq : Lib.compareBytes r0.data.toList k.data.toList = 0 ∨ Lib.compareBytes r0.data.toList k.data.toList = 1 := by
     rcases Decidable.em (r0.data.toList = k.data.toList) with h | h
     ·exact .inl ((cmpB _ _).2.1 h)
     ·exact .inr ((cmpB _ _).2.2 (lt_tri _ _ hc h))
    have HNC : Hid (¬ (r0.data.toList < k.data.toList)) := Lib.hid hc
    clear hc
    rcases hq with hq | hq
    all_goals
     rw [hq] at HC
     clear hq
     go_wp2_with (go_at_call 89; (refine HC.out.mono ?_); rintro e w2 ⟨rfl,hb2⟩; have HB2 := Lib.hid hb2; clear hb2)
     go_roundg (m - lo)
     case measure => have := HMID.out; omega
     case rel =>
      have e1 := HMID.out
      refine ⟨lo,m,rfl,rfl,by omega,by omega,Nat.le_refl _,HB.out.trans (HB2.out.mono HB.out.size),I.out.1,fun t x ht hx => ?_⟩
      cases hp : ltN k x with
      | false => rfl
      | true =>
       have := HM.out m t _ x ht HM2.out hx hp
       exact absurd (of_decide_eq_true this) HNC.out
  ·obtain rfl : hi = lo := by omega
   have hRe : R = hi := by
    rw [← HR.out]
    exact low_uniq (ltN k) l hi hin I.out.1 (fun x hx => I.out.2 hi x (Nat.le_refl _) hx)
   subst hRe
   by_cases hn : R < l.length
   ·have hRR := HH.out.below HB.out
    obtain ⟨b,o,cp,he,hcp,hx⟩ := hRR.inv (by omega)
    injection he with ea _ ec
    subst ea ec
    obtain ⟨r,hr0⟩ : ∃ r,l[R] = r := ⟨_,rfl⟩
    have hrm : l[R]? = some r := by rw [List.getElem?_eq_getElem hn,hr0]
    obtain ⟨x0,u,x1,hu⟩ := hx R r hrm
    have hf : F = decide (r.1.data.toList = k.data.toList) := by
     rw [← HF.out]; unfold hasT; rw [HR.out,hrm]
    obtain ⟨r0,r1⟩ := r
    have HC := Lib.hid (fun W => tcmp_any r0 u k W)
    clear hu hx hrm hRR hr0
    simp only at hf
    have l0 : (0 : Int) ≤ (R : Int) := by omega
    have l1 : (R : Int) < (l.length : Int) := by omega
    by_cases hc : r0.data.toList = k.data.toList
    ·have hq := (cmpB _ _).2.1 hc
     rw [hq] at HC
     have hF2 : F = true := by rw [hf]; exact decide_eq_true hc
     subst hF2
     clear hc hq hf
     go_wp2_with (go_at_call 89; (refine (HC.out _).mono ?_); rintro e w2 ⟨rfl,hb2⟩; have HB2 := Lib.hid (HB.out.trans (hb2.mono HB.out.size)); clear hb2)
     go_ret2
     exact ⟨rfl,HB2.out⟩
    ·have hq : Lib.compareBytes r0.data.toList k.data.toList = -1 ∨ Lib.compareBytes r0.data.toList k.data.toList = 1 := by
      rcases Decidable.em (r0.data.toList < k.data.toList) with h | h
      ·exact .inl ((cmpB _ _).1 h)
      ·exact .inr ((cmpB _ _).2.2 (lt_tri _ _ h hc))
     have hF2 : F = false := by rw [hf]; exact decide_eq_false hc
     subst hF2
     clear hc hf
     rcases hq with hq | hq
     all_goals
      rw [hq] at HC
      clear hq
      go_wp2_with (go_at_call 89; (refine (HC.out _).mono ?_); rintro e w2 ⟨rfl,hb2⟩; have HB2 := Lib.hid (HB.out.trans (hb2.mono HB.out.size)); clear hb2)
      go_ret2
      exact ⟨rfl,HB2.out⟩
   ·have hF2 : F = false := by
     rw [← HF.out]; unfold hasT; rw [HR.out,List.getElem?_eq_none (by omega)]
    subst hF2
    go_wp2
    go_ret2
    exact ⟨rfl,HB.out⟩

theorem set_self {α : Type} : ∀ (l : List α) (i : Nat) (x : α),l[i]? = some x → l.set i x = l
 | [],i,x,h => by simp at h
 | a :: t,0,x,h => by simp at h; subst h; rfl
 | a :: t,i + 1,x,h => by rw [List.set_cons_succ,set_self t i x (by simpa using h)]
theorem filter_one {l : List Rw} (hu : upR l) {i : Nat} {r : Rw} (hr : l[i]? = some r) : getR true r.1 l = [r] := by
 have hi : i < l.length := (List.getElem?_eq_some_iff.1 hr).1
 have e : l = l.take i ++ r :: l.drop (i + 1) := by
  obtain ⟨_,h⟩ := List.getElem?_eq_some_iff.1 hr
  rw [← h,← List.drop_eq_getElem_cons hi,List.take_append_drop]
 have h1 : (l.take i).filter (meantB true r.1) = [] := by
  rw [List.filter_eq_nil_iff]
  intro x hx hp
  obtain ⟨j,hj⟩ := List.getElem?_of_mem hx
  rw [List.getElem?_take] at hj
  split at hj
  ·have := hu _ _ _ _ (by assumption) hj hr
   unfold meantB at hp
   simp at hp
   omega
  ·cases hj
 have h2 : (l.drop (i + 1)).filter (meantB true r.1) = [] := by
  rw [List.filter_eq_nil_iff]
  intro x hx hp
  obtain ⟨j,hj⟩ := List.getElem?_of_mem hx
  rw [List.getElem?_drop] at hj
  have := hu _ _ _ _ (by omega : i < i + 1 + j) hr hj
  unfold meantB at hp
  simp at hp
  omega
 unfold getR
 rw [e,List.filter_append,h1,List.filter_cons,if_pos (by simp [meantB]),h2]
 rfl

def putD (l : List Rw) (k v : Int) : List Rw := l.take (lowR l k) ++ (k,v) :: l.drop (if hasR l k = true then lowR l k + 1 else lowR l k)
theorem set_cut {α : Type} : ∀ (l : List α) (i : Nat) (x : α),i < l.length → l.set i x = l.take i ++ x :: l.drop (i + 1)
 | [],i,x,h => by simp at h
 | a :: t,0,x,_ => rfl
 | a :: t,i + 1,x,h => by rw [List.set_cons_succ,set_cut t i x (by simpa using h)]; rfl
theorem putD_has {l : List Rw} {k v : Int} (h : hasR l k = true) : putD l k v = l.set (lowR l k) (k,v) := by
 obtain ⟨r,hr,_⟩ := has_at h
 unfold putD
 rw [if_pos h,set_cut _ _ _ (List.getElem?_eq_some_iff.1 hr).1]
theorem putD_not {l : List Rw} {k v : Int} (h : ¬ hasR l k = true) : putD l k v = insR l k v := by
 unfold putD insR
 rw [if_neg h]
theorem get_has {l : List Rw} {k : Int} (hu : upR l) (h : hasR l k = true) : ∃ r,l[lowR l k]? = some r ∧ r.1 = k ∧ getR true k l = [r] := by
 obtain ⟨r,hr,rfl⟩ := has_at h
 exact ⟨r,hr,rfl,filter_one hu hr⟩
theorem get_not {l : List Rw} {k : Int} (hu : upR l) (h : hasR l k = false) : getR true k l = [] := by
 unfold getR
 rw [List.filter_eq_nil_iff]
 intro x hx hp
 obtain ⟨i,hi⟩ := List.getElem?_of_mem hx
 have h1 := has_not h hu i x hi
 unfold meantB at hp
 simp at hp
 rcases Nat.lt_or_ge i (lowR l k) with h2 | h2
 ·have := h1.1 h2; omega
 ·have := h1.2 h2; omega
def chgD (kd : Int) (K V : Int) (kb : Bool) (l : List Rw) : List Rw × Int :=
 if kd = 2 then (if getR true K l = [] ∧ 64 ≤ l.length then (l,11) else (putD l K V,0))
 else if kd = 3 then (match getR true K l with | [] => (l,0) | r :: _ => if 999999 ≤ r.2 then (l,2) else (putD l K (r.2 + 1),0))
 else (delR kb K l,0)
theorem chgD_eq {kd K V : Int} {kb : Bool} {l : List Rw} (hu : upR l) : chgD kd K V kb l = chgR kd K V kb l := by
 unfold chgD chgR
 by_cases h2 : kd = 2
 ·rw [if_pos h2,if_pos h2]
  unfold putR
  cases hh : hasR l K with
  | true =>
   obtain ⟨r,_,_,hg⟩ := get_has hu hh
   rw [hg,if_neg (by simp),if_pos rfl,putD_has hh]
  | false =>
   rw [get_not hu hh,if_neg (by decide : ¬ (false = true)),putD_not (by rw [hh]; decide)]
   by_cases h64 : 64 ≤ l.length
   ·rw [if_pos ⟨rfl,h64⟩,if_pos h64]
   ·rw [if_neg (fun h => h64 h.2),if_neg h64]
 ·rw [if_neg h2,if_neg h2]
  by_cases h3 : kd = 3
  ·rw [if_pos h3,if_pos h3]
   unfold addR
   cases hh : hasR l K with
   | true =>
    obtain ⟨r,hr,hk,hg⟩ := get_has hu hh
    rw [hg,hr]
    simp only
    rw [if_pos hk,putD_has hh]
   | false =>
    rw [get_not hu hh]
    simp only
    split
    ·rename_i r hr
     have : r.1 ≠ K := fun e => by
      unfold hasR at hh
      rw [hr] at hh
      simp [e] at hh
     rw [if_neg this]
    ·rfl
  ·rw [if_neg h3,if_neg h3]
theorem up_step {α : Type} {R : α → α → Prop} (ht : ∀ a b c,R a b → R b c → R a c) {l : List α} (h : ∀ (i : Nat) (a b : α),l[i]? = some a → l[i + 1]? = some b → R a b) : ∀ (i j : Nat) (a b : α),i < j → l[i]? = some a → l[j]? = some b → R a b := by
 intro i j
 induction j with
 | zero => intro a b h; omega
 | succ j ih =>
  intro a b hij ha hb
  rcases Nat.lt_or_ge i j with h1 | h1
  ·have hj : j < l.length := by have := (List.getElem?_eq_some_iff.1 hb).1; omega
   exact ht _ _ _ (ih a l[j] h1 ha (List.getElem?_eq_getElem hj)) (h j _ _ (List.getElem?_eq_getElem hj) hb)
  ·have : i = j := by omega
   subst this
   exact h i _ _ ha hb

theorem infoRow : (Tryz.prog.info? 39).map (fun i => (i.zero,i.size,i.bytes)) = some (some (.agg #[.int .i64 0,.int .i64 0]),2,16) := by kernel_rfl
theorem infoTab : (Tryz.prog.info? 37).map (fun i => (i.zero,i.size,i.bytes)) = some (some (.agg #[.string ByteArray.empty,.slice none 0 0]),2,40) := by kernel_rfl
theorem iRow : ∃ i,Tryz.prog.info? 39 = some i ∧ i.zero = some (.agg #[.int .i64 0,.int .i64 0]) ∧ i.size = 2 ∧ i.bytes = 16 := by
 have h := infoRow
 cases e : Tryz.prog.info? 39 with
 | none => rw [e] at h; cases h
 | some i =>
  rw [e] at h
  simp only [Option.map_some,Option.some.injEq,Prod.mk.injEq] at h
  exact ⟨i,rfl,h.1,h.2.1,h.2.2⟩
theorem iTab : ∃ i,Tryz.prog.info? 37 = some i ∧ i.zero = some (.agg #[.string ByteArray.empty,.slice none 0 0]) ∧ i.size = 2 ∧ i.bytes = 40 := by
 have h := infoTab
 cases e : Tryz.prog.info? 37 with
 | none => rw [e] at h; cases h
 | some i =>
  rw [e] at h
  simp only [Option.map_some,Option.some.injEq,Prod.mk.injEq] at h
  exact ⟨i,rfl,h.1,h.2.1,h.2.2⟩
theorem undRow : Tryz.prog.underlying 30 = some (.slice 39) := Tryz.underlying30
theorem undTab : Tryz.prog.underlying 22 = some (.slice 37) := Tryz.underlying22
def CK (w : World) (x : Nat) (kb : Bool) (K : Int) : Prop := w.cell? ⟨x,4,none⟩ = some (.bool kb) ∧ w.cell? ⟨x,2,none⟩ = some (.int .i64 K)
theorem CK.below {w w' : World} {x : Nat} {kb : Bool} {K : Int} {B : Nat} (h : CK w x kb K) (hb : Below B w w') (hx : x < B) : CK w' x kb K :=
 ⟨(hb.cell (p := ⟨x,4,none⟩) hx).trans h.1,(hb.cell (p := ⟨x,2,none⟩) hx).trans h.2⟩
theorem CK.lt {w : World} {x : Nat} {kb : Bool} {K : Int} (h : CK w x kb K) : x < w.heap.size := World.block_lt_of_cell? w _ h.1
theorem meant_any (r0 r1 : Int) (x : Nat) (kb : Bool) (K : Int) (w : World) (h : CK w x kb K) :
  Calls Tryz.prog 50 #[.agg #[.int .i64 r0,.int .i64 r1],.pointer (some ⟨x,0,none⟩)] w fun e w' => e = .returned (.bool (meantB kb K (r0,r1))) ∧ Below w.heap.size w w' := by
 have hb := (Below.refl w.heap.size w).alloc (Nat.le_refl _) (.cells #[.int .i64 r0,.int .i64 r1] 39)
 have HB := Lib.hid hb
 obtain ⟨c4,c2⟩ := h.below hb h.lt
 obtain ⟨Q,hQ⟩ : ∃ Q,meantB kb K (r0,r1) = Q := ⟨_,rfl⟩
 rw [hQ]
 unfold meantB at hQ
 have HQ := Lib.hid hQ
 clear hQ hb h
 cases kb with
 | false =>
  have : Q = true := by rw [← HQ.out]; rfl
  subst this
  go_enter Tryz.func50,Tryz.ntmps50
  go_wp2
  go_ret
  exact ⟨rfl,HB.out⟩
 | true =>
  go_enter Tryz.func50,Tryz.ntmps50
  go_wp2
  go_ret
  exact ⟨by rw [← HQ.out]; rfl,HB.out⟩
theorem get_snoc (kb : Bool) (K : Int) {l : List Rw} {i : Nat} {r : Rw} (h : l[i]? = some r) : getR kb K (l.take (i + 1)) = if meantB kb K r = true then getR kb K (l.take i) ++ [r] else getR kb K (l.take i) := by
 obtain ⟨hi,he⟩ := List.getElem?_eq_some_iff.1 h
 unfold getR
 rw [List.take_add_one,h,Option.toList_some,List.filter_append,List.filter_cons]
 split
 ·rfl
 ·rw [List.filter_nil,List.append_nil]
theorem one_row {w : World} {B : Nat} {r0 r1 : Int} (hb : w.heap[B]? = some (.cells #[.int .i64 r0,.int .i64 r1] 39 (0,0))) : ∀ (j : Nat) (u : Value),(rcs [(r0,r1)])[j]? = some u → w.cell? ((⟨B,0,none⟩ : Addr).add j) = some u :=
 World.news_of_block hb
set_option maxHeartbeats 4000000 in
theorem chosen_any (v : Value) (l : List Rw) (x : Nat) (kb : Bool) (K : Int) (w : World) (h : RR w v l) (hc : CK w x kb K) (hl : l.length ≤ 1000000) :
  Calls Tryz.prog 51 #[v,.func (.func 50) #[] #[.pointer (some ⟨x,0,none⟩)]] w fun e w' => ∃ v',e = .returned v' ∧ OR w.heap.size w' v' (getR kb K l) ∧ Below w.heap.size w w' := by
 obtain ⟨a,cap,rfl⟩ := h.form
 obtain ⟨i30,hi30,hz30,hs30,hb30⟩ := iRow
 have und30 := undRow
 have HH := Lib.hid h
 have HC := Lib.hid hc
 have HX := Lib.hid hc.lt
 have HL := Lib.hid hl
 clear h hc hl
 have henter : ∀ args w,(callFunc 50 args).run Tryz.prog w = .ok (.enter 50 args) w := fun args w => by show Sem.run Tryz.prog (callFunc 50 args) w = _; go_simp
 go_enter Tryz.func51,Tryz.ntmps51
 go_wp2
 go_loopg [5,10] l.length (fun gk u5 u10 wx => ∃ i : Nat,u10 = .int .i64 (i : Int) ∧ i + gk = l.length ∧ Below w.heap.size w wx ∧ OR w.heap.size wx u5 (getR kb K (l.take i)))
 case atStart => exact ⟨0,rfl,by omega,Below.refl _ _,World.ownsRow_nil _ _ _ _⟩
 case round =>
  obtain ⟨i,rfl,hi,hB,hO⟩ := hrel
  have HB := Lib.hid hB
  have HI := Lib.hid hi
  have HO := Lib.hid hO
  cases gk with
  | zero =>
   have l1 : ¬ ((i : Int) < (l.length : Int)) := by omega
   have he : l.take i = l := List.take_of_length_le (by omega)
   have HE := Lib.hid he
   clear hB hi hO he
   go_wp2
   go_ret
   exact ⟨_,rfl,by have := HO.out; rw [HE.out] at this; exact this,HB.out⟩
  | succ gk =>
   have hlt : i < l.length := by omega
   have hRR := HH.out.below hB
   obtain ⟨b,o,cp,he,hcp,hx⟩ := hRR.inv (by omega)
   injection he with ea _ ec
   subst ea ec
   obtain ⟨r,hr0⟩ : ∃ r,l[i] = r := ⟨_,rfl⟩
   have hri : l[i]? = some r := by rw [List.getElem?_eq_getElem hlt,hr0]
   obtain ⟨x0,x1⟩ := hx i r hri
   have hsn := get_snoc kb K hri
   have l0 : (0 : Int) ≤ (i : Int) := by omega
   have l1 : (i : Int) < (l.length : Int) := by omega
   obtain ⟨i1,hi1⟩ : ∃ i1,i + 1 = i1 := ⟨_,rfl⟩
   have wk : IntKind.i64.wrap ((i : Int) + 1) = (i1 : Int) := by rw [show (i : Int) + 1 = (i1 : Int) by omega]; exact IntWalk.i64_in _ (by have := HL.out; omega)
   have HI1 := Lib.hid hi1
   rw [hi1] at hsn
   obtain ⟨r0,r1⟩ := r
   obtain ⟨Q,hQ⟩ : ∃ Q,meantB kb K (r0,r1) = Q := ⟨_,rfl⟩
   obtain ⟨L,hL⟩ : ∃ L,getR kb K (l.take i) = L := ⟨_,rfl⟩
   have hLl : L.length ≤ 1000000 := by
    rw [← hL]
    have h1 := List.length_filter_le (meantB kb K) (l.take i)
    have h2 : (l.take i).length ≤ l.length := by rw [List.length_take]; omega
    have h3 := HL.out
    show (List.filter _ _).length ≤ _
    omega
   have HLL := Lib.hid hLl
   rw [hQ,hL] at hsn
   rw [hL] at HO
   have hbA : Below w.heap.size w (wr.alloc (.cells #[.int .i64 r0,.int .i64 r1] 39)) := hB.alloc hB.size _
   have HBA := Lib.hid hbA
   have hOA : OR w.heap.size (wr.alloc (.cells #[.int .i64 r0,.int .i64 r1] 39)) u5 L := HO.out.alloc _
   have HOA := Lib.hid hOA
   have HM := Lib.hid (meant_any r0 r1 x kb K _ (HC.out.below hbA HX.out))
   rw [hQ] at HM
   have HSN := Lib.hid hsn
   have hblk : Blk (wr.alloc (.cells #[.int .i64 r0,.int .i64 r1] 39)) wr.heap.size 39 #[.int .i64 r0,.int .i64 r1] := Blk.new _ _ _
   have HK := Lib.hid hblk
   clear hB hi hRR hx hr0 hri hi1 hlt hQ hL hsn hbA hOA hO hLl hblk
   cases Q with
   | false =>
    go_wp2_with (go_at_call 50; (refine HM.out.mono ?_); rintro e w2 ⟨rfl,hb2⟩; have HB2 := Lib.hid (HBA.out.trans (hb2.mono HBA.out.size)); have HO2 := Lib.hid (own_below HOA.out hb2); clear hb2)
    go_roundg gk
    case measure => exact Nat.lt_succ_self _
    case rel => exact ⟨i1,rfl,by have := HI1.out; have := HI.out; omega,HB2.out,by have := HSN.out; rw [if_neg (by decide)] at this; rw [this]; exact HO2.out⟩
   | true =>
    go_wp2_with (first
     | (go_at_call 50; (refine HM.out.mono ?_); rintro e w2 ⟨rfl,hb2⟩; have HB2 := Lib.hid (HBA.out.trans (hb2.mono HBA.out.size)); have HO2 := Lib.hid (own_below HOA.out hb2); have hk2 := HK.out.below hb2 HK.out.lt; have y0 : w2.cell? ⟨wr.heap.size,0,none⟩ = some (.int .i64 r0) := hk2.cell 0; have y1 : w2.cell? ⟨wr.heap.size,1,none⟩ = some (.int .i64 r1) := hk2.cell 1; clear hb2 hk2)
     | (at_builtin; refine wpList_append_lies _ rfl _ _ 30 rfl w.heap.size 39 i30 (.agg #[.int .i64 0,.int .i64 0]) 2 16 und30 hi30 hz30 hs30 hb30 rfl (by decide) u5 L.length (rcs L) rfl (HO2.out.alloc _) ⟨w2.heap.size,0,none⟩ 1 1 (rcs [(r0,r1)]) rfl rfl ?c1 ?c2 (by decide) ?c3 ?c4 ?c5 _ rfl ?_))
    all_goals first
     | exact one_row (heap_alloc_new _ _)
     | exact rcs_one _
     | (have := HLL.out; unfold maxLen; omega)
     | (have := HLL.out; omega)
     | (have := HB2.out.size; simp; omega)
     | skip
    intro g9 cap9 w9 hown9 hgr9 hat9 hlt9
    have hown8 : OR w.heap.size w9 (.slice (some ⟨g9,0,none⟩) (L.length + 1) cap9) (L ++ [(r0,r1)]) := by
     unfold OR
     rw [rcs_append,List.length_append]
     exact hown9
    have hbel9 := (HB2.out.alloc HB2.out.size (.cells #[.int .i64 r0,.int .i64 r1] 39)).grown hgr9 (by have := HB2.out.size; simp; omega) (fun k hk => (HO2.out.lt k hk).1)
    have HO9 := Lib.hid hown8
    have HB9 := Lib.hid hbel9
    clear hown9 hown8 hgr9 hat9 hbel9
    go_wp2
    go_roundg gk
    case measure => exact Nat.lt_succ_self _
    case rel => exact ⟨i1,rfl,by have := HI1.out; have := HI.out; omega,HB9.out,by have := HSN.out; simp only [if_true] at this; rw [this]; exact HO9.out⟩

theorem fl_rep (a b : Value) (k : Nat) : ∀ j,j < k * 2 → (fl (List.replicate k (a,b)))[j]? = some (if j % 2 = 0 then a else b) := by
 intro j hj
 have h := fl_at (List.replicate k (a,b)) (j / 2) (a,b) (by rw [List.getElem?_replicate,if_pos (by omega)])
 rcases (show j % 2 = 0 ∨ j % 2 = 1 by omega) with e | e
 ·rw [if_pos e]
  have := h.1
  rw [show j / 2 * 2 = j by omega] at this; exact this
 ·rw [if_neg (by omega)]
  have := h.2
  rw [show j / 2 * 2 + 1 = j by omega] at this; exact this
theorem zero2 (a b : Value) (k : Nat) : (Builtin.zeroCells #[a,b] k).toList = fl (List.replicate k (a,b)) := by
 apply List.ext_getElem?
 intro j
 by_cases hj : j < k * 2
 ·rw [fl_rep a b k j hj]
  rcases (show j % 2 = 0 ∨ j % 2 = 1 by omega) with e | e <;> simp [Builtin.zeroCells,hj,e]
 ·have e2 : (fl (List.replicate k (a,b)))[j]? = none := by
   rw [List.getElem?_eq_none_iff,fl_len,List.length_replicate]; omega
  rw [e2]
  simp [Builtin.zeroCells]; omega
theorem made2 (a b : Value) (k : Nat) : (madeCells #[a,b] (k * 2)).toList = fl (List.replicate k (a,b)) := by
 apply List.ext_getElem?
 intro j
 by_cases hj : j < k * 2
 ·rw [fl_rep a b k j hj]
  rcases (show j % 2 = 0 ∨ j % 2 = 1 by omega) with e | e <;> simp [madeCells,hj,e]
 ·have e2 : (fl (List.replicate k (a,b)))[j]? = none := by
   rw [List.getElem?_eq_none_iff,fl_len,List.length_replicate]; omega
  rw [e2]
  simp [madeCells]; omega
theorem take_splice {α : Type} (L : List α) (o N : Nat) (cs : List α) (h1 : o + cs.length ≤ N) (h2 : N ≤ L.length) : (L.take o ++ cs ++ L.drop (o + cs.length)).take N = splice (L.take N) o cs := by
 unfold splice
 apply List.ext_getElem?
 intro j
 rw [List.getElem?_take]
 have hlo : (L.take o).length = o := by rw [List.length_take]; omega
 have hlo2 : ((L.take N).take o).length = o := by rw [List.length_take,List.length_take]; omega
 by_cases hj : j < N
 ·rw [if_pos hj,List.append_assoc,List.getElem?_append (l₁ := L.take o),List.getElem?_append (l₁ := (L.take N).take o),hlo,hlo2]
  by_cases h3 : j < o
  ·rw [if_pos h3,if_pos h3,List.getElem?_take,if_pos h3,List.getElem?_take,if_pos h3,List.getElem?_take,if_pos hj]
  ·rw [if_neg h3,if_neg h3,List.getElem?_append,List.getElem?_append]
   by_cases h4 : j - o < cs.length
   ·rw [if_pos h4,if_pos h4]
   ·rw [if_neg h4,if_neg h4,List.getElem?_drop,List.getElem?_drop,List.getElem?_take,if_pos (by omega)]
 ·rw [if_neg hj]
  symm
  rw [List.getElem?_eq_none_iff,List.length_append,List.length_append,hlo2,List.length_drop,List.length_take]; omega
section
variable {P : Program} {w : World} {B g n cap z : Nat} {e : TypeId} {xs : List Value}
theorem run_store_own (h : w.ownsRow B e z (.slice (some ⟨g,0,none⟩) n cap) n xs) (o : Nat) (cs : List Value) (hfit : o + cs.length ≤ n * z) (h1 : ∀ v ∈ cs,v.oneCell' = true) :
  ∃ w',(storeCells ⟨g,o,none⟩ cs).run P w = .ok () w' ∧ w'.ownsRow B e z (.slice (some ⟨g,0,none⟩) n cap) n (splice xs o cs) ∧ w.grownBy w' (some g) := by
 rcases h.2 with ⟨h',_⟩ | ⟨g',cap',cur,h',hb,hg,hnc,hcm,hcs,htake⟩
 ·simp at h'
 ·simp only [Value.slice.injEq,Option.some.injEq,Addr.mk.injEq,and_true,true_and] at h'
  obtain ⟨rfl,rfl⟩ := h'
  have hN : n * z ≤ cur.toList.length := by rw [Array.length_toList,hcs]; exact Nat.mul_le_mul_right _ hnc
  have hst := run_storeCells_at P g o e cs 0 cur w hg (by rw [Array.length_toList] at hN; omega) h1
  simp only [Nat.add_zero] at hst
  have hl : (splice xs o cs).length = n * z := by rw [length_splice _ _ _ (by rw [h.1]; exact hfit),h.1]
  refine ⟨_,hst,⟨hl,.inr ⟨g,cap,_,rfl,hb,setRow_heap w g cur _ e _ hg,hnc,hcm,?_,?_⟩⟩,⟨rfl,rfl,rfl,by simp,fun k _ hk => setRow_other w g k _ (fun e => hk (by simp [e]))⟩⟩
  ·simp only [List.size_toArray,List.length_append,List.length_take,List.length_drop,Array.length_toList]
   rw [Array.length_toList] at hN
   omega
  ·rw [show (cur.toList.take o ++ cs ++ cur.toList.drop (o + cs.length)).toArray.toList = cur.toList.take o ++ cs ++ cur.toList.drop (o + cs.length) from rfl,take_splice _ _ _ _ hfit hN,htake]
theorem own_cut (h : w.ownsRow B e z (.slice (some ⟨g,0,none⟩) n cap) n xs) (k : Nat) (hk : k ≤ n) : w.ownsRow B e z (.slice (some ⟨g,0,none⟩) k cap) k (xs.take (k * z)) := by
 rcases h.2 with ⟨h',_⟩ | ⟨g',cap',cur,h',hb,hg,hnc,hcm,hcs,htake⟩
 ·simp at h'
 ·simp only [Value.slice.injEq,Option.some.injEq,Addr.mk.injEq,and_true,true_and] at h'
  obtain ⟨rfl,rfl⟩ := h'
  have hkz : k * z ≤ n * z := Nat.mul_le_mul_right _ hk
  refine ⟨by rw [List.length_take,h.1]; omega,.inr ⟨g,cap,cur,rfl,hb,hg,by omega,hcm,hcs,?_⟩⟩
  rw [← htake,List.take_take]
  congr 1; omega
theorem run_clear2 (t ty : TypeId) (i : TypeInfo) (a b : Value) (ht : P.underlying t = some (.slice e)) (hi : P.info? e = some i) (hz : i.zero = some (.agg #[a,b])) (h1 : a.oneCell' = true) (h2 : b.oneCell' = true)
  (h : w.ownsRow B e 2 (.slice (some ⟨g,0,none⟩) n cap) n xs) (k c : Nat) (hk : k < n) :
  ∃ w',(Builtin.clear_ #[t] ty #[.slice (some ⟨g,k * 2,none⟩) (n - k) c]).run P w = .ok (.tuple #[]) w' ∧ w'.ownsRow B e 2 (.slice (some ⟨g,0,none⟩) n cap) n (splice xs (k * 2) (fl (List.replicate (n - k) (a,b)))) ∧ w.grownBy w' (some g) := by
 have hone : ∀ v ∈ fl (List.replicate (n - k) (a,b)),v.oneCell' = true := fl_all _ _ fun p hp => by
  rw [List.eq_of_mem_replicate hp]; exact ⟨h1,h2⟩
 obtain ⟨w',hs,ho,hg⟩ := run_store_own (P := P) h (k * 2) (fl (List.replicate (n - k) (a,b))) (by rw [fl_len,List.length_replicate]; omega) hone
 refine ⟨w',?_,ho,hg⟩
 obtain ⟨m,hm⟩ : ∃ m,n - k = m + 1 := ⟨n - k - 1,by omega⟩
 rw [hm] at hs ⊢
 have hzc := zero2 a b (m + 1)
 have hzc2 : (Builtin.zeroCells (Value.agg #[a,b]).cells (m + 1)).toList = fl (List.replicate (m + 1) (a,b)) := hzc
 simp [Builtin.clear_,run_underlying ht,zeroValue,typeInfo,hi,hz,hzc2,hs]
theorem run_copy2 (dT sT ty : TypeId) (i : TypeInfo) (ht : P.underlying dT = some (.slice e)) (hi : P.info? e = some i) (hsz : i.size = z)
  (h : w.ownsRow B e z (.slice (some ⟨g,0,none⟩) n cap) n xs) (o dLen dCap : Nat) (sp : Option Addr) (sLen sCap : Nat) (cs : List Value) (hl : cs.length = Nat.min sLen dLen * z)
  (hsrc : 0 < Nat.min sLen dLen → ∃ ad,sp = some ad ∧ ∀ j v,cs[j]? = some v → w.cell? (ad.add j) = some v) (hfit : o + cs.length ≤ n * z) (h1 : ∀ v ∈ cs,v.oneCell' = true) :
  ∃ w',(Builtin.copy_ #[dT,sT] ty #[.slice (some ⟨g,o,none⟩) dLen dCap,.slice sp sLen sCap]).run P w = .ok (goInt (Nat.min sLen dLen)) w' ∧ w'.ownsRow B e z (.slice (some ⟨g,0,none⟩) n cap) n (splice xs o cs) ∧ w.grownBy w' (some g) := by
 obtain ⟨w',hs,ho,hg⟩ := run_store_own (P := P) h o cs hfit h1
 refine ⟨w',?_,ho,hg⟩
 have hf : (Builtin.firstCells z (Nat.min sLen dLen) (.slice sp sLen sCap)).run P w = .ok cs.toArray w := by
  by_cases h0 : 0 < Nat.min sLen dLen
  ·obtain ⟨ad,rfl,hc⟩ := hsrc h0
   exact run_firstCells_some w z _ ad sLen sCap cs hl hc
  ·have e0 : Nat.min sLen dLen = 0 := by omega
   rw [e0,Nat.zero_mul] at hl
   have : cs = [] := List.eq_nil_of_length_eq_zero hl
   subst this
   rw [e0]
   cases sp with
   | none => exact run_firstCells_none w z 0 sLen sCap
   | some ad => exact run_firstCells_some w z 0 ad sLen sCap [] (by simp) (fun j v hj => by simp at hj)
 subst hsz
 simp [Builtin.copy_,run_underlying ht,Builtin.lenOf,sizeOf,typeInfo,hi,hf,hs]
theorem wpList_copy2 {ops : Array Oper} {rest : List Oper} {o : Oper} {a : Act} {Q : Exit → Act → World → Prop} (hgd : o.guard = none) (d s : Operand) (dT sT : TypeId)
  (ho : o.op = .call { callee := .builtin .copy,args := #[d,s],argTypes := #[dT,sT] }) (i : TypeInfo) (ht : P.underlying dT = some (.slice e)) (hi : P.info? e = some i) (hsz : i.size = z)
  (off dLen dCap : Nat) (sp : Option Addr) (sLen sCap : Nat) (hd : a.eval d = .slice (some ⟨g,off,none⟩) dLen dCap) (hs : a.eval s = .slice sp sLen sCap)
  (h : w.ownsRow B e z (.slice (some ⟨g,0,none⟩) n cap) n xs) (cs : List Value) (hl : cs.length = Nat.min sLen dLen * z)
  (hsrc : 0 < Nat.min sLen dLen → ∃ ad,sp = some ad ∧ ∀ j v,cs[j]? = some v → w.cell? (ad.add j) = some v) (hfit : off + cs.length ≤ n * z) (h1 : ∀ v ∈ cs,v.oneCell' = true)
  (hk : ∀ w',w'.ownsRow B e z (.slice (some ⟨g,0,none⟩) n cap) n (splice xs off cs) → w.grownBy w' (some g) → wpList P ops Q rest (a.put o.dst (goInt (Nat.min sLen dLen))) w') : wpList P ops Q (o :: rest) a w := by
 refine wpList_plain hgd fun K hK => ?_
 obtain ⟨w',hr,h2,h3⟩ := run_copy2 (P := P) dT sT o.type i ht hi hsz h off dLen dCap sp sLen sCap cs hl hsrc hfit h1
 unfold Oper.wp
 simp [execOp,ho,resolve,invoke,builtin,hd,hs,hr,Result.andThen]
 exact hK _ _ (hk w' h2 h3)
theorem step_copy2 {ops : Array Oper} {o : Oper} {a : Act} {K : Act → World → Prop} {Q : Exit → Act → World → Prop} {E : Prop} (hgd : o.guard = none) (d s : Operand) (dT sT : TypeId)
  (ho : o.op = .call { callee := .builtin .copy,args := #[d,s],argTypes := #[dT,sT] }) (i : TypeInfo) (ht : P.underlying dT = some (.slice e)) (hi : P.info? e = some i) (hsz : i.size = z)
  (off dLen dCap : Nat) (sp : Option Addr) (sLen sCap : Nat) (hd : a.eval d = .slice (some ⟨g,off,none⟩) dLen dCap) (hs : a.eval s = .slice sp sLen sCap)
  (h : w.ownsRow B e z (.slice (some ⟨g,0,none⟩) n cap) n xs) (cs : List Value) (hl : cs.length = Nat.min sLen dLen * z)
  (hsrc : 0 < Nat.min sLen dLen → ∃ ad,sp = some ad ∧ ∀ j v,cs[j]? = some v → w.cell? (ad.add j) = some v) (hfit : off + cs.length ≤ n * z) (h1 : ∀ v ∈ cs,v.oneCell' = true)
  (hk : ∀ w',w'.ownsRow B e z (.slice (some ⟨g,0,none⟩) n cap) n (splice xs off cs) → w.grownBy w' (some g) → K (a.put o.dst (goInt (Nat.min sLen dLen))) w') :
  if Region.wanted o (yielded ops a.tmps) = true then Oper.wp P o a w K Q else E := by
 have hw : Region.wanted o (yielded ops a.tmps) = true := by simp [Region.wanted,hgd]
 rw [if_pos hw]
 obtain ⟨w',hr,h2,h3⟩ := run_copy2 (P := P) dT sT o.type i ht hi hsz h off dLen dCap sp sLen sCap cs hl hsrc hfit h1
 unfold Oper.wp
 simp [execOp,ho,resolve,invoke,builtin,hd,hs,hr,Result.andThen]
 exact hk w' h2 h3
theorem wpList_clear2 {ops : Array Oper} {rest : List Oper} {o : Oper} {x : Act} {Q : Exit → Act → World → Prop} (hgd : o.guard = none) (s : Operand) (t : TypeId)
  (ho : o.op = .call { callee := .builtin .clear,args := #[s],argTypes := #[t] }) (i : TypeInfo) (a b : Value) (ht : P.underlying t = some (.slice e)) (hi : P.info? e = some i) (hz : i.zero = some (.agg #[a,b])) (h1 : a.oneCell' = true) (h2 : b.oneCell' = true)
  (k c : Nat) (hs : x.eval s = .slice (some ⟨g,k * 2,none⟩) (n - k) c) (h : w.ownsRow B e 2 (.slice (some ⟨g,0,none⟩) n cap) n xs) (hk : k < n)
  (hq : ∀ w',w'.ownsRow B e 2 (.slice (some ⟨g,0,none⟩) n cap) n (splice xs (k * 2) (fl (List.replicate (n - k) (a,b)))) → w.grownBy w' (some g) → wpList P ops Q rest (x.put o.dst (.tuple #[])) w') : wpList P ops Q (o :: rest) x w := by
 refine wpList_plain hgd fun K hK => ?_
 obtain ⟨w',hr,h3,h4⟩ := run_clear2 (P := P) t o.type i a b ht hi hz h1 h2 h k c hk
 unfold Oper.wp
 simp [execOp,ho,resolve,invoke,builtin,hs,hr,Result.andThen]
 exact hK _ _ (hq w' h3 h4)
theorem run_app_zeros (t tn ty : TypeId) (i : TypeInfo) (a b : Value) (bytes : Nat) (kq kn : IntKind) (ht : P.underlying t = some (.slice e)) (htn : P.underlying tn = some (.int kn)) (hi : P.info? e = some i) (hz : i.zero = some (.agg #[a,b])) (hsz : i.size = 2) (hby : i.bytes = bytes)
  (base : Option Addr) (m sCap : Nat) (olds : List Value) (hol : olds.length = m * 2) (hold : 0 < m → ∃ ad,base = some ad ∧ ∀ j v,olds[j]? = some v → w.cell? (ad.add j) = some v)
  (k : Nat) (h0 : 0 < k) (hg : sCap < m + k) (hb : B ≤ w.heap.size) (h48 : (m + k) * bytes ≤ 140737488355328) (h63 : m + k ≤ maxLen) :
  ∃ c w',(Builtin.append_ #[t,tn] ty #[.slice base m sCap,.int kq k]).run P w = .ok (.slice (some ⟨w.heap.size,0,none⟩) (m + k) c) w' ∧
   w'.ownsRow B e 2 (.slice (some ⟨w.heap.size,0,none⟩) (m + k) c) (m + k) (olds ++ fl (List.replicate k (a,b))) ∧ w.grownBy w' none := by
 have hf : (Builtin.firstCells i.size m (.slice base m sCap)).run P w.drew = .ok olds.toArray w.drew := by
  rw [hsz]
  by_cases hm : 0 < m
  ·obtain ⟨ad,rfl,hc⟩ := hold hm
   exact run_firstCells_some w.drew 2 m ad m sCap olds hol hc
  ·have : m = 0 := by omega
   subst this
   have : olds = [] := List.eq_nil_of_length_eq_zero (by simpa using hol)
   subst this
   cases base with
   | none => exact run_firstCells_none w.drew 2 0 0 sCap
   | some ad => exact run_firstCells_some w.drew 2 0 ad 0 sCap [] (by simp) (fun j v hj => by simp at hj)
 have hmk : k * bytes ≤ (m + k) * bytes := Nat.mul_le_mul_right _ (by omega)
 have hr := Lib.run_append_grow_zeros w t tn ty e i (.agg #[a,b]) kq kn ht htn hi hz base m sCap olds hf k h0 (by omega) hg (by unfold maxLen at h63; omega) (by rw [hby]; omega) (by rw [hby]; exact growslice_fits hg h48)
 refine ⟨_,_,hr,?_,?_⟩
 ·have e1 : (Value.agg #[a,b]).cells = #[a,b] := rfl
  rw [e1]
  have hcl : m + k ≤ grownCap w (m + k) sCap e := grownCap_ge w _ _ _
  have hs2 : ∀ q,(Builtin.zeroCells #[a,b] q).size = q * 2 := fun q => size_zeroCells _ _
  refine ⟨by rw [List.length_append,hol,fl_len,List.length_replicate]; omega,.inr ⟨w.heap.size,_,(olds.toArray ++ Builtin.zeroCells #[a,b] k ++ Builtin.zeroCells #[a,b] (grownCap w (m + k) sCap e - (m + k))),rfl,hb,?_,hcl,grownCap_le_maxLen w _ _ _ h63,?_,?_⟩⟩
  ·exact heap_alloc_new w.drew _
  ·rw [Array.size_append,Array.size_append,hs2,hs2,List.size_toArray,hol]; omega
  ·rw [Array.toList_append,Array.toList_append,zero2,List.take_append_of_le_length (by rw [List.length_append,fl_len,List.length_replicate,hol]; omega),List.take_of_length_le (by rw [List.length_append,fl_len,List.length_replicate,hol]; omega)]
 ·have G := World.grownBy_alloc w.drew (.cells (olds.toArray ++ Builtin.zeroCells (Value.agg #[a,b]).cells k ++ Builtin.zeroCells (Value.agg #[a,b]).cells (grownCap w (m + k) sCap e - (m + k))) e) none
  exact ⟨G.os,G.tape,G.output,G.size,fun j hj hn => G.block j hj hn⟩
end
end Go.Proofs.YtgdabkpahmlkpaaGreatDoor
