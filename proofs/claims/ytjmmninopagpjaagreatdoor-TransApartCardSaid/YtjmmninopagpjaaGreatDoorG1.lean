/- Lxp Tra Lhp Da -/
import Derived.Test.YtjmmninopagpjaaGreatDoorRows
import Derived.WalkKit
import Derived.ProofKit
import Derived.Below
import Derived.IntWalk
import Derived.Lib.Strings
import Derived.Lib.Hide
import Derived.Lib.Walk
import Derived.Laws.RangeString
import Derived.Laws.RangeAny
import Derived.Deep.Cut
import Derived.Deep.Draws
import Derived.Laws.Rows
import Derived.WalkSpells
import Derived.LaidEqlPtr
import Derived.WalkMore
import Derived.BigQuiet
import Derived.OwnWalk
import Derived.Deep.QuietTactic
import Derived.Deep.RegionWith
import Derived.Deep.RegionHeld3
import Derived.Laws.CopyOwn
import Derived.Laws.OwnMore
import Derived.Laws.MakeOwn
import Derived.Deep.AppendLies
set_option linter.unusedSimpArgs false
set_option linter.unusedVariables false
namespace Go.Proofs.YtjmmninopagpjaaGreatDoor
set_option linter.unusedSimpArgs false
open Go.ChangeShapes Go.WideShapes Go.ChangeAt Go.RowKit
set_option maxRecDepth 100000
set_option linter.unusedVariables false

abbrev Tx := List UInt8
theorem decode_wide (s : ByteArray) (pos : Nat) (h : pos < s.size) (ha : 128 ≤ (s[pos]'h).toNat) :
  pos + (Utf8.decode s pos).2 ≤ s.size ∧ ∀ j,j < (Utf8.decode s pos).2 → ∀ hj : pos + j < s.size,128 ≤ (s[pos + j]'hj).toNat := by
 have get : ∀ k,∀ hk : pos + k < s.size,(s.get! (pos + k)).toNat = (s[pos + k]'hk).toNat := by
  intro k hk
  have : s.get! (pos + k) = s[pos + k]'hk := by
   show s.get! (pos + k) = _
   simp [ByteArray.get!,getElem!_pos,hk]
   rfl
  rw [this]
 have key : ∀ n,(∀ k,0 < k → k < n → (decide (pos + k < s.size) && (s.get! (pos + k)).toNat / 64 == 2) = true) → pos + n ≤ s.size ∨ n ≤ 1 → (pos + n ≤ s.size ∨ n = 0 ∨ n = 1) → ∀ j,j < n → ∀ hj : pos + j < s.size,128 ≤ (s[pos + j]'hj).toNat := by
  intro n hn _ _ j hjn hj
  by_cases h0 : j = 0
  ·subst h0; exact ha
  ·have := hn j (by omega) hjn
   simp only [Bool.and_eq_true,beq_iff_eq] at this
   rw [get j hj] at this
   omega
 have lim : ∀ k,(decide (pos + k < s.size) && (s.get! (pos + k)).toNat / 64 == 2) = true → pos + k < s.size := by
  intro k hk
  simp only [Bool.and_eq_true,decide_eq_true_eq] at hk
  exact hk.1
 have hn0 : ¬ (s.get! (pos + 0)).toNat < 128 := by rw [get 0 h]; exact Nat.not_lt.2 ha
 have one : pos + 1 ≤ s.size ∧ ∀ j,j < 1 → ∀ hj : pos + j < s.size,128 ≤ (s[pos + j]'hj).toNat := ⟨h,fun j hj hj2 => by
  have : j = 0 := by omega
  subst this; exact ha⟩
 unfold Utf8.decode
 simp only
 rw [if_neg hn0]
 split
 ·rename_i h2
  simp only [Bool.and_eq_true] at h2
  split
  ·refine ⟨?_,key 2 (fun k k0 k2 => ?_) (.inl ?_) (.inl ?_)⟩
   ·have := lim 1 (by simp only [Bool.and_eq_true]; exact h2.2); omega
   ·have : k = 1 := by omega
    subst this; simp only [Bool.and_eq_true]; exact h2.2
   ·have := lim 1 (by simp only [Bool.and_eq_true]; exact h2.2); omega
   ·have := lim 1 (by simp only [Bool.and_eq_true]; exact h2.2); omega
  ·exact one
 ·split
  ·rename_i h3
   simp only [Bool.and_eq_true] at h3
   split
   ·have l2 := lim 2 (by simp only [Bool.and_eq_true]; exact h3.2)
    refine ⟨by omega,key 3 (fun k k0 k2 => ?_) (.inl (by omega)) (.inl (by omega))⟩
    have : k = 1 ∨ k = 2 := by omega
    rcases this with rfl | rfl
    ·simp only [Bool.and_eq_true]; exact h3.1.2
    ·simp only [Bool.and_eq_true]; exact h3.2
   ·exact one
  ·split
   ·rename_i h4
    simp only [Bool.and_eq_true] at h4
    split
    ·have l3 := lim 3 (by simp only [Bool.and_eq_true]; exact h4.2)
     refine ⟨by omega,key 4 (fun k k0 k2 => ?_) (.inl (by omega)) (.inl (by omega))⟩
     have : k = 1 ∨ k = 2 ∨ k = 3 := by omega
     rcases this with rfl | rfl | rfl
     ·simp only [Bool.and_eq_true]; exact h4.1.1.2
     ·simp only [Bool.and_eq_true]; exact h4.1.2
     ·simp only [Bool.and_eq_true]; exact h4.2
    ·exact one
   ·exact one
theorem run_next_at_ {P : Program} (w : World) (g : Nat) (s : ByteArray) (pos : Nat) (ty : TypeId) (hg : w.heap[g]? = some (.stringIter s pos)) (h : pos < s.size) :
  (Instr.next (.pointer (some ⟨g,0,none⟩)) true ty).run P w = .ok (.tuple #[.bool true,.int .i64 pos,.int .i32 ((Utf8.decode s pos).1 : Nat)]) { w with heap := w.heap.setIfInBounds g (.stringIter s (pos + (Utf8.decode s pos).2)) } := by
 have hlt : g < w.heap.size := (Array.getElem?_eq_some_iff.1 hg).1
 simp only [Instr.next,getObj,setObj,Sem.run_bind,Sem.run,hg,Result.andThen,h,if_true]
 simp [goInt,Sem.run,hg,hlt]
theorem run_next_over {P : Program} (w : World) (g : Nat) (s : ByteArray) (pos : Nat) (ty : TypeId) (hg : w.heap[g]? = some (.stringIter s pos)) (h : ¬ pos < s.size) :
  (Instr.next (.pointer (some ⟨g,0,none⟩)) true ty).run P w = .ok (.tuple #[.bool false]) w := by
 simp [Instr.next,getObj,Sem.run,hg,h]

def Blk (w : World) (g : Nat) (t : TypeId) (cs : Array Value) : Prop := w.heap[g]? = some (.cells cs t (0,0))
section
variable {w w' : World} {g : Nat} {t : TypeId} {cs : Array Value}
theorem Blk.lt (h : Blk w g t cs) : g < w.heap.size := (Array.getElem?_eq_some_iff.1 h).1
theorem Blk.cell (h : Blk w g t cs) (i : Nat) : w.cell? ⟨g,i,none⟩ = cs[i]? := cell_of_row w g i cs t (0,0) h
theorem Blk.frozen (h : Blk w g t cs) (i : Nat) : w.frozen? ⟨g,i,none⟩ = false := by
 unfold Blk at h
 simp [World.frozen?,h]
theorem Blk.new (w : World) (t : TypeId) (cs : Array Value) : Blk (w.alloc (.cells cs t)) w.heap.size t cs := heap_alloc_new w _
theorem Blk.newAt (w : World) (t : TypeId) (cs : Array Value) (n : Nat) (h : w.heap.size = n) : Blk (w.alloc (.cells cs t)) n t cs := by subst h; exact heap_alloc_new w _
theorem Blk.drewN (h : Blk w g t cs) (n : Nat) : Blk (w.drewN n) g t cs := h
theorem Blk.alloc (h : Blk w g t cs) (o : Obj) : Blk (w.alloc o) g t cs := (Below.heap_alloc w o g h.lt).trans h
theorem Blk.set_ (h : Blk w g t cs) (i : Nat) (u : Value) : Blk (w.setCell ⟨g,i,none⟩ u) g t (cs.setIfInBounds i u) := by
 unfold Blk at h ⊢
 simp [World.setCell,Array.getElem?_modify,h]
theorem Blk.far (h : Blk w g t cs) {p : Addr} (hp : g ≠ p.block) (u : Value) : Blk (w.setCell p u) g t cs := (Below.heap_setCell w p u g hp).trans h
theorem Blk.below {B : Nat} (h : Blk w g t cs) (hb : Below B w w') (hg : g < B) : Blk w' g t cs := (hb.block g hg).trans h
theorem Blk.grown {row : Option Nat} (h : Blk w g t cs) (hb : w.grownBy w' row) (hg : some g ≠ row) : Blk w' g t cs := (hb.block g h.lt hg).trans h
theorem Blk.ne_ {g' : Nat} {t' : TypeId} {cs' : Array Value} (h : Blk w g t cs) (h' : Blk w g' t' cs') (hne : t ≠ t') : g ≠ g' := by
 rintro rfl
 unfold Blk at h h'
 rw [h] at h'
 injection h' with h'
 injection h' with _ ht
 exact hne ht
end
structure But (S : List Nat) (w w' : World) : Prop where
 os : w'.os = w.os
 tape : w'.tape = w.tape
 output : w'.output = w.output
 size : w.heap.size ≤ w'.heap.size
 block : ∀ k,k < w.heap.size → k ∉ S → w'.heap[k]? = w.heap[k]?
theorem But.refl (S : List Nat) (w : World) : But S w w := ⟨rfl,rfl,rfl,Nat.le_refl _,fun _ _ _ => rfl⟩
theorem But.alloc {S : List Nat} {a w : World} (h : But S a w) (o : Obj) : But S a (w.alloc o) :=
 ⟨h.os,h.tape,h.output,by have := h.size; simp; omega,fun k hk hs => (Below.heap_alloc w o k (Nat.lt_of_lt_of_le hk h.size)).trans (h.block k hk hs)⟩
theorem But.set {S : List Nat} {a w : World} (h : But S a w) (p : Addr) (u : Value) (hp : p.block ∈ S ∨ a.heap.size ≤ p.block) : But S a (w.setCell p u) :=
 ⟨h.os,h.tape,h.output,by have := h.size; simpa using this,fun k hk hs => (Below.heap_setCell w p u k (fun e => by subst e; rcases hp with hp | hp; exact hs hp; omega)).trans (h.block k hk hs)⟩
theorem But.drewN {S : List Nat} {a w : World} (h : But S a w) (n : Nat) : But S a (w.drewN n) := ⟨h.os,h.tape,h.output,h.size,h.block⟩
theorem But.trans {S T U : List Nat} {a b c : World} (h : But S a b) (k : But T b c) (hS : ∀ x ∈ S,x ∈ U) (hT : ∀ x ∈ T,x < a.heap.size → x ∈ U) : But U a c :=
 ⟨k.os.trans h.os,k.tape.trans h.tape,k.output.trans h.output,Nat.le_trans h.size k.size,fun i hi hn => (k.block i (Nat.lt_of_lt_of_le hi h.size) (fun ht => hn (hT i ht hi))).trans (h.block i hi (fun hs => hn (hS i hs)))⟩
theorem But.below {S : List Nat} {a b : World} {B : Nat} (h : But S a b) (hB : B ≤ a.heap.size) (hS : ∀ x ∈ S,B ≤ x) : Below B a b :=
 ⟨h.os,h.tape,h.output,h.size,fun k hk => h.block k (by omega) (fun hs => by have := hS k hs; omega)⟩
theorem Blk.but {w w' : World} {g : Nat} {t : TypeId} {cs : Array Value} {S : List Nat} (h : Blk w g t cs) (hb : But S w w') (hg : g ∉ S) : Blk w' g t cs := (hb.block g h.lt hg).trans h
abbrev nd (v : ByteArray) (p : Int) (pre : ByteArray) (nx tb : Value) : Array Value := #[.string v,.int .i64 p,.string pre,nx,tb]
def ND (w : World) (g : Nat) (v : ByteArray) (p : Int) (pre : ByteArray) (nx tb : Value) : Prop := Blk w g 267 (nd v p pre nx tb)
theorem sl_nn (w : World) : (binOp .neq 265 (.slice none 0 0) (.slice none 0 0)).run Tryz.prog w = .ok (.bool false) w := by
 have h : ∀ d : Nat,(Op.equalIn (d + 1) 265 (.slice none 0 0) (.slice none 0 0)).run Tryz.prog w = .ok true w := fun d => by
  simp [Op.equalIn,run_underlying Tryz.underlying265]
 simp only [binOp]
 simp [Op.equal,Op.maxDepth,h 9999]
theorem sl_sn (a : Addr) (n c : Nat) (w : World) : (binOp .neq 265 (.slice (some a) n c) (.slice none 0 0)).run Tryz.prog w = .ok (.bool true) w := by
 have h : ∀ d : Nat,(Op.equalIn (d + 1) 265 (.slice (some a) n c) (.slice none 0 0)).run Tryz.prog w = .ok false w := fun d => by
  simp [Op.equalIn,run_underlying Tryz.underlying265]
 simp only [binOp]
 simp [Op.equal,Op.maxDepth,h 9999]
theorem pt_nn (w : World) : (binOp .eql 264 (.pointer none) (.pointer none)).run Tryz.prog w = .ok (.bool true) w := by
 have h : ∀ d : Nat,(Op.equalIn (d + 1) 264 (.pointer none) (.pointer none)).run Tryz.prog w = .ok true w := fun d => by
  simp [Op.equalIn,run_underlying Tryz.underlying264]
 simp only [binOp]
 simp [Op.equal,Op.maxDepth,h 9999]
theorem pt_sn (a : Addr) (w : World) : (binOp .eql 264 (.pointer (some a)) (.pointer none)).run Tryz.prog w = .ok (.bool false) w := by
 have h : ∀ d : Nat,(Op.equalIn (d + 1) 264 (.pointer (some a)) (.pointer none)).run Tryz.prog w = .ok false w := fun d => by
  simp [Op.equalIn,run_underlying Tryz.underlying264]
 simp only [binOp]
 simp [Op.equal,Op.maxDepth,h 9999]
theorem pn_sn (a : Addr) (w : World) : (binOp .neq 264 (.pointer (some a)) (.pointer none)).run Tryz.prog w = .ok (.bool true) w := by
 have h : ∀ d : Nat,(Op.equalIn (d + 1) 264 (.pointer (some a)) (.pointer none)).run Tryz.prog w = .ok false w := fun d => by
  simp [Op.equalIn,run_underlying Tryz.underlying264]
 simp only [binOp]
 simp [Op.equal,Op.maxDepth,h 9999]
theorem add0 (g : Nat) (x v : ByteArray) (p : Int) (r : Value) (w : World) (h : ND w g x 0 ⟨#[]⟩ (.pointer none) (.slice none 0 0)) :
  Calls Tryz.prog 230 #[.pointer (some ⟨g,0,none⟩),.string ⟨#[]⟩,.string v,.int .i64 p,r] w fun e w' => e = .returned (.tuple #[]) ∧ ND w' g v p ⟨#[]⟩ (.pointer none) (.slice none 0 0) ∧ But [g] w w' := by
 have c0 : w.cell? ⟨g,0,none⟩ = some (.string x) := h.cell 0
 have c1 : w.cell? ⟨g,1,none⟩ = some (.int .i64 0) := h.cell 1
 have f0 := h.frozen 0
 have f1 := h.frozen 1
 have H := Lib.hid h
 clear h
 go_enter Tryz.func230,Tryz.ntmps230
 go_wp2
 refine bodyPost_ret (v := .tuple #[]) (by simp [results,Tryz.results230,go_sem]) rfl ?_
 refine ⟨rfl,?_,(((But.refl [g] w).set ⟨g,0,none⟩ _ (.inl (by simp))).set ⟨g,1,none⟩ _ (.inl (by simp)))⟩
 have := (Blk.set_ H.out 0 (.string v)).set_ 1 (.int .i64 p)
 exact this
theorem add1 (g : Nat) (v : ByteArray) (p : Int) (r : Value) (w : World) (h : ND w g ⟨#[]⟩ 0 ⟨#[]⟩ (.pointer none) (.slice none 0 0)) :
  Calls Tryz.prog 230 #[.pointer (some ⟨g,0,none⟩),.string ⟨#[49]⟩,.string v,.int .i64 p,r] w fun e w' => e = .returned (.tuple #[]) ∧ ND w' g ⟨#[]⟩ 0 ⟨#[49]⟩ (.pointer (some ⟨w.heap.size,0,none⟩)) (.slice none 0 0) ∧ ND w' w.heap.size v p ⟨#[]⟩ (.pointer none) (.slice none 0 0) ∧ But [g] w w' := by
 have c2 : w.cell? ⟨g,2,none⟩ = some (.string ⟨#[]⟩) := h.cell 2
 have c3 : w.cell? ⟨g,3,none⟩ = some (.pointer none) := h.cell 3
 have c4 : w.cell? ⟨g,4,none⟩ = some (.slice none 0 0) := h.cell 4
 have f2 := h.frozen 2
 have f3 := h.frozen 3
 have hlt := h.lt
 obtain ⟨W,hW⟩ : ∃ W,W = ((w.setCell ⟨g,2,none⟩ (.string ⟨#[49]⟩)).setCell ⟨g,3,none⟩ (.pointer (some ⟨w.heap.size,0,none⟩))).alloc (.cells (nd ⟨#[]⟩ 0 ⟨#[]⟩ (.pointer none) (.slice none 0 0)) 267) := ⟨_,rfl⟩
 have hN : ND W w.heap.size ⟨#[]⟩ 0 ⟨#[]⟩ (.pointer none) (.slice none 0 0) := by
  rw [hW]; exact Blk.newAt _ _ _ _ (by simp)
 have hG : ND W g ⟨#[]⟩ 0 ⟨#[49]⟩ (.pointer (some ⟨w.heap.size,0,none⟩)) (.slice none 0 0) := by rw [hW]; exact ((Blk.set_ h 2 (.string ⟨#[49]⟩)).set_ 3 _).alloc _
 have hB : But [g] w W := by rw [hW]; exact (((But.refl [g] w).set _ _ (.inl (by simp))).set _ _ (.inl (by simp))).alloc _
 have HW := Lib.hid hW.symm
 have HN := Lib.hid hN
 have HG := Lib.hid hG
 have HB := Lib.hid hB
 have HL := Lib.hid hlt
 have q1 := sl_nn w
 clear h hN hG hB hW
 go_enter Tryz.func230,Tryz.ntmps230
 go_wp2_with (go_at_call 230; (rw [HW.out]); ((with_reducible refine (add0 _ _ v p r _ HN.out).mono ?_)); rintro e w' ⟨rfl,h1,h2⟩)
 go_end0
 have hl := HL.out
 exact ⟨rfl,Blk.but HG.out h2 (by simp; omega),h1,HB.out.trans h2 (fun x hx => hx) (fun x hx hxl => by simp at hx; omega)⟩
def mapF (i : Nat) : Int := if i = 36 then 0 else if i = 49 then 1 else if i = 50 then 2 else if i = 51 then 3 else 4
def gCells (tb : Value) (ts : Int) (m : Nat → Int) : Array Value := #[.string ⟨#[]⟩,.int .i64 0,.string ⟨#[]⟩,.pointer none,tb,.int .i64 ts] ++ ((List.range 256).map fun i => .int .u8 (m i)).toArray
def GR (w : World) (r : Nat) (tb : Value) : Prop := Blk w r 269 (gCells tb 4 mapF)
theorem gr_map (tb : Value) (ts : Int) (m : Nat → Int) (i : Nat) (h : i < 256) : (gCells tb ts m)[6 + i]? = some (.int .u8 (m i)) := by
 unfold gCells
 rw [Array.getElem?_append_right (by simp)]
 simp [h]
theorem gr_head (tb : Value) (ts : Int) (m : Nat → Int) (i : Nat) (h : i < 6) : (gCells tb ts m)[i]? = (#[.string ⟨#[]⟩,.int .i64 0,.string ⟨#[]⟩,.pointer none,tb,.int .i64 ts] : Array Value)[i]? := by
 unfold gCells
 rw [Array.getElem?_append_left (by simpa using h)]
def TT (w : World) (T : Nat) (a b c d : Value) : Prop := Blk w T 264 #[a,b,c,d]
abbrev nP (g : Nat) : Value := .pointer (some ⟨g,0,none⟩)
abbrev nT (T : Nat) : Value := .slice (some ⟨T,0,none⟩) 4 4
set_option pp.deepTerms true in
set_option pp.maxSteps 1000000 in
theorem add3 (g T r : Nat) (x k tb : Value) (v : ByteArray) (p : Int) (w0 : World) (h0 : ND w0 g ⟨#[]⟩ 0 ⟨#[]⟩ (.pointer none) (nT T)) (hT0 : TT w0 T (.pointer none) x k (.pointer none)) (hr0 : GR w0 r tb) :
  Calls Tryz.prog 230 #[nP g,.string ⟨#[51]⟩,.string v,.int .i64 p,nP r] w0 fun e w' => e = .returned (.tuple #[]) ∧ TT w' T (.pointer none) x k (nP w0.heap.size) ∧ ND w' w0.heap.size v p ⟨#[]⟩ (.pointer none) (.slice none 0 0) ∧ But [T] w0 w' := by
 have c2 : w0.cell? ⟨g,2,none⟩ = some (.string ⟨#[]⟩) := h0.cell 2
 have c4 : w0.cell? ⟨g,4,none⟩ = some (nT T) := h0.cell 4
 have t3 : w0.cell? ⟨T,3,none⟩ = some (.pointer none) := hT0.cell 3
 have f3 := hT0.frozen 3
 have m3 : w0.cell? ⟨r,57,none⟩ = some (.int .u8 3) := (hr0.cell 57).trans (gr_map tb 4 mapF 51 (by decide))
 have hlt := hT0.lt
 have hgl := h0.lt
 have hgT : g ≠ T := Blk.ne_ h0 hT0 (by decide)
 have q1 := sl_sn ⟨T,0,none⟩ 4 4
 have q2 := pt_nn
 have q3 : ((⟨#[51]⟩ : ByteArray)[0]'(by decide)).toNat = 51 := rfl
 have HH := Lib.hid h0
 have HT0 := Lib.hid hT0
 have HL := Lib.hid hlt
 clear h0 hT0 hr0
 go_enter Tryz.func230,Tryz.ntmps230
 go_wp2
 go_quiet (fail)
 obtain ⟨w,hw⟩ : ∃ w,w0.drewN nq = w := ⟨_,rfl⟩
 have hsz : w0.heap.size = w.heap.size := by rw [← hw]; rfl
 have hb0 : But [T] w0 w := by rw [← hw]; exact (But.refl [T] w0).drewN nq
 have h : ND w g ⟨#[]⟩ 0 ⟨#[]⟩ (.pointer none) (nT T) := by rw [← hw]; exact Blk.drewN HH.out nq
 have hT : TT w T (.pointer none) x k (.pointer none) := by rw [← hw]; exact Blk.drewN HT0.out nq
 have HSZ := Lib.hid hsz
 have hlt' : T < w.heap.size := by omega
 clear c2 c4 t3 f3 m3
 have c4 : w.cell? ⟨g,4,none⟩ = some (nT T) := h.cell 4
 have t3 : w.cell? ⟨T,3,none⟩ = some (.pointer none) := hT.cell 3
 have f3 := hT.frozen 3
 obtain ⟨W,hW⟩ : ∃ W,W = (w.setCell ⟨T,3,none⟩ (nP w.heap.size)).alloc (.cells (nd ⟨#[]⟩ 0 ⟨#[]⟩ (.pointer none) (.slice none 0 0)) 267) := ⟨_,rfl⟩
 have hN : ND W w.heap.size ⟨#[]⟩ 0 ⟨#[]⟩ (.pointer none) (.slice none 0 0) := by
  rw [hW]; exact Blk.newAt _ _ _ _ (by simp)
 have hTW : TT W T (.pointer none) x k (nP w.heap.size) := by rw [hW]; exact (hT.set_ 3 _).alloc _
 have hB : But [T] w W := by rw [hW]; exact ((But.refl [T] w).set _ _ (.inl (by simp))).alloc _
 have d4 : W.cell? ⟨g,4,none⟩ = some (nT T) := by rw [hW]; exact (((h.far (p := ⟨T,3,none⟩) hgT _).alloc _).cell 4)
 have e3 : W.cell? ⟨T,3,none⟩ = some (nP w.heap.size) := hTW.cell 3
 have HW := Lib.hid hW.symm
 have HN := Lib.hid hN
 have HT := Lib.hid hTW
 have HB := Lib.hid (hb0.trans hB (fun x hx => hx) (fun x hx _ => hx))
 clear h hT hN hTW hB hW hb0
 rw [hw]
 clear hw hsz
 have hN2 : ND W.drew w.heap.size ⟨#[]⟩ 0 ⟨#[]⟩ (.pointer none) (.slice none 0 0) := HN.out
 have HN2 := Lib.hid hN2
 clear hN2
 go_wp2
 rw [HW.out]
 go_region_with (go_at_call 230; (refine (add0 _ _ v p _ _ HN2.out).mono ?_); rintro e w' ⟨rfl,h1,h2⟩)
 all_goals
  go_end0
  rw [HSZ.out]
  exact ⟨rfl,Blk.but (w := W.drew) HT.out h2 (by simp; omega),h1,HB.out.trans ((But.refl [] W).drewN 1 |>.trans h2 (U := [w.heap.size]) (by simp) (fun x hx _ => hx)) (fun x hx => hx) (fun x hx hxl => by have := HSZ.out; simp at hx; omega)⟩
end Go.Proofs.YtjmmninopagpjaaGreatDoor
namespace Go.Proofs.YtjmmninopagpjaaGreatDoor
open Go.ChangeShapes Go.WideShapes Go.ChangeAt Go.RowKit
set_option maxRecDepth 100000
theorem pu1 {α : Type _} {xs : List α} {i : Nat} (h : i < xs.toArray.size) : xs.toArray[i] = xs[i]'(by simpa using h) := by simp
theorem pu2 {α : Type _} (a : α) (l : List α) (i : Nat) (h : i + 1 < (a :: l).length) : (a :: l)[i + 1] = l[i]'(by simpa using h) := rfl
theorem pu3 {α : Type _} (a : α) (l : List α) : (a :: l)[0]'(by simp) = a := rfl
theorem pu4 {α : Type _} (l : List α) (i : Nat) (a : α) : l.toArray.setIfInBounds i a = (l.set i a).toArray := by simp
theorem pu5 {α : Type _} (a b : α) (l : List α) : (a :: l).set 0 b = b :: l := rfl
theorem pu6 {α : Type _} (a b : α) (l : List α) (n : Nat) : (a :: l).set (n + 1) b = a :: l.set n b := rfl
theorem pu.{u} : (∀ (α : Type u) (xs : List α) (i : Nat) (h : i < xs.toArray.size),xs.toArray[i] = xs[i]'(by simpa using h)) ∧ (∀ (α : Type u) (a : α) (l : List α) (i : Nat) (h : i + 1 < (a :: l).length),(a :: l)[i + 1] = l[i]'(by simpa using h)) ∧ (∀ (α : Type u) (a : α) (l : List α),(a :: l)[0]'(by simp) = a) ∧ (∀ (α : Type u) (l : List α) (i : Nat) (a : α),l.toArray.setIfInBounds i a = (l.set i a).toArray) ∧ (∀ (α : Type u) (a b : α) (l : List α),(a :: l).set 0 b = b :: l) ∧ (∀ (α : Type u) (a b : α) (l : List α) (n : Nat),(a :: l).set (n + 1) b = a :: l.set n b) := ⟨fun _ _ _ h => pu1 h,fun _ a l i h => pu2 a l i h,fun _ a l => pu3 a l,fun _ l i a => pu4 l i a,fun _ a b l => pu5 a b l,fun _ a b l n => pu6 a b l n⟩
section
variable {P : Program} {ops : Array Oper} {Q : Exit → Act → World → Prop} {md : Region.Mode} {S : World → Prop} {fuel : Nat} {listed : Array Bool} {a : Act} {w : World}
theorem tkY (i : Nat) (v : Value) {oi : Oper} (hi : ops[i]? = some oi) (hS : S w) (hy : ∀ w,S w → (execOp a.eval oi).run P w = .ok (.value v) w) (h : wpAnyH P md ops Q S fuel (listed.setIfInBounds i true) (a.put oi.dst v) w)
  (hs : Region.noSelect ops = true := by kernel_rfl) (hf : Region.free md ops listed i = true := by kernel_rfl) (hr : (Region.ready md ops listed).contains i = true := by kernel_rfl) (hw : Region.wanted oi (yielded ops a.tmps) = true := by kernel_rfl)
  (hQ : ∀ c a w,Q (.panic c) (a.put oi.dst v) w → Q (.panic c) a w := by exact fun _ _ _ h => h) : wpAnyH P md ops Q S (fuel + 1) listed a w := wpAnyH_take hi hs hf hr hQ (.inl ⟨hw,hy⟩) hS h
theorem tkN (i : Nat) {oi : Oper} (hi : ops[i]? = some oi) (hS : S w) (h : wpAnyH P md ops Q S fuel (listed.setIfInBounds i true) (a.put oi.dst undef) w)
  (hs : Region.noSelect ops = true := by kernel_rfl) (hf : Region.free md ops listed i = true := by kernel_rfl) (hr : (Region.ready md ops listed).contains i = true := by kernel_rfl) (hw : Region.wanted oi (yielded ops a.tmps) = false := by kernel_rfl)
  (hQ : ∀ c a w,Q (.panic c) (a.put oi.dst undef) w → Q (.panic c) a w := by exact fun _ _ _ h => h) : wpAnyH P md ops Q S (fuel + 1) listed a w := wpAnyH_take hi hs hf hr hQ (.inr ⟨hw,rfl⟩) hS h
end
theorem bcl {w wz : World} {b o : Nat} {v : Option Value} (hS : Below w.heap.size w wz) (hb : b < w.heap.size) (h : w.cell? ⟨b,o,none⟩ = v) : wz.cell? ⟨b,o,none⟩ = v := (hS.cell (p := ⟨b,o,none⟩) hb).trans h
theorem bk2 {w wz : World} {g : Nat} {t : TypeId} {a b : Value} (h : Blk w g t #[a,b]) (hS : Below w.heap.size w wz) : wz.cell? ⟨g,0,none⟩ = some a ∧ wz.cell? ⟨g,1,none⟩ = some b := ⟨(h.below hS h.lt).cell 0,(h.below hS h.lt).cell 1⟩

abbrev Rw : Type := Int × Int
abbrev Tb : Type := ByteArray × List Rw
def RR (w : World) (v : Value) (l : List Rw) : Prop :=
 (∃ a cap,l = [] ∧ v = .slice a 0 cap) ∨ ∃ g off cap,v = .slice (some ⟨g,off,none⟩) l.length cap ∧ l.length ≤ cap ∧ ∀ (i : Nat) (r : Rw),l[i]? = some r → w.cell? ⟨g,off + i * 2,none⟩ = some (.int .i64 r.1) ∧ w.cell? ⟨g,off + i * 2 + 1,none⟩ = some (.int .i64 r.2)
theorem RR.keep {w w' : World} {v : Value} {l : List Rw} (h : RR w v l) (hk : ∀ p : Addr,(w.cell? p).isSome = true → w'.cell? p = w.cell? p) : RR w' v l := by
 rcases h with h | ⟨g,off,cap,e,hc,hx⟩
 ·exact .inl h
 ·refine .inr ⟨g,off,cap,e,hc,fun i r hi => ?_⟩
  obtain ⟨h1,h2⟩ := hx i r hi
  exact ⟨(hk _ (by rw [h1]; rfl)).trans h1,(hk _ (by rw [h2]; rfl)).trans h2⟩
theorem bel_keep {w w' : World} (hb : Below w.heap.size w w') : ∀ p : Addr,(w.cell? p).isSome = true → w'.cell? p = w.cell? p := fun p hp => by
 obtain ⟨x,hx⟩ := Option.isSome_iff_exists.1 hp
 exact hb.cell (World.block_lt_of_cell? w p hx)
theorem RR.below {w w' : World} {v : Value} {l : List Rw} (h : RR w v l) (hb : Below w.heap.size w w') : RR w' v l := h.keep (bel_keep hb)
theorem RR.form {w : World} {v : Value} {l : List Rw} (h : RR w v l) : ∃ a cap,v = .slice a l.length cap := by
 rcases h with ⟨a,cap,rfl,rfl⟩ | ⟨g,off,cap,rfl,_⟩
 ·exact ⟨_,_,rfl⟩
 ·exact ⟨_,_,rfl⟩
theorem RR.inv {w : World} {v : Value} {l : List Rw} (h : RR w v l) (hp : 0 < l.length) : ∃ g off cap,v = .slice (some ⟨g,off,none⟩) l.length cap ∧ l.length ≤ cap ∧ ∀ (i : Nat) (r : Rw),l[i]? = some r → w.cell? ⟨g,off + i * 2,none⟩ = some (.int .i64 r.1) ∧ w.cell? ⟨g,off + i * 2 + 1,none⟩ = some (.int .i64 r.2) := by
 rcases h with ⟨a,cap,rfl,rfl⟩ | h
 ·simp at hp
 ·exact h
def SR (w : World) (v : Value) (s : List Tb) : Prop :=
 (∃ a cap,s = [] ∧ v = .slice a 0 cap) ∨ ∃ g off cap,v = .slice (some ⟨g,off,none⟩) s.length cap ∧ s.length ≤ cap ∧ ∀ (i : Nat) (t : Tb),s[i]? = some t → w.cell? ⟨g,off + i * 2,none⟩ = some (.string t.1) ∧ ∃ u,w.cell? ⟨g,off + i * 2 + 1,none⟩ = some u ∧ RR w u t.2
theorem SR.keep {w w' : World} {v : Value} {s : List Tb} (h : SR w v s) (hk : ∀ p : Addr,(w.cell? p).isSome = true → w'.cell? p = w.cell? p) : SR w' v s := by
 rcases h with h | ⟨g,off,cap,e,hc,hx⟩
 ·exact .inl h
 ·refine .inr ⟨g,off,cap,e,hc,fun i t hi => ?_⟩
  obtain ⟨h1,u,h2,h3⟩ := hx i t hi
  exact ⟨(hk _ (by rw [h1]; rfl)).trans h1,u,(hk _ (by rw [h2]; rfl)).trans h2,h3.keep hk⟩
theorem SR.below {w w' : World} {v : Value} {s : List Tb} (h : SR w v s) (hb : Below w.heap.size w w') : SR w' v s := h.keep (bel_keep hb)
theorem SR.form {w : World} {v : Value} {s : List Tb} (h : SR w v s) : ∃ a cap,v = .slice a s.length cap := by
 rcases h with ⟨a,cap,rfl,rfl⟩ | ⟨g,off,cap,rfl,_⟩
 ·exact ⟨_,_,rfl⟩
 ·exact ⟨_,_,rfl⟩
theorem SR.inv {w : World} {v : Value} {s : List Tb} (h : SR w v s) (hp : 0 < s.length) : ∃ g off cap,v = .slice (some ⟨g,off,none⟩) s.length cap ∧ s.length ≤ cap ∧ ∀ (i : Nat) (t : Tb),s[i]? = some t → w.cell? ⟨g,off + i * 2,none⟩ = some (.string t.1) ∧ ∃ u,w.cell? ⟨g,off + i * 2 + 1,none⟩ = some u ∧ RR w u t.2 := by
 rcases h with ⟨a,cap,rfl,rfl⟩ | h
 ·simp at hp
 ·exact h

def fl : List (Value × Value) → List Value
 | [] => []
 | p :: t => p.1 :: p.2 :: fl t
theorem fl_len : ∀ l : List (Value × Value),(fl l).length = l.length * 2
 | [] => rfl
 | p :: t => by rw [fl,List.length_cons,List.length_cons,fl_len t,List.length_cons]; omega
theorem fl_append : ∀ l m : List (Value × Value),fl (l ++ m) = fl l ++ fl m
 | [],m => rfl
 | p :: t,m => by rw [List.cons_append,fl,fl_append t m]; rfl
theorem fl_take : ∀ (l : List (Value × Value)) (k : Nat),fl (l.take k) = (fl l).take (k * 2)
 | l,0 => by simp [fl]
 | [],k + 1 => by simp [fl]
 | p :: t,k + 1 => by rw [List.take_succ_cons,fl,fl,fl_take t k,show (k + 1) * 2 = k * 2 + 1 + 1 by omega,List.take_succ_cons,List.take_succ_cons]
theorem fl_drop : ∀ (l : List (Value × Value)) (k : Nat),fl (l.drop k) = (fl l).drop (k * 2)
 | l,0 => by simp
 | [],k + 1 => by simp [fl]
 | p :: t,k + 1 => by rw [List.drop_succ_cons,fl,fl_drop t k,show (k + 1) * 2 = k * 2 + 1 + 1 by omega,List.drop_succ_cons,List.drop_succ_cons]
theorem fl_at : ∀ (l : List (Value × Value)) (i : Nat) (p : Value × Value),l[i]? = some p → (fl l)[i * 2]? = some p.1 ∧ (fl l)[i * 2 + 1]? = some p.2
 | [],i,p,h => by simp at h
 | q :: t,0,p,h => by simp at h; subst h; exact ⟨rfl,rfl⟩
 | q :: t,i + 1,p,h => by
  have := fl_at t i p (by simpa using h)
  rw [fl,show (i + 1) * 2 = i * 2 + 1 + 1 by omega,List.getElem?_cons_succ,List.getElem?_cons_succ,List.getElem?_cons_succ,List.getElem?_cons_succ]
  exact this
theorem fl_set1 : ∀ (l : List (Value × Value)) (i : Nat) (p : Value × Value) (u : Value),l[i]? = some p → (fl l).set (i * 2) u = fl (l.set i (u,p.2))
 | [],i,p,u,h => by simp at h
 | q :: t,0,p,u,h => by simp at h; subst h; rfl
 | q :: t,i + 1,p,u,h => by
  rw [fl,show (i + 1) * 2 = i * 2 + 1 + 1 by omega,List.set_cons_succ,List.set_cons_succ,List.set_cons_succ,fl,fl_set1 t i p u (by simpa using h)]
theorem fl_set2 : ∀ (l : List (Value × Value)) (i : Nat) (p : Value × Value) (u : Value),l[i]? = some p → (fl l).set (i * 2 + 1) u = fl (l.set i (p.1,u))
 | [],i,p,u,h => by simp at h
 | q :: t,0,p,u,h => by simp at h; subst h; rfl
 | q :: t,i + 1,p,u,h => by
  rw [fl,show (i + 1) * 2 + 1 = i * 2 + 1 + 1 + 1 by omega,List.set_cons_succ,List.set_cons_succ,List.set_cons_succ,fl,fl_set2 t i p u (by simpa using h)]
theorem fl_all (q : Value → Bool) : ∀ l : List (Value × Value),(∀ p ∈ l,q p.1 = true ∧ q p.2 = true) → ∀ v ∈ fl l,q v = true
 | [],_,v,h => by simp [fl] at h
 | p :: t,hp,v,h => by
  rw [fl,List.mem_cons,List.mem_cons] at h
  rcases h with rfl | rfl | h
  ·exact (hp p (by simp)).1
  ·exact (hp p (by simp)).2
  ·exact fl_all q t (fun x hx => hp x (by simp [hx])) v h
theorem fl_inv : ∀ (l : List (Value × Value)) (j : Nat) (u : Value),(fl l)[j]? = some u → ∃ i p,l[i]? = some p ∧ ((j = i * 2 ∧ u = p.1) ∨ (j = i * 2 + 1 ∧ u = p.2))
 | [],j,u,h => by simp [fl] at h
 | p :: t,0,u,h => by simp [fl] at h; exact ⟨0,p,rfl,.inl ⟨rfl,h.symm⟩⟩
 | p :: t,1,u,h => by simp [fl] at h; exact ⟨0,p,rfl,.inr ⟨rfl,h.symm⟩⟩
 | p :: t,j + 2,u,h => by
  rw [fl,List.getElem?_cons_succ,List.getElem?_cons_succ] at h
  obtain ⟨i,q,h1,h2⟩ := fl_inv t j u h
  refine ⟨i + 1,q,by simpa using h1,?_⟩
  rcases h2 with ⟨h2,h3⟩ | ⟨h2,h3⟩
  ·exact .inl ⟨by omega,h3⟩
  ·exact .inr ⟨by omega,h3⟩

abbrev rp (r : Rw) : Value × Value := (.int .i64 r.1,.int .i64 r.2)
def rcs (l : List Rw) : List Value := fl (l.map rp)
theorem rcs_len (l : List Rw) : (rcs l).length = l.length * 2 := by unfold rcs; rw [fl_len,List.length_map]
theorem rcs_one (l : List Rw) : ∀ v ∈ rcs l,v.oneCell' = true := fl_all _ _ fun p hp => by
 obtain ⟨r,_,rfl⟩ := List.mem_map.1 hp
 exact ⟨rfl,rfl⟩
theorem rcs_at (l : List Rw) (i : Nat) (r : Rw) (h : l[i]? = some r) : (rcs l)[i * 2]? = some (.int .i64 r.1) ∧ (rcs l)[i * 2 + 1]? = some (.int .i64 r.2) :=
 fl_at _ i (rp r) (by rw [List.getElem?_map,h]; rfl)
theorem rcs_append (l m : List Rw) : rcs (l ++ m) = rcs l ++ rcs m := by unfold rcs; rw [List.map_append,fl_append]
theorem rcs_take (l : List Rw) (k : Nat) : rcs (l.take k) = (rcs l).take (k * 2) := by unfold rcs; rw [List.map_take,fl_take]
def OR (B : Nat) (w : World) (v : Value) (l : List Rw) : Prop := w.ownsRow B 65 2 v l.length (rcs l)
abbrev Tv : Type := ByteArray × Value × List Rw
def tcs (x : List Tv) : List Value := fl (x.map fun t => (.string t.1,t.2.1))
def tbs (x : List Tv) : List Tb := x.map fun t => (t.1,t.2.2)
theorem tcs_len (x : List Tv) : (tcs x).length = x.length * 2 := by unfold tcs; rw [fl_len,List.length_map]
theorem tcs_at (x : List Tv) (i : Nat) (t : Tv) (h : x[i]? = some t) : (tcs x)[i * 2]? = some (.string t.1) ∧ (tcs x)[i * 2 + 1]? = some t.2.1 :=
 fl_at _ i (.string t.1,t.2.1) (by rw [List.getElem?_map,h]; rfl)
theorem tcs_append (x y : List Tv) : tcs (x ++ y) = tcs x ++ tcs y := by unfold tcs; rw [List.map_append,fl_append]
theorem tcs_take (x : List Tv) (k : Nat) : tcs (x.take k) = (tcs x).take (k * 2) := by unfold tcs; rw [List.map_take,fl_take]
theorem tcs_drop (x : List Tv) (k : Nat) : tcs (x.drop k) = (tcs x).drop (k * 2) := by unfold tcs; rw [List.map_drop,fl_drop]
theorem tcs_set (x : List Tv) (i : Nat) (t : Tv) (u : Value) (l : List Rw) (h : x[i]? = some t) : (tcs x).set (i * 2 + 1) u = tcs (x.set i (t.1,u,l)) := by
 unfold tcs
 rw [fl_set2 _ i (.string t.1,t.2.1) u (by rw [List.getElem?_map,h]; rfl),List.map_set]
theorem tcs_name (x : List Tv) (i : Nat) (t : Tv) (n : ByteArray) (l : List Rw) (h : x[i]? = some t) : (tcs x).set (i * 2) (.string n) = tcs (x.set i (n,t.2.1,l)) := by
 unfold tcs
 rw [fl_set1 _ i (.string t.1,t.2.1) _ (by rw [List.getElem?_map,h]; rfl),List.map_set]
theorem tbs_len (x : List Tv) : (tbs x).length = x.length := List.length_map ..
theorem tbs_inv (x : List Tv) (i : Nat) (t : Tb) (h : (tbs x)[i]? = some t) : ∃ u,x[i]? = some (t.1,u,t.2) := by
 unfold tbs at h
 rw [List.getElem?_map] at h
 cases hx : x[i]? with
 | none => rw [hx] at h; cases h
 | some y => rw [hx] at h; injection h with h; subst h; exact ⟨y.2.1,rfl⟩
theorem tbs_set (x : List Tv) (i : Nat) (n : ByteArray) (u : Value) (l : List Rw) : tbs (x.set i (n,u,l)) = (tbs x).set i (n,l) := by unfold tbs; rw [List.map_set]
def aprt (a b : Tv) : Prop := a.2.1.ownBlock = none ∨ a.2.1.ownBlock ≠ b.2.1.ownBlock
structure FS (B : Nat) (w : World) (v : Value) (x : List Tv) : Prop where
 own : w.ownsRow B 63 2 v x.length (tcs x)
 rows : ∀ t ∈ x,OR B w t.2.1 t.2.2
 apart : ∀ (i j : Nat) (a b : Tv),i ≠ j → x[i]? = some a → x[j]? = some b → aprt a b
theorem own_keep {w w' : World} {B : Nat} {e : TypeId} {z n : Nat} {v : Value} {xs : List Value} (h : w.ownsRow B e z v n xs) (hk : ∀ g,v.ownBlock = some g → w'.heap[g]? = w.heap[g]?) : w'.ownsRow B e z v n xs := by
 refine ⟨h.1,?_⟩
 rcases h.2 with h2 | ⟨g,cap,cur,rfl,hb,hg,hr⟩
 ·exact .inl h2
 ·exact .inr ⟨g,cap,cur,rfl,hb,(hk g rfl).trans hg,hr⟩
theorem own_mono {w : World} {B B' : Nat} {e : TypeId} {z n : Nat} {v : Value} {xs : List Value} (h : w.ownsRow B e z v n xs) (hB : B' ≤ B) : w.ownsRow B' e z v n xs := by
 refine ⟨h.1,?_⟩
 rcases h.2 with h2 | ⟨g,cap,cur,rfl,hb,hr⟩
 ·exact .inl h2
 ·exact .inr ⟨g,cap,cur,rfl,Nat.le_trans hB hb,hr⟩
theorem own_sh2 {w : World} {B z n : Nat} {e : TypeId} {v : Value} {xs : List Value} (h : w.ownsRow B e z v n xs) : ∃ a c,v = .slice a n c := by
 rcases h.2 with ⟨rfl,h0⟩ | ⟨g,cap,cur,rfl,_⟩
 ·exact ⟨_,_,by rw [h0]⟩
 ·exact ⟨_,_,rfl⟩
theorem own_type {w : World} {B z n g : Nat} {e : TypeId} {v : Value} {xs : List Value} (h : w.ownsRow B e z v n xs) (hg : v.ownBlock = some g) : ∃ cur,Blk w g e cur := by
 rcases h.2 with ⟨rfl,h0⟩ | ⟨g',cap,cur,rfl,_,hh,_⟩
 ·cases hg
 ·simp [Value.ownBlock] at hg; subst hg; exact ⟨cur,hh⟩
theorem own_ne {w : World} {B B' z n z' n' g g' : Nat} {e e' : TypeId} {v v' : Value} {xs xs' : List Value} (h : w.ownsRow B e z v n xs) (h' : w.ownsRow B' e' z' v' n' xs') (hg : v.ownBlock = some g) (hg' : v'.ownBlock = some g') (hne : e ≠ e') : g ≠ g' := by
 obtain ⟨c,hc⟩ := own_type h hg
 obtain ⟨c',hc'⟩ := own_type h' hg'
 exact hc.ne_ hc' hne
theorem own_below {w w' : World} {B : Nat} {e : TypeId} {z n : Nat} {v : Value} {xs : List Value} (h : w.ownsRow B e z v n xs) (hb : Below w.heap.size w w') : w'.ownsRow B e z v n xs :=
 own_keep h fun g hg => hb.block g (h.lt g hg).2
theorem OR.rr {B : Nat} {w : World} {v : Value} {l : List Rw} (h : OR B w v l) : RR w v l := by
 rcases h.2 with ⟨rfl,h0⟩ | ⟨g,cap,cur,rfl,hb,hg,hn,_,hs,ht⟩
 ·exact .inl ⟨_,_,List.eq_nil_of_length_eq_zero h0,rfl⟩
 ·refine .inr ⟨g,0,cap,rfl,hn,fun i r hi => ?_⟩
  obtain ⟨h1,h2⟩ := rcs_at l i r hi
  have hl : i < l.length := (List.getElem?_eq_some_iff.1 hi).1
  have c := fun j hj => World.ownsRow.cellAt h (g := g) (n := l.length) (cap := cap) j hj
  rw [Nat.zero_add]
  exact ⟨(c (i * 2) (by omega)).trans h1,(c (i * 2 + 1) (by omega)).trans h2⟩
theorem FS.sr {B : Nat} {w : World} {v : Value} {x : List Tv} (h : FS B w v x) : SR w v (tbs x) := by
 rcases h.own.2 with ⟨rfl,h0⟩ | ⟨g,cap,cur,rfl,hb,hg,hn,_,hs,ht⟩
 ·have : x = [] := List.eq_nil_of_length_eq_zero h0
  subst this
  exact .inl ⟨_,_,rfl,rfl⟩
 ·refine .inr ⟨g,0,cap,by rw [tbs_len],by rw [tbs_len]; exact hn,fun i t hi => ?_⟩
  obtain ⟨u,hu⟩ := tbs_inv x i t hi
  obtain ⟨h1,h2⟩ := tcs_at x i _ hu
  have hl : i < x.length := (List.getElem?_eq_some_iff.1 hu).1
  have c := fun j hj => World.ownsRow.cellAt h.own (g := g) (n := x.length) (cap := cap) j hj
  rw [Nat.zero_add]
  exact ⟨(c (i * 2) (by omega)).trans h1,u,(c (i * 2 + 1) (by omega)).trans h2,(h.rows _ (List.mem_of_getElem? hu)).rr⟩
theorem FS.keep {w w' : World} {B : Nat} {v : Value} {x : List Tv} (h : FS B w v x) (h1 : ∀ g,v.ownBlock = some g → w'.heap[g]? = w.heap[g]?) (h2 : ∀ t ∈ x,∀ g,t.2.1.ownBlock = some g → w'.heap[g]? = w.heap[g]?) : FS B w' v x :=
 ⟨own_keep h.own h1,fun t ht => own_keep (h.rows t ht) (h2 t ht),h.apart⟩
theorem FS.below {w w' : World} {B : Nat} {v : Value} {x : List Tv} (h : FS B w v x) (hb : Below w.heap.size w w') : FS B w' v x :=
 h.keep (fun g hg => hb.block g (h.own.lt g hg).2) (fun t ht g hg => hb.block g ((h.rows t ht).lt g hg).2)
theorem FS.mono {w : World} {B B' : Nat} {v : Value} {x : List Tv} (h : FS B w v x) (hB : B' ≤ B) : FS B' w v x :=
 ⟨own_mono h.own hB,fun t ht => own_mono (h.rows t ht) hB,h.apart⟩
theorem FS.form {w : World} {B : Nat} {v : Value} {x : List Tv} (h : FS B w v x) (hp : 0 < x.length) : ∃ g cap,v = .slice (some ⟨g,0,none⟩) x.length cap ∧ B ≤ g ∧ g < w.heap.size := h.own.form hp
theorem FS.at_ {w : World} {B g cap : Nat} {x : List Tv} (h : FS B w (.slice (some ⟨g,0,none⟩) x.length cap) x) (i : Nat) (t : Tv) (hi : x[i]? = some t) : w.cell? ⟨g,i * 2,none⟩ = some (.string t.1) ∧ w.cell? ⟨g,i * 2 + 1,none⟩ = some t.2.1 := by
 obtain ⟨h1,h2⟩ := tcs_at x i t hi
 have hl : i < x.length := (List.getElem?_eq_some_iff.1 hi).1
 have c := fun j hj => World.ownsRow.cellAt h.own (g := g) (n := x.length) (cap := cap) j hj
 exact ⟨(c (i * 2) (by omega)).trans h1,(c (i * 2 + 1) (by omega)).trans h2⟩
theorem ty_ne : (63 : TypeId) ≠ 65 := by decide
end Go.Proofs.YtjmmninopagpjaaGreatDoor
