/- What package back's Encode answers where the kind is none, and words for the rest. Condition: what is told is of at most so many and so long texts (Few). -/
import Derived.Test.YtnjifbgjglniaaaBko
import Derived.Test.YtnjifbgjglniaaaBkp
import Derived.Test.YtnjifbgjglniaaaBkq
import Derived.Test.YtnjifbgjglniaaaBkl
import Derived.Deep.LoopGhost
import Derived.Deep.RegionWith
import Derived.BigQuiet
import Derived.Deep.CutBlock
import Derived.Deep.QuietTactic
namespace Go.Proofs.Ytnjifbgjglniaaa.BK
open Go.Proofs.Ytnjifbgjglniaaa
open Go.ChangeShapes Go.WideShapes Go.ChangeAt Go.RowKit
set_option linter.unusedVariables false
set_option linter.unusedSimpArgs false
set_option maxRecDepth 100000
attribute [local go_sem ↓] Go.wp_at_zero Go.wp_at_succ

theorem pu1 {α : Type _} {xs : List α} {i : Nat} (h : i < xs.toArray.size) : xs.toArray[i] = xs[i]'(by simpa using h) := by simp
theorem pu2 {α : Type _} (a : α) (l : List α) (i : Nat) (h : i + 1 < (a :: l).length) : (a :: l)[i + 1] = l[i]'(by simpa using h) := rfl
theorem pu3 {α : Type _} (a : α) (l : List α) : (a :: l)[0]'(by simp) = a := rfl
theorem pu4 {α : Type _} (l : List α) (i : Nat) (a : α) : l.toArray.setIfInBounds i a = (l.set i a).toArray := by simp
theorem pu5 {α : Type _} (a b : α) (l : List α) : (a :: l).set 0 b = b :: l := rfl
theorem pu6 {α : Type _} (a b : α) (l : List α) (n : Nat) : (a :: l).set (n + 1) b = a :: l.set n b := rfl
theorem pu.{u} : (∀ (α : Type u) (xs : List α) (i : Nat) (h : i < xs.toArray.size), xs.toArray[i] = xs[i]'(by simpa using h)) ∧ (∀ (α : Type u) (a : α) (l : List α) (i : Nat) (h : i + 1 < (a :: l).length), (a :: l)[i + 1] = l[i]'(by simpa using h)) ∧ (∀ (α : Type u) (a : α) (l : List α), (a :: l)[0]'(by simp) = a) ∧ (∀ (α : Type u) (l : List α) (i : Nat) (a : α), l.toArray.setIfInBounds i a = (l.set i a).toArray) ∧ (∀ (α : Type u) (a b : α) (l : List α), (a :: l).set 0 b = b :: l) ∧ (∀ (α : Type u) (a b : α) (l : List α) (n : Nat), (a :: l).set (n + 1) b = a :: l.set n b) := ⟨fun _ _ _ h => pu1 h, fun _ a l i h => pu2 a l i h, fun _ a l => pu3 a l, fun _ l i a => pu4 l i a, fun _ a b l => pu5 a b l, fun _ a b l n => pu6 a b l n⟩
section
variable {P : Program} {ops : Array Oper} {Q : Exit → Act → World → Prop} {md : Region.Mode} {S : World → Prop} {fuel : Nat} {listed : Array Bool} {a : Act} {w : World}
theorem tkY (i : Nat) (v : Value) {oi : Oper} (hi : ops[i]? = some oi) (hS : S w) (hy : ∀ w, S w → (execOp a.eval oi).run P w = .ok (.value v) w) (h : wpAnyH P md ops Q S fuel (listed.setIfInBounds i true) (a.put oi.dst v) w)
    (hs : Region.noSelect ops = true := by kernel_rfl) (hf : Region.free md ops listed i = true := by kernel_rfl) (hr : (Region.ready md ops listed).contains i = true := by kernel_rfl) (hw : Region.wanted oi (yielded ops a.tmps) = true := by kernel_rfl)
    (hQ : ∀ c a w, Q (.panic c) (a.put oi.dst v) w → Q (.panic c) a w := by exact fun _ _ _ h => h) : wpAnyH P md ops Q S (fuel + 1) listed a w := wpAnyH_take hi hs hf hr hQ (.inl ⟨hw, hy⟩) hS h
theorem tkN (i : Nat) {oi : Oper} (hi : ops[i]? = some oi) (hS : S w) (h : wpAnyH P md ops Q S fuel (listed.setIfInBounds i true) (a.put oi.dst undef) w)
    (hs : Region.noSelect ops = true := by kernel_rfl) (hf : Region.free md ops listed i = true := by kernel_rfl) (hr : (Region.ready md ops listed).contains i = true := by kernel_rfl) (hw : Region.wanted oi (yielded ops a.tmps) = false := by kernel_rfl)
    (hQ : ∀ c a w, Q (.panic c) (a.put oi.dst undef) w → Q (.panic c) a w := by exact fun _ _ _ h => h) : wpAnyH P md ops Q S (fuel + 1) listed a w := wpAnyH_take hi hs hf hr hQ (.inr ⟨hw, rfl⟩) hS h
end
/-- the blocks of Encode's own, when b is made -/
structure Mi2 (w : World) (cs : Array Value) (X : Nat) (p q : Value) (wx : World) : Prop where
  b0 : Blk wx w.heap.size 28 cs
  b1 : Blk wx (w.heap.size + 1) 23 #[.int .u8 0, .string ⟨#[]⟩]
  bX : Blk wx X 51 #[p, q]
  hX : w.heap.size + 2 ≤ X
  bel : Below w.heap.size w wx
theorem Mi2.below {w : World} {cs : Array Value} {X : Nat} {p q : Value} {wx wy : World} (h : Mi2 w cs X p q wx) (hb : Below wx.heap.size wx wy) : Mi2 w cs X p q wy :=
  ⟨h.b0.below hb h.b0.lt, h.b1.below hb h.b1.lt, h.bX.below hb h.bX.lt, h.hX, h.bel.trans (hb.mono h.bel.size)⟩
theorem Mi2.kept {w : World} {cs : Array Value} {X : Nat} {p q : Value} {wx wy : World} {S : List Nat} (h : Mi2 w cs X p q wx) (hk : Keeps S wx wy) (h0 : w.heap.size ∉ S) (h1 : w.heap.size + 1 ∉ S) (h2 : X ∉ S) (h3 : ∀ i ∈ S, w.heap.size ≤ i) : Mi2 w cs X p q wy :=
  ⟨h.b0.keeps hk h0, h.b1.keeps hk h1, h.bX.keeps hk h2, h.hX, h.bel.trans (hk.below h3 h.bel.size)⟩
theorem mi2_new {w w1 : World} {cs : Array Value} {p q : Value}
    (hB : Below ((w.alloc (.cells cs 28)).alloc (.cells #[.int .u8 0, .string ⟨#[]⟩] 23)).heap.size ((w.alloc (.cells cs 28)).alloc (.cells #[.int .u8 0, .string ⟨#[]⟩] 23)) w1) :
    Mi2 w cs w1.heap.size p q (w1.alloc (.cells #[p, q] 51)) := by
  have z : ((w.alloc (.cells cs 28)).alloc (.cells #[.int .u8 0, .string ⟨#[]⟩] 23)).heap.size = w.heap.size + 2 := by simp
  have hz := hB.size
  rw [z] at hz
  have g0 := (Blk.new w 28 cs).alloc (.cells #[.int .u8 0, .string ⟨#[]⟩] 23)
  have g1 := Blk.new (w.alloc (.cells cs 28)) 23 #[.int .u8 0, .string ⟨#[]⟩]
  rw [show (w.alloc (.cells cs 28)).heap.size = w.heap.size + 1 by simp] at g1
  have c0 : Blk w1 w.heap.size 28 cs := g0.below hB (by rw [z]; omega)
  have c1 : Blk w1 (w.heap.size + 1) 23 #[.int .u8 0, .string ⟨#[]⟩] := g1.below hB (by rw [z]; omega)
  refine ⟨c0.alloc _, c1.alloc _, Blk.new _ _ _, hz, ?_⟩
  have h1 : Below w.heap.size w w1 := (((Below.refl _ _).alloc (Nat.le_refl _) _).alloc (by simp) _).trans (hB.mono (by rw [z]; omega))
  exact h1.alloc h1.size _
/-- the same, and the message m is made at Y -/
structure Mi3 (w : World) (cs : Array Value) (X : Nat) (p q : Value) (Y : Nat) (ms : Array Value) (wx : World) : Prop where
  m : Mi2 w cs X p q wx
  bY : Blk wx Y 23 ms
  hY : w.heap.size + 2 ≤ Y
theorem Mi3.below {w : World} {cs : Array Value} {X Y : Nat} {p q : Value} {ms : Array Value} {wx wy : World} (h : Mi3 w cs X p q Y ms wx) (hb : Below wx.heap.size wx wy) : Mi3 w cs X p q Y ms wy :=
  ⟨h.m.below hb, h.bY.below hb h.bY.lt, h.hY⟩
theorem mi3_late {w w4 : World} {cs : Array Value} {X : Nat} {p q : Value} (h : Mi2 w cs X p q w4) (ms : Array Value) : Mi3 w cs X p q w4.heap.size ms (w4.alloc (.cells ms 23)) :=
  ⟨h.below ((Below.refl _ _).alloc (Nat.le_refl _) _), Blk.new _ _ _, by have := h.hX; have := h.bX.lt; omega⟩
theorem mi3_early {w w2 w4 : World} {cs : Array Value} {X : Nat} {p q : Value} (h : Mi2 w cs X p q w2) (a b x y : Value)
    (hB : Below (w2.alloc (.cells #[a, b] 23)).drew.heap.size (w2.alloc (.cells #[a, b] 23)).drew w4) :
    Mi3 w cs X p q w2.heap.size #[x, y] ((w4.setCell ⟨w2.heap.size, 0, none⟩ x).setCell ⟨w2.heap.size, 1, none⟩ y) := by
  have hX := h.hX
  have lX := h.bX.lt
  have h1 : Mi2 w cs X p q w4 := (h.below (((Below.refl _ _).alloc (Nat.le_refl _) (.cells #[a, b] 23)).drew)).below hB
  have g : Blk w4 w2.heap.size 23 #[a, b] := (Blk.drew_ (Blk.new w2 23 #[a, b])).below hB (by simp)
  have k1 : Keeps [w2.heap.size] w4 ((w4.setCell ⟨w2.heap.size, 0, none⟩ x).setCell ⟨w2.heap.size, 1, none⟩ y) := ((Keeps.refl _ _).set _ _ _ (.inl (by simp))).set _ _ _ (.inl (by simp))
  exact ⟨h1.kept k1 (by simp; omega) (by simp; omega) (by simp; omega) (by intro i hi; rw [List.mem_singleton.1 hi]; omega), (g.set_ 0 x).set_ 1 y, by omega⟩
/-- what an answer of Encode is -/
def EncP (r : (UInt8 × Tx) × Int) (w : World) (e : Ending) (w' : World) : Prop :=
  e = .returned (.tuple #[.agg #[u8 r.1.1, .string (ba r.1.2)], .int .i64 r.2]) ∧ Below w.heap.size w w'
theorem box_cut (a : Tell) (kv vv nv : Value) : tellV a kv vv nv = #[.int .u8 (a.kind.toNat : Int), .int .u8 (a.status.toNat : Int), .string (ba a.text), kv, vv, nv, .int .i64 a.n, .int .i64 a.m] := rfl
theorem msgTy : ∃ fs, Try.prog.underlying 23 = some (.struct fs) := by
  have h : (Try.prog.underlying 23).map (fun d => match d with | .struct _ => true | _ => false) = some true := by kernel_rfl
  cases e : Try.prog.underlying 23 with
  | none => rw [e] at h; cases h
  | some d => rw [e] at h; cases d with
    | struct fs => exact ⟨fs, rfl⟩
    | _ => simp at h
theorem msgInfo : (Try.prog.info? 23).map (·.size) = some 2 := by kernel_rfl
theorem enc_out (g : Nat) (wf : World) (tmps : Array Value) (c : Int) (cs : Array Value) (h2 : tmps.getD 2 undef = .pointer (some ⟨g, 0, none⟩)) (h3 : tmps.getD 3 undef = .int .i64 c) (hb : Blk wf g 23 cs) (hz : cs.size = 2) :
    (results Try.f13 tmps).run Try.prog wf = .ok (.tuple #[.agg cs, .int .i64 c]) wf := by
  obtain ⟨fs, hu⟩ := msgTy
  have hl := run_loadVar_row (P := Try.prog) wf g 23 23 cs (0, 0) (.struct fs) hb hu rfl (by rw [msgInfo, hz])
  have h2' : tmps[2]?.getD undef = .pointer (some ⟨g, 0, none⟩) := by simpa using h2
  have h3' : tmps[3]?.getD undef = .int .i64 c := by simpa using h3
  simp [results, Try.f13, Try.results13, h2', h3', asAddr, hl]
theorem Blk.all8 {w : World} {g : Nat} {t : TypeId} {a b c d e f x h : Value} (q : Blk w g t #[a, b, c, d, e, f, x, h]) :
    w.cell? ⟨g, 0, none⟩ = some a ∧ w.cell? ⟨g, 1, none⟩ = some b ∧ w.cell? ⟨g, 2, none⟩ = some c ∧ w.cell? ⟨g, 3, none⟩ = some d ∧ w.cell? ⟨g, 4, none⟩ = some e ∧ w.cell? ⟨g, 5, none⟩ = some f ∧ w.cell? ⟨g, 6, none⟩ = some x ∧ w.cell? ⟨g, 7, none⟩ = some h :=
  ⟨q.cell 0, q.cell 1, q.cell 2, q.cell 3, q.cell 4, q.cell 5, q.cell 6, q.cell 7⟩
theorem Blk.unalloc {w : World} {g : Nat} {t : TypeId} {cs : Array Value} {o : Obj} (h : Blk (w.alloc o) g t cs) (hg : g < w.heap.size) : Blk w g t cs := (Below.heap_alloc w o g hg).symm.trans h

set_option maxHeartbeats 800000 in
theorem enc_kind (a : Tell) (kv vv nv : Value) (w : World) (hk : kd a.kind = none) :
    Calls Try.prog 13 #[.agg (tellV a kv vv nv)] w (EncP ((0, []), 4) w) := by
  have hst : ∀ (W : World) (p : Addr) (md), (store p .nilFunc md).run Try.prog W = stored Try.prog W p .nilFunc md := fun W p md => run_store Try.prog W p _ md rfl
  have hmn := fun w1 => @mi2_new w w1 (tellV a kv vv nv) .nilFunc .nilFunc
  have db := bodies_none a.kind hk
  clear hk
  rw [box_cut] at hmn ⊢
  go_enter Try.func13, Try.ntmps13
  go_wp2_with fail
  refine (db _).mono ?_; rintro e w1 ⟨rfl, hb1⟩
  have hM := hmn w1 hb1
  clear hmn hb1
  have hlt : w.heap.size + 1 < w1.heap.size := by have := hM.hX; omega
  have hu := Blk.unalloc hM.b1 hlt
  have f0 := hu.frozen 0
  have f1 := hu.frozen 1
  have c0 := hu.cell 0
  have c1 := hu.cell 1
  simp only [List.getElem?_toArray, List.getElem?_cons_zero, List.getElem?_cons_succ] at c0 c1
  have hb9 := (hM.b1.set_ 0 (.int .u8 0)).set_ 1 (.string ⟨#[]⟩)
  have hB9 := (hM.bel.setCell (p := ⟨w.heap.size + 1, 0, none⟩) (by simp) (.int .u8 0)).setCell (p := ⟨w.heap.size + 1, 1, none⟩) (by simp) (.string ⟨#[]⟩)
  rw [World.setCell_alloc_past _ _ _ _ hlt, World.setCell_alloc_past _ _ _ _ (by simpa [World.setCell] using hlt)] at hb9 hB9
  go_wp2
  exact bodyPost_ret (v := .tuple #[.agg #[.int .u8 0, .string ⟨#[]⟩], .int .i64 4]) (enc_out _ _ _ _ _ (by rfl) (by rfl) hb9 rfl) rfl ⟨rfl, hB9⟩
end Go.Proofs.Ytnjifbgjglniaaa.BK
