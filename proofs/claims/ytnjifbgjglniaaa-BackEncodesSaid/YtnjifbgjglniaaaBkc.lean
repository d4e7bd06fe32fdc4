/- Words for memory at layer 20: the reader of a body, and what is being told, with its rows. -/
import Derived.Test.YtnjifbgjglniaaaBkb
namespace Go.Proofs.Ytnjifbgjglniaaa.BK
open Go.Proofs.Ytnjifbgjglniaaa
open Go.ChangeShapes Go.WideShapes Go.ChangeAt Go.RowKit
set_option linter.unusedVariables false

/-- what is told, as a value -/
def tellV (a : Tell) (kv vv nv : Value) : Array Value :=
  #[u8 a.kind, u8 a.status, .string (ba a.text), kv, vv, nv, .int .i64 a.n, .int .i64 a.m]
/-- v is what is told, it reads as a; its rows are blocks of P -/
structure AR (P : Nat → Prop) (w : World) (v : Value) (a : Tell) : Prop where
  ex : ∃ kv vv nv, v = .agg (tellV a kv vv nv) ∧ LR P w kv (strs a.keys) ∧ LR P w vv (strs a.vals) ∧ LR P w nv (bools a.null)
theorem AR.step {P P' : Nat → Prop} {w w' : World} {v : Value} {a : Tell} (h : AR P w v a) (k : ∀ b, P b → w'.heap[b]? = w.heap[b]?) (m : ∀ b, P b → P' b) : AR P' w' v a := by
  obtain ⟨kv, vv, nv, e, h1, h2, h3⟩ := h.ex
  exact ⟨kv, vv, nv, e, h1.step k m, h2.step k m, h3.step k m⟩
theorem AR.zero (P : Nat → Prop) (w : World) : AR P w (.agg (tellV {} (.slice none 0 0) (.slice none 0 0) (.slice none 0 0))) {} :=
  ⟨_, _, _, rfl, LR.nil _ _, LR.nil _ _, LR.nil _ _⟩
/-- the rows of what is told: the slice, its elements' type, its elements -/
def rowsT (a : Tell) (kv vv nv : Value) : List (Value × TypeId × List Value) :=
  [(kv, 9, strs a.keys), (vv, 9, strs a.vals), (nv, 4, bools a.null)]

/-- a reader of a body at block R: l is what is left of s, x whether something was wrong -/
def Rs (w : World) (R : Nat) (s : ByteArray) (l : Tx) (x : Bool) : Prop :=
  ∃ p : Nat, p ≤ s.size ∧ l = s.data.toList.drop p ∧ Blk w R 55 #[.string s, .int .i64 p, .bool x]
theorem Rs.keeps {S : List Nat} {w w' : World} {R : Nat} {s : ByteArray} {l : Tx} {x : Bool} (h : Rs w R s l x) (k : Keeps S w w') (hR : R ∉ S) : Rs w' R s l x := by
  obtain ⟨p, h1, h2, h3⟩ := h
  exact ⟨p, h1, h2, h3.keeps k hR⟩
theorem Rs.lt {w : World} {R : Nat} {s : ByteArray} {l : Tx} {x : Bool} (h : Rs w R s l x) : R < w.heap.size := by
  obtain ⟨p, h1, h2, h3⟩ := h
  exact h3.lt
theorem Rs.len {w : World} {R : Nat} {s : ByteArray} {l : Tx} {x : Bool} (h : Rs w R s l x) : l.length ≤ s.size := by
  obtain ⟨p, h1, h2, h3⟩ := h
  rw [h2, List.length_drop, ← Lib.size_eq]; omega
/-- what a call of a reader's function does: it hands v back, l is left, x is whether something was wrong -/
def RsP (R : Nat) (s : ByteArray) (v : Value) (l : Tx) (x : Bool) (w : World) (e : Ending) (w' : World) : Prop :=
  e = .returned v ∧ Rs w' R s l x ∧ Keeps [R] w w'

/-- a reader at R (of s; l is left, x: something was wrong) and what is being asked (a, at A), in memory since w0 -/
structure AI (R A : Nat) (s : ByteArray) (w0 : World) (a : Tell) (l : Tx) (x : Bool) (kv vv nv : Value) (w : World) : Prop where
  rd : Rs w R s l x
  blk : Blk w A 28 (tellV a kv vv nv)
  rows : Rows w0.heap.size (rowsT a kv vv nv) w
  kp : Keeps [R, A] w0 w
  lR : R < w0.heap.size
  lA : A < w0.heap.size
  ne : R ≠ A

section
variable {R A : Nat} {s : ByteArray} {w0 w w' : World} {a : Tell} {l l' : Tx} {x x' : Bool} {kv vv nv : Value}
theorem AI.read (h : AI R A s w0 a l x kv vv nv w) (hr : Rs w' R s l' x') (k : Keeps [R] w w') : AI R A s w0 a l' x' kv vv nv w' :=
  ⟨hr, h.blk.keeps k (fun e => h.ne (List.mem_singleton.1 e).symm), h.rows.keeps k (fun i hi => by rw [List.mem_singleton.1 hi]; exact h.lR),
   h.kp.trans k (fun i hi => .inl (by rw [List.mem_singleton.1 hi]; simp)), h.lR, h.lA, h.ne⟩
theorem AI.keep (h : AI R A s w0 a l x kv vv nv w) (k : Keeps [] w w') : AI R A s w0 a l x kv vv nv w' :=
  h.read (h.rd.keeps k (by simp)) (k.mono (by simp))
theorem AI.alloc (h : AI R A s w0 a l x kv vv nv w) (o : Obj) : AI R A s w0 a l x kv vv nv (w.alloc o) := h.keep ((Keeps.refl _ _).alloc o)
theorem AI.drew (h : AI R A s w0 a l x kv vv nv w) : AI R A s w0 a l x kv vv nv w.drew := h.keep (Keeps.refl _ _).drew
/-- a store into what is asked that leaves its rows -/
theorem AI.fld (h : AI R A s w0 a l x kv vv nv w) (i : Nat) (u : Value) (a' : Tell) (he : (tellV a kv vv nv).setIfInBounds i u = tellV a' kv vv nv) (hr : rowsT a kv vv nv = rowsT a' kv vv nv) :
    AI R A s w0 a' l x kv vv nv (w.setCell ⟨A, i, none⟩ u) := by
  have k : Keeps [A] w (w.setCell ⟨A, i, none⟩ u) := (Keeps.refl _ _).set _ _ _ (.inl (by simp))
  refine ⟨h.rd.keeps k (by simpa using h.ne), ?_, ?_, (h.kp.set _ _ _ (.inl (by simp))), h.lR, h.lA, h.ne⟩
  · rw [← he]; exact h.blk.set_ i u
  · rw [← hr]; exact h.rows.keeps k (fun i hi => by rw [List.mem_singleton.1 hi]; exact h.lA)
/-- a row is appended to, and the slice is stored -/
theorem AI.push (h : AI R A s w0 a l x kv vv nv w) (r : Nat) (v : Value) (T : TypeId) (xs : List Value) (hi : (rowsT a kv vv nv)[r]? = some (v, T, xs)) (g cap : Nat) (y : Value)
    (hw : w'.ownsRow w0.heap.size T 1 (.slice (some ⟨g, 0, none⟩) (xs.length + 1) cap) (xs.length + 1) (xs ++ [y])) (hg : w.grownBy w' v.ownBlock) (H : Nat) (hH : w.heap.size = H) (hat : v.ownBlock = some g ∨ g = H)
    (i : Nat) (a' : Tell) (kv' vv' nv' : Value) (he : (tellV a kv vv nv).setIfInBounds i (.slice (some ⟨g, 0, none⟩) (xs.length + 1) cap) = tellV a' kv' vv' nv')
    (hr : (rowsT a kv vv nv).set r ((.slice (some ⟨g, 0, none⟩) (xs.length + 1) cap), T, xs ++ [y]) = rowsT a' kv' vv' nv') :
    AI R A s w0 a' l x kv' vv' nv' (w'.setCell ⟨A, i, none⟩ (.slice (some ⟨g, 0, none⟩) (xs.length + 1) cap)) := by
  have hlo : ∀ k, v.ownBlock = some k → w0.heap.size ≤ k := fun k hk => (World.ownsRow.lt (h.rows.own r _ hi) k hk).1
  have k1 : Keeps [R, A] w0 w' := h.kp.grown hg (fun i hi => .inr (hlo i hi))
  have hRn : some R ≠ v.ownBlock := fun e => by have := hlo R e.symm; have := h.lR; omega
  have hAn : some A ≠ v.ownBlock := fun e => by have := hlo A e.symm; have := h.lA; omega
  have rd1 : Rs w' R s l x := by
    obtain ⟨p, h1, h2, h3⟩ := h.rd
    exact ⟨p, h1, h2, h3.grown hg hRn⟩
  have k : Keeps [A] w' (w'.setCell ⟨A, i, none⟩ (.slice (some ⟨g, 0, none⟩) (xs.length + 1) cap)) := (Keeps.refl _ _).set _ _ _ (.inl (by simp))
  refine ⟨rd1.keeps k (by simpa using h.ne), ?_, ?_, k1.set _ _ _ (.inl (by simp)), h.lR, h.lA, h.ne⟩
  · rw [← he]; exact (h.blk.grown hg hAn).set_ _ _
  · rw [← hr]
    refine (h.rows.push r v T xs hi _ y hw hg (fun k hk => ?_)).keeps k (fun i hi => by rw [List.mem_singleton.1 hi]; exact h.lA)
    simp [Value.ownBlock] at hk
    subst hk
    rcases hat with e | e
    · exact .inl e
    · exact .inr (by omega)
theorem AI.own (h : AI R A s w0 a l x kv vv nv w) (r : Nat) (v : Value) (T : TypeId) (xs : List Value) (hi : (rowsT a kv vv nv)[r]? = some (v, T, xs)) : w.ownsRow w0.heap.size T 1 v xs.length xs := h.rows.own r _ hi
theorem AI.ar (h : AI R A s w0 a l x kv vv nv w) : AR (fun b => w0.heap.size ≤ b ∧ b < w.heap.size) w (.agg (tellV a kv vv nv)) a :=
  ⟨kv, vv, nv, rfl, LR.own (h.own 0 _ _ _ rfl), LR.own (h.own 1 _ _ _ rfl), LR.own (h.own 2 _ _ _ rfl)⟩
theorem AI.cell (h : AI R A s w0 a l x kv vv nv w) (i : Nat) : w.cell? ⟨A, i, none⟩ = (tellV a kv vv nv)[i]? := h.blk.cell i
theorem AI.frozen (h : AI R A s w0 a l x kv vv nv w) (i : Nat) : w.frozen? ⟨A, i, none⟩ = false := h.blk.frozen i
/-- at the beginning -/
theorem AI.new (R A : Nat) (s : ByteArray) (w : World) (k : UInt8) (hR : Blk w R 55 #[.string s, .int .i64 0, .bool false]) (hA : Blk w A 28 (tellV { kind := k } (.slice none 0 0) (.slice none 0 0) (.slice none 0 0))) (hne : R ≠ A) :
    AI R A s w { kind := k } s.data.toList false (.slice none 0 0) (.slice none 0 0) (.slice none 0 0) w := by
  refine ⟨⟨0, Nat.zero_le _, rfl, hR⟩, hA, ⟨fun i r hr => ?_, fun i j r r' hr hr' hne k hk => ?_⟩, Keeps.refl _ _, hR.lt, hA.lt, hne⟩
  · have : r.1 = .slice none 0 0 ∧ r.2.2 = [] := by
      unfold rowsT at hr
      match i, hr with
      | 0, hr => injection hr with hr; subst hr; exact ⟨rfl, rfl⟩
      | 1, hr => injection hr with hr; subst hr; exact ⟨rfl, rfl⟩
      | 2, hr => injection hr with hr; subst hr; exact ⟨rfl, rfl⟩
      | n + 3, hr => simp at hr
    rw [this.1, this.2]; exact World.ownsRow_nil _ _ _ _
  · have : r.1 = .slice none 0 0 := by
      unfold rowsT at hr
      match i, hr with
      | 0, hr => injection hr with hr; subst hr; rfl
      | 1, hr => injection hr with hr; subst hr; rfl
      | 2, hr => injection hr with hr; subst hr; rfl
      | n + 3, hr => simp at hr
    rw [this] at hk
    simp [Value.ownBlock] at hk
end
/-- what a call does that reads a body, or a part of one -/
def AiP (R A : Nat) (s : ByteArray) (w0 : World) (r : Tell × Tx × Bool) (e : Ending) (w' : World) : Prop :=
  e = .returned (.tuple #[]) ∧ ∃ kv vv nv, AI R A s w0 r.1 r.2.1 r.2.2 kv vv nv w'
theorem AI.blkg {R A : Nat} {s : ByteArray} {w0 w w' : World} {a : Tell} {l : Tx} {x : Bool} {kv vv nv : Value} (h : AI R A s w0 a l x kv vv nv w) (r : Nat) (v : Value) (T : TypeId) (xs : List Value) (hi : (rowsT a kv vv nv)[r]? = some (v, T, xs)) (hg : w.grownBy w' v.ownBlock) :
    Blk w' A 28 (tellV a kv vv nv) := by
  refine h.blk.grown hg (fun e => ?_)
  have := (World.ownsRow.lt (h.rows.own r _ hi) A e.symm).1
  have := h.lA
  omega

section
variable {R A : Nat} {s : ByteArray} {w0 w : World} {a : Tell} {l : Tx} {x : Bool} {kv vv nv : Value}
/-- one element is appended to a row of what is asked: at the operation -/
theorem AI.law (h : AI R A s w0 a l x kv vv nv w) {ops : Array Oper} {rest : List Oper} {o : Oper} {ac : Act} {Q : Exit → Act → World → Prop} (hgd : o.guard = none) (sl xo : Operand) (t : TypeId)
    (ho : o.op = .call { callee := .builtin .append, args := #[sl, xo], argTypes := #[t, t] }) (r : Nat) (v : Value) (T : TypeId) (xs : List Value) (hi : (rowsT a kv vv nv)[r]? = some (v, T, xs))
    (ti : TypeInfo) (z : Value) (bytes : Nat) (ht : Try.prog.underlying t = some (.slice T)) (hti : Try.prog.info? T = some ti) (hz : ti.zero = some z) (hsize : ti.size = 1) (hby : ti.bytes = bytes) (hzs : z.cells.size = 1) (hb : bytes ≤ 16)
    (y : Value) (hy : y.oneCell' = true) (hn : xs.length ≤ 1099511627776) (i : Nat) (hc : (tellV a kv vv nv)[i]? = some v) (hsv : ac.eval sl = v) (hxv : ac.eval xo = .slice (some ⟨w.heap.size, 0, none⟩) 1 1)
    (hK : ∀ g cap w2, w2.frozen? ⟨A, i, none⟩ = false → w2.cell? ⟨A, i, none⟩ = some v →
      (∀ (a' : Tell) (kv' vv' nv' : Value), (tellV a kv vv nv).setIfInBounds i (.slice (some ⟨g, 0, none⟩) (xs.length + 1) cap) = tellV a' kv' vv' nv' →
        (rowsT a kv vv nv).set r ((.slice (some ⟨g, 0, none⟩) (xs.length + 1) cap), T, xs ++ [y]) = rowsT a' kv' vv' nv' →
        AI R A s w0 a' l x kv' vv' nv' (w2.setCell ⟨A, i, none⟩ (.slice (some ⟨g, 0, none⟩) (xs.length + 1) cap))) →
      wpList Try.prog ops Q rest (ac.put o.dst (.slice (some ⟨g, 0, none⟩) (xs.length + 1) cap)) w2) : wpList Try.prog ops Q (o :: rest) ac (w.alloc (.cells #[y] T)) := by
  have hI := h.alloc (.cells #[y] T)
  refine wpList_append_lies _ hgd sl xo t ho w0.heap.size T ti z 1 bytes ht hti hz hsize hby hzs (by decide) v xs.length xs hsv (hI.own r v T xs hi) ⟨w.heap.size, 0, none⟩ 1 1 [y] hxv rfl
    (one_cell _ _ _ _ (Blk.new w T #[y])) (by intro u hu; rw [List.mem_singleton.1 hu]; exact hy) (by decide) (by unfold maxLen; omega) (Nat.le_trans (Nat.mul_le_mul_left _ hb) (by omega)) hI.kp.size (w.heap.size + 1) (by simp) ?_
  intro g cap w2 h2 h3 h4 h5
  have hb := hI.blkg r v T xs hi h3
  exact hK g cap w2 (hb.frozen i) ((hb.cell i).trans hc) (fun a' kv' vv' nv' he hr => hI.push r v T xs hi g cap y h2 h3 (w.heap.size + 1) (by simp) h4 i a' kv' vv' nv' he hr)
/-- the same at a step of a region that draws its order -/
theorem AI.step (h : AI R A s w0 a l x kv vv nv w) {ops : Array Oper} {o : Oper} {ac : Act} {K : Act → World → Prop} {Q : Exit → Act → World → Prop} {E : Prop} (hgd : o.guard = none) (sl xo : Operand) (t : TypeId)
    (ho : o.op = .call { callee := .builtin .append, args := #[sl, xo], argTypes := #[t, t] }) (r : Nat) (v : Value) (T : TypeId) (xs : List Value) (hi : (rowsT a kv vv nv)[r]? = some (v, T, xs))
    (ti : TypeInfo) (z : Value) (bytes : Nat) (ht : Try.prog.underlying t = some (.slice T)) (hti : Try.prog.info? T = some ti) (hz : ti.zero = some z) (hsize : ti.size = 1) (hby : ti.bytes = bytes) (hzs : z.cells.size = 1) (hb : bytes ≤ 16)
    (y : Value) (hy : y.oneCell' = true) (hn : xs.length ≤ 1099511627776) (i : Nat) (hc : (tellV a kv vv nv)[i]? = some v) (hsv : ac.eval sl = v) (hxv : ac.eval xo = .slice (some ⟨w.heap.size, 0, none⟩) 1 1)
    (hK : ∀ g cap w2, w2.frozen? ⟨A, i, none⟩ = false → w2.cell? ⟨A, i, none⟩ = some v →
      (∀ (a' : Tell) (kv' vv' nv' : Value), (tellV a kv vv nv).setIfInBounds i (.slice (some ⟨g, 0, none⟩) (xs.length + 1) cap) = tellV a' kv' vv' nv' →
        (rowsT a kv vv nv).set r ((.slice (some ⟨g, 0, none⟩) (xs.length + 1) cap), T, xs ++ [y]) = rowsT a' kv' vv' nv' →
        AI R A s w0 a' l x kv' vv' nv' (w2.setCell ⟨A, i, none⟩ (.slice (some ⟨g, 0, none⟩) (xs.length + 1) cap))) →
      K (ac.put o.dst (.slice (some ⟨g, 0, none⟩) (xs.length + 1) cap)) w2) : if Region.wanted o (yielded ops ac.tmps) = true then Oper.wp Try.prog o ac (w.alloc (.cells #[y] T)) K Q else E := by
  have hI := h.alloc (.cells #[y] T)
  refine step_append_lies _ hgd sl xo t ho w0.heap.size T ti z 1 bytes ht hti hz hsize hby hzs (by decide) v xs.length xs hsv (hI.own r v T xs hi) ⟨w.heap.size, 0, none⟩ 1 1 [y] hxv rfl
    (one_cell _ _ _ _ (Blk.new w T #[y])) (by intro u hu; rw [List.mem_singleton.1 hu]; exact hy) (by decide) (by unfold maxLen; omega) (Nat.le_trans (Nat.mul_le_mul_left _ hb) (by omega)) hI.kp.size (w.heap.size + 1) (by simp) ?_
  intro g cap w2 h2 h3 h4 h5
  have hb := hI.blkg r v T xs hi h3
  exact hK g cap w2 (hb.frozen i) ((hb.cell i).trans hc) (fun a' kv' vv' nv' he hr => hI.push r v T xs hi g cap y h2 h3 (w.heap.size + 1) (by simp) h4 i a' kv' vv' nv' he hr)
end

section
variable {R A : Nat} {s : ByteArray} {w0 w w' : World} {a : Tell} {l : Tx} {x : Bool} {kv vv nv : Value}
/-- a row is laid anew, of one text -/
theorem AI.lay1 (h : AI R A s w0 a l x kv vv nv w) (t : Tx) :
    AI R A s w0 { a with vals := [t] } l x kv (.slice (some ⟨w.heap.size, 0, none⟩) 1 1) nv ((w.alloc (.cells #[.string (ba t)] 9)).setCell ⟨A, 4, none⟩ (.slice (some ⟨w.heap.size, 0, none⟩) 1 1)) := by
  have k0 : Keeps [] w (w.alloc (.cells #[.string (ba t)] 9)) := (Keeps.refl _ _).alloc _
  have k : Keeps [A] (w.alloc (.cells #[.string (ba t)] 9)) ((w.alloc (.cells #[.string (ba t)] 9)).setCell ⟨A, 4, none⟩ (.slice (some ⟨w.heap.size, 0, none⟩) 1 1)) := (Keeps.refl _ _).set _ _ _ (.inl (by simp))
  have h1 := h.alloc (.cells #[.string (ba t)] 9)
  have hs := h.kp.size
  refine ⟨h1.rd.keeps k (by simpa using h.ne), ?_, ?_, h1.kp.set _ _ _ (.inl (by simp)), h.lR, h.lA, h.ne⟩
  · exact h1.blk.set_ 4 _
  · exact (h.rows.lay 1 vv 9 (strs a.vals) [.string (ba t)] rfl _ (own_new w _ 9 [.string (ba t)] hs (by unfold maxLen; simp)) k0 (fun k hk => by simp [Value.ownBlock] at hk; omega)).keeps k (fun i hi => by rw [List.mem_singleton.1 hi]; exact h.lA)
end
end Go.Proofs.Ytnjifbgjglniaaa.BK
