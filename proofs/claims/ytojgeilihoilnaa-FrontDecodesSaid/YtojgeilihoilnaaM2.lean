/- Words for memory at layer 2: a slice of bytes that reads as a list; append of a text to a slice without room behind it.
   What each call of package frame does, for every input: what Right, Put, New, Feed, Rest, Bad and Copy answer; which memory they turn. Condition: the bytes that wait, and the text that is fed, are together of at most 2^40 bytes.
   Words for memory at layer 3: which blocks a call leaves as they were; a slice that reads as a list; the reader and the writer of a body.
   What Right and Put of package frame, and the document's own, answer for every message; whether two lists of messages are the same. Condition: a body is of at most 2^47 bytes. -/
import Derived.Test.YtojgeilihoilnaaM1
import Derived.Laws.OwnMore
import Derived.OwnWalk
import Derived.Lib.AppendStr
import Derived.Deep.AppendSrc
import Derived.Deep.Cut
import Derived.Deep.Draws
import Derived.Laws.Rows
import Derived.WalkSpells
import Derived.LaidEqlPtr
import Derived.LoopTactic
set_option linter.unusedSimpArgs false
set_option linter.unusedVariables false
namespace Go.Proofs.Ytojgeilihoilnaa
open Go.ChangeShapes Go.WideShapes Go.ChangeAt Go.RowKit
set_option linter.unusedVariables false

/-- a byte as a cell -/
def u8 (b : UInt8) : Value := .int .u8 (b.toNat : Int)

/-- the cells of block h from off on read as the bytes l -/
def Row (w : World) (h off : Nat) (l : List UInt8) : Prop :=
  ∃ cur, w.heap[h]? = some (.cells cur 5 (0, 0)) ∧ ∀ j b, l[j]? = some b → cur[off + j]? = some (u8 b)

/-- v is a slice of bytes that reads as l -/
def RB (w : World) (v : Value) (l : List UInt8) : Prop :=
  (v = .slice none 0 0 ∧ l = []) ∨ ∃ h off cap, v = .slice (some ⟨h, off, none⟩) l.length cap ∧ Row w h off l ∧ l.length ≤ cap ∧ cap ≤ maxLen
/-- the same, with no room behind it -/
def TB (w : World) (v : Value) (l : List UInt8) : Prop :=
  (v = .slice none 0 0 ∧ l = []) ∨ ∃ h off, v = .slice (some ⟨h, off, none⟩) l.length l.length ∧ Row w h off l ∧ l.length ≤ maxLen

section
variable {w w' : World} {v : Value} {l : List UInt8} {h off : Nat}
/-- all blocks of bytes stand as they stood -/
def Stay (w w' : World) : Prop := ∀ (b : Nat) (cs : Array Value), w.heap[b]? = some (.cells cs 5 (0, 0)) → w'.heap[b]? = w.heap[b]?
theorem Row.stay (r : Row w h off l) (s : Stay w w') : Row w' h off l := by
  obtain ⟨cur, hc, hr⟩ := r
  exact ⟨cur, (s h cur hc).trans hc, hr⟩
theorem RB.stay (r : RB w v l) (s : Stay w w') : RB w' v l := by
  rcases r with r | ⟨h, off, cap, e, r, a, b⟩
  · exact .inl r
  · exact .inr ⟨h, off, cap, e, r.stay s, a, b⟩
theorem TB.stay (r : TB w v l) (s : Stay w w') : TB w' v l := by
  rcases r with r | ⟨h, off, e, r, a⟩
  · exact .inl r
  · exact .inr ⟨h, off, e, r.stay s, a⟩
theorem TB.rb (r : TB w v l) : RB w v l := by
  rcases r with r | ⟨h, off, e, r, a⟩
  · exact .inl r
  · exact .inr ⟨h, off, _, e, r, Nat.le_refl _, a⟩
theorem Row.cut (r : Row w h off l) (k : Nat) : Row w h (off + k) (l.drop k) := by
  obtain ⟨cur, hc, hr⟩ := r
  refine ⟨cur, hc, fun j b hj => ?_⟩
  rw [List.getElem?_drop] at hj
  rw [Nat.add_assoc]; exact hr _ _ hj
theorem Row.take (r : Row w h off l) (k : Nat) : Row w h off (l.take k) := by
  obtain ⟨cur, hc, hr⟩ := r
  refine ⟨cur, hc, fun j b hj => hr j b ?_⟩
  rw [List.getElem?_take] at hj
  split at hj
  · exact hj
  · cases hj
theorem Row.cell (r : Row w h off l) (j : Nat) (hj : j < l.length) : w.cell? ⟨h, off + j, none⟩ = some (.int .u8 (l[j].toNat : Int)) := by
  obtain ⟨cur, hc, hr⟩ := r
  rw [cell_of_row w h (off + j) cur _ (0, 0) hc]
  exact hr j _ (List.getElem?_eq_getElem hj)
theorem Row.lt (r : Row w h off l) : h < w.heap.size := by
  obtain ⟨cur, hc, _⟩ := r
  exact (Array.getElem?_eq_some_iff.1 hc).1
theorem RB.own {base : Nat} {n : Nat} (hw : w.ownsRow base 5 1 v n (l.map u8)) : RB w v l ∧ n = l.length := by
  have hn : n = l.length := by have := hw.1; simpa using this.symm
  subst hn
  refine ⟨?_, rfl⟩
  rcases hw.2 with ⟨e, hz⟩ | ⟨g, cap, cur, e, hb, hh, hc, hm, hs, ht⟩
  · exact .inl ⟨e, List.eq_nil_of_length_eq_zero hz⟩
  · refine .inr ⟨g, 0, cap, e, ⟨cur, hh, fun j b hj => ?_⟩, hc, hm⟩
    have h1 : (l.map u8)[j]? = some (u8 b) := by rw [List.getElem?_map, hj]; rfl
    rw [← ht, List.getElem?_take] at h1
    split at h1
    · rw [Nat.zero_add]; simpa using h1
    · cases h1
theorem strCells_u8 (s : ByteArray) : Lib.strCells s = s.data.toList.map u8 := rfl
theorem byteCells_u8 (s : ByteArray) : byteCells s = s.data.toList.map u8 := rfl

theorem Stay.refl (w : World) : Stay w w := fun _ _ _ => rfl
theorem Stay.trans {a b c : World} (h : Stay a b) (k : Stay b c) : Stay a c := fun i cs hi => (k i cs ((h i cs hi).trans hi)).trans (h i cs hi)
theorem Stay.below {B : Nat} (h : Below B w w') (hB : w.heap.size ≤ B) : Stay w w' := fun i cs hi => h.block i (Nat.lt_of_lt_of_le (Array.getElem?_eq_some_iff.1 hi).1 hB)
theorem Stay.grown {row : Option Nat} (h : w.grownBy w' row) (hr : ∀ g, row = some g → ∃ cs t fr, w.heap[g]? = some (.cells cs t fr) ∧ t ≠ 5) : Stay w w' := fun i cs hi => by
  refine h.block i (Array.getElem?_eq_some_iff.1 hi).1 (fun e => ?_)
  obtain ⟨cs', t, fr, hh, ht⟩ := hr i e.symm
  rw [hi] at hh
  injection hh with hh
  injection hh with _ e2
  exact ht e2.symm
theorem Stay.alloc (w : World) (o : Obj) : Stay w (w.alloc o) := fun i cs hi => Below.heap_alloc w o i (Array.getElem?_eq_some_iff.1 hi).1
theorem Stay.setCell (w : World) (p : Addr) (u : Value) (hp : ∃ cs t fr, w.heap[p.block]? = some (.cells cs t fr) ∧ t ≠ 5) : Stay w (w.setCell p u) := fun i cs hi => by
  refine Below.heap_setCell w p u i (fun e => ?_)
  obtain ⟨cs', t, fr, hh, ht⟩ := hp
  rw [← e, hi] at hh
  injection hh with hh
  injection hh with _ e2
  exact ht e2.symm
end

section
variable {P : Program} (w : World)

theorem setCells_nil (b o : Nat) : w.setCells b o [] = w := by
  unfold World.setCells
  simp

/-- append(v, s...): v has no room behind it -/
theorem run_append_tight (t u ty : TypeId) (i : TypeInfo) (ht : P.underlying t = some (.slice 5)) (hu : P.underlying u = some .string) (hi : P.info? 5 = some i) (hz : i.zero = some (.int .u8 0))
    (hsize : i.size = 1) (hby : i.bytes = 1) (v : Value) (l : List UInt8) (hv : TB w v l) (s : ByteArray) (hb : l.length + s.size ≤ 140737488355328) :
    ∃ v' w', (Builtin.append_ #[t, u] ty #[v, .string s]).run P w = .ok v' w' ∧ RB w' v' (l ++ s.data.toList) ∧ w.grownBy w' none := by
  rcases hv with ⟨rfl, rfl⟩ | ⟨h, off, rfl, hr, hm⟩
  · obtain ⟨v', w', h1, h2, h3, _⟩ := Lib.run_append_own_string (P := P) w w.heap.size t u ty 5 i ht hu hi hz hsize hby (.slice none 0 0) 0 [] (World.ownsRow_nil _ _ _ _) s (by unfold maxLen; simp at hb; omega) (by simpa using hb) (Nat.le_refl _)
    rw [strCells_u8, List.nil_append] at h2
    exact ⟨v', w', h1, by simpa using (RB.own h2).1, h3⟩
  · have hS : Src P i.size u (.string s) s.size (byteCells s) w := by rw [hsize]; exact Src.ofString w hu s
    by_cases h0 : s.size = 0
    · have hn : byteCells s = [] := List.eq_nil_of_length_eq_zero (by rw [byteCells_length]; exact h0)
      have hl : s.data.toList = [] := List.eq_nil_of_length_eq_zero (by rw [← Lib.size_eq]; exact h0)
      rw [hn] at hS
      have hr2 := run_append_room_src (P := P) w t u ty 5 i ht hi h off l.length l.length (.string s) s.size [] hS (by omega) (fun j hj => by simp at hj) (fun j hj => by simp at hj)
      rw [setCells_nil, h0, Nat.add_zero] at hr2
      exact ⟨_, _, hr2, by rw [hl, List.append_nil]; exact .inr ⟨h, off, l.length, rfl, hr, Nat.le_refl _, hm⟩, ⟨rfl, rfl, rfl, Nat.le_refl _, fun _ _ _ => rfl⟩⟩
    · have hold : (Builtin.firstCells i.size l.length (.slice (some ⟨h, off, none⟩) l.length l.length)).run P w.drew = .ok (l.map u8).toArray w.drew := by
        refine run_firstCells_some w.drew i.size l.length ⟨h, off, none⟩ l.length l.length (l.map u8) (by rw [hsize]; simp) (fun j u' hu' => ?_)
        rw [List.getElem?_map] at hu'
        cases hj : l[j]? with
        | none => rw [hj] at hu'; cases hu'
        | some b =>
          rw [hj] at hu'
          obtain ⟨hlt, hb'⟩ := List.getElem?_eq_some_iff.1 hj
          have := hr.cell j hlt
          rw [Addr.add_lit]
          show w.cell? _ = _
          rw [this, hb']; exact hu'
      have hr2 := run_append_grow_src (P := P) w t u ty 5 i (.int .u8 0) ht hi hz (some ⟨h, off, none⟩) l.length l.length (l.map u8) hold (.string s) s.size (byteCells s) hS (by omega) (by omega) (by rw [hby]; exact growslice_fits (by omega) (by omega))
      have hge := grownCap_ge w (l.length + s.size) l.length 5
      have hcm : grownCap w (l.length + s.size) l.length 5 ≤ maxLen := grownCap_le_maxLen w (l.length + s.size) l.length 5 (by unfold maxLen; omega)
      have hss : s.data.toList.length = s.size := by rw [← Lib.size_eq]
      refine ⟨_, _, hr2, .inr ⟨w.heap.size, 0, _, by rw [List.length_append, hss], ⟨_, heap_alloc_new w.drew _, fun j b hj => ?_⟩, by rw [List.length_append, hss]; exact hge, hcm⟩, ⟨rfl, rfl, rfl, by simp, fun k hk _ => Below.heap_alloc w.drew _ k hk⟩⟩
      have hjl : j < (l ++ s.data.toList).length := (List.getElem?_eq_some_iff.1 hj).1
      rw [byteCells_u8, ← List.map_append, Nat.zero_add, Array.getElem?_append_left (by simpa using hjl)]
      simp only [List.getElem?_toArray, List.getElem?_map, hj, Option.map_some]

theorem wpList_append_tight {ops : Array Oper} {rest : List Oper} {o : Oper} {a : Act} {Q : Exit → Act → World → Prop} (hgd : o.guard = none) (sl x : Operand) (t u : TypeId)
    (ho : o.op = .call { callee := .builtin .append, args := #[sl, x], argTypes := #[t, u] })
    (i : TypeInfo) (ht : P.underlying t = some (.slice 5)) (hu : P.underlying u = some .string) (hi : P.info? 5 = some i) (hz : i.zero = some (.int .u8 0))
    (hsize : i.size = 1) (hby : i.bytes = 1) (v : Value) (l : List UInt8) (hs : a.eval sl = v) (hv : TB w v l) (s : ByteArray) (hx : a.eval x = .string s) (hb : l.length + s.size ≤ 140737488355328)
    (h : ∀ v' w', RB w' v' (l ++ s.data.toList) → w.grownBy w' none → wpList P ops Q rest (a.put o.dst v') w') : wpList P ops Q (o :: rest) a w := by
  refine wpList_plain hgd fun K hK => ?_
  obtain ⟨v', w', hr, h2, h3⟩ := run_append_tight (P := P) w t u o.type i ht hu hi hz hsize hby v l hv s hb
  unfold Oper.wp execOp
  simp only [ho, resolve, invoke, builtin, Sem.run_bind, Sem.run_pure, Result.andThen_ok, List.map_toArray, List.map_cons, List.map_nil, hs, hx, hr]
  exact hK _ _ (h v' w' h2 h3)
end
end Go.Proofs.Ytojgeilihoilnaa
namespace Go.Proofs.Ytojgeilihoilnaa
open Go.ChangeShapes Go.WideShapes Go.ChangeAt Go.RowKit
set_option linter.unusedVariables false

/-- block g is just these cells -/
def Blk (w : World) (g : Nat) (t : TypeId) (cs : Array Value) : Prop := w.heap[g]? = some (.cells cs t (0, 0))
section
variable {w w' : World} {g : Nat} {t : TypeId} {cs : Array Value}
theorem Blk.lt (h : Blk w g t cs) : g < w.heap.size := (Array.getElem?_eq_some_iff.1 h).1
theorem Blk.cell (h : Blk w g t cs) (i : Nat) : w.cell? ⟨g, i, none⟩ = cs[i]? := cell_of_row w g i cs t (0, 0) h
theorem Blk.frozen (h : Blk w g t cs) (i : Nat) : w.frozen? ⟨g, i, none⟩ = false := by
  unfold Blk at h
  simp [World.frozen?, h]
theorem Blk.new (w : World) (t : TypeId) (cs : Array Value) : Blk (w.alloc (.cells cs t)) w.heap.size t cs := heap_alloc_new w _
theorem Blk.drewN (h : Blk w g t cs) (n : Nat) : Blk (w.drewN n) g t cs := h
theorem Blk.alloc (h : Blk w g t cs) (o : Obj) : Blk (w.alloc o) g t cs := (Below.heap_alloc w o g h.lt).trans h
theorem Blk.set_ (h : Blk w g t cs) (i : Nat) (u : Value) : Blk (w.setCell ⟨g, i, none⟩ u) g t (cs.setIfInBounds i u) := by
  unfold Blk at h ⊢
  simp [World.setCell, Array.getElem?_modify, h]
theorem Blk.far (h : Blk w g t cs) {p : Addr} (hp : g ≠ p.block) (u : Value) : Blk (w.setCell p u) g t cs := (Below.heap_setCell w p u g hp).trans h
theorem Blk.below {B : Nat} (h : Blk w g t cs) (hb : Below B w w') (hg : g < B) : Blk w' g t cs := (hb.block g hg).trans h
theorem Blk.grown {row : Option Nat} (h : Blk w g t cs) (hb : w.grownBy w' row) (hg : some g ≠ row) : Blk w' g t cs := (hb.block g h.lt hg).trans h
theorem Blk.ne_ {g' : Nat} {t' : TypeId} {cs' : Array Value} (h : Blk w g t cs) (h' : Blk w g' t' cs') (hne : t ≠ t') : g ≠ g' := by
  rintro rfl
  unfold Blk at h h'
  rw [h] at h'
  injection h' with h'
  injection h' with _ ht
  exact hne ht
end

theorem named_any (k : UInt8) (w : World) :
    Calls Try.prog 42 #[.int .u8 (k.toNat : Int)] w fun e w' => e = .returned (.bool (namedB k)) ∧ w' = w := by
  have hk := k.toNat_lt
  have e : namedB k = decide (33 ≤ k.toNat ∧ k.toNat ≤ 126) := rfl
  rw [e]; clear e
  generalize k.toNat = n at *
  by_cases h0 : 33 ≤ n
  · by_cases h1 : n ≤ 126
    · have a1 : decide ((33 : Int) ≤ n) = true := by simp; omega
      have a2 : decide ((n : Int) ≤ 126) = true := by simp; omega
      go_enter Try.func42, Try.ntmps42
      go_wp2
      go_ret
      exact ⟨by simp [h0, h1], rfl⟩
    · have a1 : decide ((33 : Int) ≤ n) = true := by simp; omega
      have a2 : decide ((n : Int) ≤ 126) = false := by simp; omega
      go_enter Try.func42, Try.ntmps42
      go_wp2
      go_ret
      exact ⟨by simp [h1], rfl⟩
  · have a1 : decide ((33 : Int) ≤ n) = false := by simp; omega
    go_enter Try.func42, Try.ntmps42
    go_wp2
    go_ret
    exact ⟨by simp [h0], rfl⟩

/-- the text of a slice of bytes -/
theorem conv_row (w : World) (h off cap : Nat) (l : List UInt8) (r : Row w h off l) : (convert 68 9 (.slice (some ⟨h, off, none⟩) l.length cap)).run Try.prog w = .ok (.string (ba l)) w := by
  refine run_convert_bytes_back (P := Try.prog) w 68 9 5 ⟨h, off, none⟩ cap l Try.underlying68 Try.underlying5 Try.underlying9 ?_
  intro j hj
  rw [Addr.add_lit]
  exact r.cell j hj

theorem conv_part (w : World) (h off cap n : Nat) (l : List UInt8) (r : Row w h off l) (hn : l.length = n) : (convert 68 9 (.slice (some ⟨h, off, none⟩) n cap)).run Try.prog w = .ok (.string (ba l)) w := by
  subst hn; exact conv_row w h off cap l r
theorem conv_nil (w : World) : (convert 68 9 (.slice none 0 0)).run Try.prog w = .ok (.string ⟨#[]⟩) w := by
  rw [run_convert_bytes_string w 68 9 5 none 0 0 Try.underlying68 Try.underlying5 Try.underlying9]
  rfl
end Go.Proofs.Ytojgeilihoilnaa
namespace Go.Proofs.Ytojgeilihoilnaa
open Go.ChangeShapes Go.WideShapes Go.ChangeAt Go.RowKit
set_option linter.unusedVariables false

/-- all blocks of w but those of S stand in w' -/
structure Keeps (S : List Nat) (w w' : World) : Prop where
  os : w'.os = w.os
  tape : w'.tape = w.tape
  output : w'.output = w.output
  size : w.heap.size ≤ w'.heap.size
  block : ∀ k, k < w.heap.size → k ∉ S → w'.heap[k]? = w.heap[k]?

section
variable {S : List Nat} {w w' a b : World}
theorem Keeps.refl (S : List Nat) (w : World) : Keeps S w w := ⟨rfl, rfl, rfl, Nat.le_refl _, fun _ _ _ => rfl⟩
theorem Keeps.trans {S' : List Nat} (h : Keeps S w a) (k : Keeps S' a b) (hs : ∀ i ∈ S', i ∈ S ∨ w.heap.size ≤ i) : Keeps S w b :=
  ⟨k.os.trans h.os, k.tape.trans h.tape, k.output.trans h.output, Nat.le_trans h.size k.size, fun i hi hn => (k.block i (Nat.lt_of_lt_of_le hi h.size) (fun e => by
    rcases hs i e with h1 | h1
    · exact hn h1
    · omega)).trans (h.block i hi hn)⟩
theorem Keeps.mono {S' : List Nat} (h : Keeps S w a) (hs : ∀ i ∈ S, i ∈ S') : Keeps S' w a := ⟨h.os, h.tape, h.output, h.size, fun i hi hn => h.block i hi (fun e => hn (hs i e))⟩
theorem Keeps.and (h : Keeps S w a) (k : Keeps S a b) : Keeps S w b := h.trans k (fun _ hi => .inl hi)
theorem Keeps.bel (h : Keeps S w a) (k : Below a.heap.size a b) : Keeps S w b := h.trans (S' := []) ⟨k.os, k.tape, k.output, k.size, fun i hi _ => k.block i hi⟩ (fun _ hi => by cases hi)
theorem Keeps.of (k : Below w.heap.size w a) : Keeps S w a := (Keeps.refl S w).bel k
theorem Keeps.grown {row : Option Nat} (h : Keeps S w a) (k : a.grownBy b row) (hr : ∀ i, row = some i → i ∈ S ∨ w.heap.size ≤ i) : Keeps S w b :=
  ⟨k.os.trans h.os, k.tape.trans h.tape, k.output.trans h.output, Nat.le_trans h.size k.size, fun i hi hn => (k.block i (Nat.lt_of_lt_of_le hi h.size) (fun e => by
    rcases hr i e.symm with h1 | h1
    · exact hn h1
    · omega)).trans (h.block i hi hn)⟩
theorem Keeps.alloc (h : Keeps S w a) (o : Obj) : Keeps S w (a.alloc o) := h.bel ((Below.refl _ _).alloc (Nat.le_refl _) o)
theorem Keeps.drewN (h : Keeps S w a) (n : Nat) : Keeps S w (a.drewN n) := ⟨h.os, h.tape, h.output, h.size, h.block⟩
theorem Keeps.drew (h : Keeps S w a) : Keeps S w a.drew := ⟨h.os, h.tape, h.output, h.size, h.block⟩
theorem Keeps.set (h : Keeps S w a) (g i : Nat) (u : Value) (hg : g ∈ S ∨ w.heap.size ≤ g) : Keeps S w (a.setCell ⟨g, i, none⟩ u) :=
  ⟨h.os, h.tape, h.output, by have := h.size; simpa [World.setCell] using this, fun k hk hn => (Below.heap_setCell _ _ _ _ (fun e => by
    subst e
    rcases hg with h1 | h1
    · exact hn h1
    · exact absurd hk (Nat.not_lt.2 h1))).trans (h.block k hk hn)⟩
theorem Keeps.below {B : Nat} (h : Keeps S w a) (hs : ∀ i ∈ S, B ≤ i) (hB : B ≤ w.heap.size) : Below B w a :=
  ⟨h.os, h.tape, h.output, h.size, fun i hi => h.block i (Nat.lt_of_lt_of_le hi hB) (fun e => by have := hs i e; omega)⟩
theorem Keeps.all (h : Keeps S w a) (hs : ∀ i ∈ S, w.heap.size ≤ i) : Below w.heap.size w a := h.below hs (Nat.le_refl _)
theorem Keeps.grown_ {g : Nat} (h : Keeps [g] w a) : w.grownBy a (some g) := ⟨h.os, h.tape, h.output, h.size, fun k hk hn => h.block k hk (fun e => hn (by rw [List.mem_singleton.1 e]))⟩
theorem Blk.keeps {g : Nat} {t : TypeId} {cs : Array Value} (h : Blk w g t cs) (k : Keeps S w a) (hg : g ∉ S) : Blk a g t cs := (k.block g h.lt hg).trans h
theorem Keeps.cells (k : Keeps S w a) (g : Nat) (hl : g < w.heap.size) (hg : g ∉ S) (o : Nat) : a.cell? ⟨g, o, none⟩ = w.cell? ⟨g, o, none⟩ := by
  unfold World.cell?; rw [k.block g hl hg]
end

/-- v is a slice that reads as xs (one cell each); its row is a block of P -/
def LR (P : Nat → Prop) (w : World) (v : Value) (xs : List Value) : Prop :=
  ∃ A cap, v = .slice A xs.length cap ∧ xs.length ≤ cap ∧ cap ≤ maxLen ∧ (xs ≠ [] → ∃ h off, A = some ⟨h, off, none⟩ ∧ P h ∧ ∀ (j : Nat) (x : Value), xs[j]? = some x → w.cell? ⟨h, off + j, none⟩ = some x)
section
variable {P P' : Nat → Prop} {w w' : World} {v : Value} {xs : List Value}
theorem LR.step (h : LR P w v xs) (k : ∀ b, P b → w'.heap[b]? = w.heap[b]?) (m : ∀ b, P b → P' b) : LR P' w' v xs := by
  obtain ⟨A, cap, e, h1, h2, h3⟩ := h
  refine ⟨A, cap, e, h1, h2, fun hn => ?_⟩
  obtain ⟨p, off, e2, hp, hc⟩ := h3 hn
  exact ⟨p, off, e2, m _ hp, fun j x hx => (World.cell?_of_block (a := ⟨p, off + j, none⟩) (k p hp)).trans (hc j x hx)⟩
theorem LR.nil (P : Nat → Prop) (w : World) : LR P w (.slice none 0 0) [] := ⟨none, 0, rfl, Nat.le_refl _, Nat.zero_le _, fun h => absurd rfl h⟩
theorem LR.own {base : Nat} {e : TypeId} {n : Nat} (hw : w.ownsRow base e 1 v n xs) : LR (fun b => base ≤ b ∧ b < w.heap.size) w v xs := by
  have hn : n = xs.length := by have := hw.1; simpa using this.symm
  subst hn
  rcases hw.2 with ⟨e, hz⟩ | ⟨g, cap, cur, e, hb, hh, hc, hm, hs, ht⟩
  · have : xs = [] := List.eq_nil_of_length_eq_zero hz
    subst this; rw [e]; exact LR.nil _ _
  · refine ⟨_, cap, e, hc, hm, fun _ => ⟨g, 0, rfl, ⟨hb, (Array.getElem?_eq_some_iff.1 hh).1⟩, fun j x hx => ?_⟩⟩
    rw [cell_of_row w g (0 + j) cur _ (0, 0) hh, Nat.zero_add]
    rw [← ht, List.getElem?_take] at hx
    split at hx
    · simpa using hx
    · cases hx
theorem LR.form (h : LR P w v xs) : ∃ A cap, v = .slice A xs.length cap ∧ xs.length ≤ cap ∧ cap ≤ maxLen := by
  obtain ⟨A, cap, e, h1, h2, _⟩ := h
  exact ⟨A, cap, e, h1, h2⟩
end
def strs (l : List Tx) : List Value := l.map fun t => .string (ba t)
def bools (l : List Bool) : List Value := l.map .bool
def ints (l : List Int) : List Value := l.map (.int .i64)

/-- an ask as a value -/
def askV (a : Ask) (kv vv av nv fv : Value) : Array Value :=
  #[u8 a.kind, .string (ba a.name), .string (ba a.portal), .string (ba a.sql), kv, vv, av, nv, fv, .int .i64 a.most, u8 a.what, .bool a.cancel, .int .i64 a.pid, .int .i64 a.secret]
/-- v is an ask that reads as a; its rows are blocks of P -/
structure AR (P : Nat → Prop) (w : World) (v : Value) (a : Ask) : Prop where
  ex : ∃ kv vv av nv fv, v = .agg (askV a kv vv av nv fv) ∧ LR P w kv (strs a.keys) ∧ LR P w vv (strs a.vals) ∧ LR P w av (strs a.args) ∧ LR P w nv (bools a.null) ∧ LR P w fv (ints a.formats)
theorem AR.step {P P' : Nat → Prop} {w w' : World} {v : Value} {a : Ask} (h : AR P w v a) (k : ∀ b, P b → w'.heap[b]? = w.heap[b]?) (m : ∀ b, P b → P' b) : AR P' w' v a := by
  obtain ⟨kv, vv, av, nv, fv, e, h1, h2, h3, h4, h5⟩ := h.ex
  exact ⟨kv, vv, av, nv, fv, e, h1.step k m, h2.step k m, h3.step k m, h4.step k m, h5.step k m⟩
theorem AR.zero (P : Nat → Prop) (w : World) : AR P w (.agg (askV {} (.slice none 0 0) (.slice none 0 0) (.slice none 0 0) (.slice none 0 0) (.slice none 0 0))) {} :=
  ⟨_, _, _, _, _, rfl, LR.nil _ _, LR.nil _ _, LR.nil _ _, LR.nil _ _, LR.nil _ _⟩

/-- a reader of a body at block R: l is what is left of s, x whether something was wrong -/
def Rs (w : World) (R : Nat) (s : ByteArray) (l : Tx) (x : Bool) : Prop :=
  ∃ p : Nat, p ≤ s.size ∧ l = s.data.toList.drop p ∧ Blk w R 47 #[.string s, .int .i64 p, .bool x]
theorem Rs.keeps {S : List Nat} {w w' : World} {R : Nat} {s : ByteArray} {l : Tx} {x : Bool} (h : Rs w R s l x) (k : Keeps S w w') (hR : R ∉ S) : Rs w' R s l x := by
  obtain ⟨p, h1, h2, h3⟩ := h
  exact ⟨p, h1, h2, h3.keeps k hR⟩
theorem Rs.lt {w : World} {R : Nat} {s : ByteArray} {l : Tx} {x : Bool} (h : Rs w R s l x) : R < w.heap.size := by
  obtain ⟨p, h1, h2, h3⟩ := h
  exact h3.lt
theorem Rs.len {w : World} {R : Nat} {s : ByteArray} {l : Tx} {x : Bool} (h : Rs w R s l x) : l.length ≤ s.size := by
  obtain ⟨p, h1, h2, h3⟩ := h
  rw [h2, List.length_drop, ← Lib.size_eq]; omega
/-- what a call of a reader's function does: it hands v back, l is left, x is whether something was wrong -/
def RsP (R : Nat) (s : ByteArray) (v : Value) (l : Tx) (x : Bool) (w : World) (e : Ending) (w' : World) : Prop :=
  e = .returned v ∧ Rs w' R s l x ∧ Keeps [R] w w'

-- octet's functions, in the words of lists
theorem bytes_drop (s : ByteArray) (p : Nat) (n : Nat) : (s.extract p (p + n)).data.toList = (s.data.toList.drop p).take n := by
  have := ba_extract s.data.toList p (p + n)
  rw [ba_of] at this
  rw [this, ba_list, Nat.add_sub_cancel_left]
theorem ins_of (s : ByteArray) (p : Nat) (h : p ≤ s.size) : insB s.size (p : Int) = true := by unfold insB; exact decide_eq_true ⟨by omega, by omega⟩
theorem drop_len (s : ByteArray) (p : Nat) : (s.data.toList.drop p).length = s.size - p := by rw [List.length_drop, ← Lib.size_eq]

theorem g32_list (s : ByteArray) (p : Nat) (h : p ≤ s.size) (x : Bool) :
    ∃ er : Int, g32 s p = ((rd4 (s.data.toList.drop p) x).1, if er = 0 then (p : Int) + 4 else 0, er) ∧
      (if er = 0 then p + 4 ≤ s.size ∧ (rd4 (s.data.toList.drop p) x).2 = (s.data.toList.drop (p + 4), x) else (rd4 (s.data.toList.drop p) x).2 = ([], true)) := by
  unfold g32 rd4
  rw [ins_of s p h, drop_len]
  by_cases hl : (s.size : Int) - p < 4
  · refine ⟨3, ?_, ?_⟩
    · rw [if_neg (by decide), if_pos hl, if_neg (by omega)]; rfl
    · rw [if_neg (by decide), if_neg (by omega)]
  · refine ⟨0, ?_, ?_⟩
    · rw [if_neg (by decide), if_neg hl, if_pos (by omega), if_pos rfl]
      have e : (s.extract (p : Int).toNat ((p : Int) + 4).toNat).data.toList = (s.data.toList.drop p).take 4 := by
        rw [show (p : Int).toNat = p by omega, show ((p : Int) + 4).toNat = p + 4 by omega]; exact bytes_drop s p 4
      rw [e]
    · rw [if_pos rfl, if_pos (by omega)]
      exact ⟨by omega, by simp [List.drop_drop]⟩
theorem g16_list (s : ByteArray) (p : Nat) (h : p ≤ s.size) (x : Bool) :
    ∃ er : Int, g16 s p = ((rd2 (s.data.toList.drop p) x).1, if er = 0 then (p : Int) + 2 else 0, er) ∧
      (if er = 0 then p + 2 ≤ s.size ∧ (rd2 (s.data.toList.drop p) x).2 = (s.data.toList.drop (p + 2), x) else (rd2 (s.data.toList.drop p) x).2 = ([], true)) := by
  unfold g16 rd2
  rw [ins_of s p h, drop_len]
  by_cases hl : (s.size : Int) - p < 2
  · refine ⟨3, ?_, ?_⟩
    · rw [if_neg (by decide), if_pos hl, if_neg (by omega)]; rfl
    · rw [if_neg (by decide), if_neg (by omega)]
  · refine ⟨0, ?_, ?_⟩
    · rw [if_neg (by decide), if_neg hl, if_pos (by omega), if_pos rfl]
      have e : (s.extract (p : Int).toNat ((p : Int) + 2).toNat).data.toList = (s.data.toList.drop p).take 2 := by
        rw [show (p : Int).toNat = p by omega, show ((p : Int) + 2).toNat = p + 2 by omega]; exact bytes_drop s p 2
      rw [e]
    · rw [if_pos rfl, if_pos (by omega)]
      exact ⟨by omega, by simp [List.drop_drop]⟩
theorem gBytes_list (s : ByteArray) (p : Nat) (n : Int) (h : p ≤ s.size) (x : Bool) :
    ∃ (er q : Int), gBytes s p n = (ba (rdB n (s.data.toList.drop p) x).1, if er = 0 then (p : Int) + n else q, er) ∧
      (if er = 0 then 0 ≤ n ∧ (p : Int) + n ≤ s.size ∧ (rdB n (s.data.toList.drop p) x).2 = (s.data.toList.drop ((p : Int) + n).toNat, x) else (rdB n (s.data.toList.drop p) x).2 = ([], true)) := by
  unfold gBytes rdB
  rw [ins_of s p h, drop_len]
  by_cases hn : n < 0
  · refine ⟨1, 0, ?_, ?_⟩
    · rw [if_pos hn, if_neg (by omega)]; rfl
    · rw [if_neg (by decide), if_neg (by omega)]
  · by_cases hl : (s.size : Int) - p < n
    · refine ⟨3, 0, ?_, ?_⟩
      · rw [if_neg hn, if_neg (by decide), if_pos hl, if_neg (by omega)]; rfl
      · rw [if_neg (by decide), if_neg (by omega)]
    · refine ⟨0, 0, ?_, ?_⟩
      · rw [if_neg hn, if_neg (by decide), if_neg hl, if_pos (by omega), if_pos rfl]
        have e : s.extract (p : Int).toNat ((p : Int) + n).toNat = ba ((s.data.toList.drop p).take n.toNat) := by
          apply ba_ext
          rw [ba_list, show (p : Int).toNat = p by omega, show ((p : Int) + n).toNat = p + n.toNat by omega]; exact bytes_drop s p _
        rw [e]
      · rw [if_pos rfl, if_pos (by omega)]
        exact ⟨by omega, by omega, by rw [show ((p : Int) + n).toNat = p + n.toNat by omega]; simp [List.drop_drop]⟩
theorem indexByte_list (l : Tx) : Lib.indexByte l 0 = if 0 ∈ l then ((upto0 l).length : Int) else -1 := by
  induction l with
  | nil => rfl
  | cons b l ih =>
    unfold Lib.indexByte
    by_cases hb : b = 0
    · subst hb; simp [upto0]
    · have hb1 : (b == 0) = false := by simpa using hb
      have hb2 : (b != 0) = true := by simpa using hb
      have hu : upto0 (b :: l) = b :: upto0 l := by unfold upto0; rw [List.takeWhile_cons, if_pos hb2]
      rw [hb1, if_neg (by decide), ih, hu]
      by_cases hm : 0 ∈ l
      · rw [if_pos hm, if_pos (List.mem_cons_of_mem _ hm)]
        have : (((upto0 l).length : Int) == -1) = false := by simp
        rw [this, if_neg (by decide), List.length_cons, Int.natCast_succ]
      · have hn : ¬ 0 ∈ b :: l := by intro h; rcases List.mem_cons.1 h with e | e; exact hb e.symm; exact hm e
        rw [if_neg hm, if_pos (by decide), if_neg hn]
theorem upto0_lt (l : Tx) (h : 0 ∈ l) : (upto0 l).length < l.length := by
  have := congrArg List.length (upto0_split l h).1
  rw [List.length_append, List.length_cons] at this
  omega
theorem upto0_take (l : Tx) : l.take (upto0 l).length = upto0 l := by
  have h : upto0 l <+: l := List.takeWhile_prefix _
  exact (List.prefix_iff_eq_take.1 h).symm
theorem ext_end (s : ByteArray) (p : Nat) : (s.extract p s.size).data.toList = s.data.toList.drop p := by
  have := ba_extract s.data.toList p s.size
  rw [ba_of] at this
  rw [this, ba_list, List.take_of_length_le (by rw [drop_len]; exact Nat.le_refl _)]
theorem gText_list (s : ByteArray) (p : Nat) (h : p ≤ s.size) (x : Bool) :
    ∃ (er : Int) (q : Nat), gText s p = (ba (rdT (s.data.toList.drop p) x).1, (q : Int), er) ∧
      (if er = 0 then q ≤ s.size ∧ (rdT (s.data.toList.drop p) x).2 = (s.data.toList.drop q, x) else (rdT (s.data.toList.drop p) x).2 = ([], true)) := by
  unfold gText rdT
  rw [ins_of s p h, show (p : Int).toNat = p by omega, ext_end, indexByte_list]
  by_cases hm : 0 ∈ s.data.toList.drop p
  · have hlt := upto0_lt _ hm
    rw [drop_len] at hlt
    refine ⟨0, p + (upto0 (s.data.toList.drop p)).length + 1, ?_, ?_⟩
    · rw [if_neg (by decide), if_pos hm, if_neg (by omega), if_pos hm]
      have e : s.extract p ((p : Int) + ((upto0 (s.data.toList.drop p)).length : Nat)).toNat = ba (upto0 (s.data.toList.drop p)) := by
        apply ba_ext
        rw [ba_list, show ((p : Int) + ((upto0 (s.data.toList.drop p)).length : Nat)).toNat = p + (upto0 (s.data.toList.drop p)).length by omega, bytes_drop, upto0_take]
      rw [e]
      rw [show ((p + (upto0 (s.data.toList.drop p)).length + 1 : Nat) : Int) = (p : Int) + ((upto0 (s.data.toList.drop p)).length : Nat) + 1 by omega]
    · rw [if_pos rfl, if_pos hm]
      exact ⟨by omega, by simp [List.drop_drop, Nat.add_assoc]⟩
  · refine ⟨3, 0, ?_, ?_⟩
    · rw [if_neg (by decide), if_neg hm, if_pos rfl, if_neg hm]; rfl
    · rw [if_neg (by decide), if_neg hm]
theorem head0_list (t : ByteArray) : (head0 t).data.toList = upto0 t.data.toList := by
  unfold head0 zix
  rw [indexByte_list]
  have e : ∀ n, (t.extract 0 n).data.toList = t.data.toList.take n := fun n => by have := bytes_drop t 0 n; rw [Nat.zero_add, List.drop_zero] at this; exact this
  by_cases hm : 0 ∈ t.data.toList
  · rw [if_pos hm, if_neg (by omega), e, show (((upto0 t.data.toList).length : Nat) : Int).toNat = (upto0 t.data.toList).length by omega, upto0_take]
  · rw [if_neg hm, if_pos rfl, e, Lib.size_eq, List.take_length, upto0_self _ hm]
theorem putText_list (s t : ByteArray) : putText s t = ba (s.data.toList ++ txt t.data.toList) := by
  apply ba_ext
  unfold putText txt
  rw [ba_list]
  simp [head0_list]
theorem putText_ba (s t : Tx) : putText (ba s) (ba t) = ba (s ++ txt t) := by rw [putText_list, ba_list, ba_list]
theorem put32_ba (s : Tx) (n : Int) : put32 (ba s) n = ba (s ++ n32 n) := by
  apply ba_ext; unfold put32; rw [ba_list]; simp [ba, n32]
theorem put16_ba (s : Tx) (n : Int) : put16 (ba s) n = ba (s ++ n16 n) := by
  apply ba_ext; unfold put16; rw [ba_list]; simp [ba, n16]
theorem txt_len (t : Tx) : (txt t).length ≤ t.length + 1 := by
  have := upto0_le t
  simp [txt]; omega
end Go.Proofs.Ytojgeilihoilnaa
namespace Go.Proofs.Ytojgeilihoilnaa
open Go.ChangeShapes Go.WideShapes Go.ChangeAt Go.RowKit
set_option linter.unusedVariables false

theorem put32_size (s : ByteArray) (n : Int) : (put32 s n).size = s.size + 4 := by
  unfold put32; rw [ByteArray.size_append]; rfl
theorem conv_one (w : World) (k : UInt8) : (convert 68 9 (.slice (some ⟨w.heap.size, 0, none⟩) 1 1)).run Try.prog (w.alloc (.cells #[.int .u8 (k.toNat : Int)] 5)) = .ok (.string (ba [k])) (w.alloc (.cells #[.int .u8 (k.toNat : Int)] 5)) := by
  refine conv_row (w.alloc (.cells #[.int .u8 (k.toNat : Int)] 5)) w.heap.size 0 1 [k] ⟨_, Blk.new _ _ _, fun j b hj => ?_⟩
  cases j with
  | zero => simp at hj; subst hj; rfl
  | succ j => simp at hj
theorem right_any (k : UInt8) (b : ByteArray) (w : World) (hs : b.size ≤ 281474976710656) :
    Calls Try.prog 18 #[.agg #[u8 k, .string b]] w fun e w' => e = .returned (.bool (rightL (k, b.data.toList))) ∧ Below w.heap.size w w' := by
  have hk := k.toNat_lt
  unfold u8
  have hz : decide (k = 0) = ((k.toNat : Int) == 0) := by
    rw [Bool.eq_iff_iff]; simp [← UInt8.toNat_inj]
  have hlen : b.data.toList.length = b.size := by rw [← Lib.size_eq]
  cases h0 : decide (k = 0)
  · have e0 : ((k.toNat : Int) == 0) = false := by rw [← hz, h0]
    have dn := fun w => named_any k w
    cases hn : namedB k
    · have e : rightL (k, b.data.toList) = false := by unfold rightL; rw [h0, hn]; rfl
      rw [e]; rw [hn] at dn; clear e hn h0 hz hlen
      go_enter Try.func18, Try.ntmps18
      go_wp2_with (go_at_call 42; refine (dn _).mono ?_; rintro e w1 ⟨rfl, rfl⟩)
      go_ret
      exact ⟨rfl, (Below.refl _ _).alloc (Nat.le_refl _) _⟩
    · by_cases hl : b.size ≤ 4092
      · have e : rightL (k, b.data.toList) = true := by unfold rightL; rw [hlen, h0, hn, decide_eq_true hl]; rfl
        rw [e]; rw [hn] at dn; clear e hn h0 hz hlen
        have e1 : decide ((4 : Int) + (b.size : Int) ≤ 4096) = true := by simp; omega
        go_enter Try.func18, Try.ntmps18
        go_wp2_with (go_at_call 42; refine (dn _).mono ?_; rintro e w1 ⟨rfl, rfl⟩)
        go_ret
        exact ⟨rfl, (Below.refl _ _).alloc (Nat.le_refl _) _⟩
      · have e : rightL (k, b.data.toList) = false := by unfold rightL; rw [hlen, h0, hn, decide_eq_false hl]; rfl
        rw [e]; rw [hn] at dn; clear e hn h0 hz hlen
        have e1 : decide ((4 : Int) + (b.size : Int) ≤ 4096) = false := by simp; omega
        go_enter Try.func18, Try.ntmps18
        go_wp2_with (go_at_call 42; refine (dn _).mono ?_; rintro e w1 ⟨rfl, rfl⟩)
        go_ret
        exact ⟨rfl, (Below.refl _ _).alloc (Nat.le_refl _) _⟩
  · have e0 : ((k.toNat : Int) == 0) = true := by rw [← hz, h0]
    by_cases hl : b.size ≤ 4092
    · have e : rightL (k, b.data.toList) = true := by unfold rightL; rw [hlen, h0, decide_eq_true hl]; rfl
      rw [e]; clear e h0 hz hlen
      have e1 : decide ((4 : Int) + (b.size : Int) ≤ 4096) = true := by simp; omega
      go_enter Try.func18, Try.ntmps18
      go_wp2
      go_ret
      exact ⟨rfl, (Below.refl _ _).alloc (Nat.le_refl _) _⟩
    · have e : rightL (k, b.data.toList) = false := by unfold rightL; rw [hlen, h0, decide_eq_false hl]; rfl
      rw [e]; clear e h0 hz hlen
      have e1 : decide ((4 : Int) + (b.size : Int) ≤ 4096) = false := by simp; omega
      go_enter Try.func18, Try.ntmps18
      go_wp2
      go_ret
      exact ⟨rfl, (Below.refl _ _).alloc (Nat.le_refl _) _⟩

theorem rright_any (k : UInt8) (b : ByteArray) (w : World) (hs : b.size ≤ 281474976710656) :
    Calls Try.prog 27 #[.agg #[u8 k, .string b]] w fun e w' => e = .returned (.bool (rightL (k, b.data.toList))) ∧ Below w.heap.size w w' := by
  have hk := k.toNat_lt
  unfold u8
  have hz : decide (k = 0) = ((k.toNat : Int) == 0) := by
    rw [Bool.eq_iff_iff]; simp [← UInt8.toNat_inj]
  have hlen : b.data.toList.length = b.size := by rw [← Lib.size_eq]
  have hnm : namedB k = (decide ((33 : Int) ≤ (k.toNat : Int)) && decide ((k.toNat : Int) ≤ 126)) := by
    unfold namedB; rw [Bool.eq_iff_iff]; simp; omega
  have hR : rightL (k, b.data.toList) = ((((k.toNat : Int) == 0) || (decide ((33 : Int) ≤ (k.toNat : Int)) && decide ((k.toNat : Int) ≤ 126))) && decide ((b.size : Int) ≤ 4092)) := by
    unfold rightL; rw [hz, hnm, hlen]; congr 1; rw [Bool.eq_iff_iff]; simp; omega
  rw [hR]; clear hR hnm hlen hz
  generalize (k.toNat : Int) = n at *
  cases h0 : (n == 0)
  · cases h1 : decide ((33 : Int) ≤ n)
    · go_enter Try.func27, Try.ntmps27
      go_wp2
      go_ret
      exact ⟨rfl, (Below.refl _ _).alloc (Nat.le_refl _) _⟩
    · cases h2 : decide (n ≤ 126)
      · go_enter Try.func27, Try.ntmps27
        go_wp2
        go_ret
        exact ⟨rfl, (Below.refl _ _).alloc (Nat.le_refl _) _⟩
      · go_enter Try.func27, Try.ntmps27
        go_wp2
        go_ret
        exact ⟨rfl, (Below.refl _ _).alloc (Nat.le_refl _) _⟩
  · go_enter Try.func27, Try.ntmps27
    go_wp2
    go_ret
    exact ⟨rfl, (Below.refl _ _).alloc (Nat.le_refl _) _⟩

end Go.Proofs.Ytojgeilihoilnaa
