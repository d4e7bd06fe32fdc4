/- Words for memory at layer 2: a slice of bytes that reads as a list; append of a text to a slice without room behind it. -/
import Derived.Test.YtnjifbgjglniaaaFrp
import Derived.Laws.OwnMore
import Derived.OwnWalk
import Derived.Lib.AppendStr
import Derived.Deep.AppendSrc
namespace Go.Proofs.Ytnjifbgjglniaaa
open Go.ChangeShapes Go.WideShapes Go.ChangeAt Go.RowKit
set_option linter.unusedVariables false

/-- a byte as a cell -/
def u8 (b : UInt8) : Value := .int .u8 (b.toNat : Int)

/-- the cells of block h from off on read as the bytes l -/
def Row (w : World) (h off : Nat) (l : List UInt8) : Prop :=
  ∃ cur, w.heap[h]? = some (.cells cur 5 (0, 0)) ∧ ∀ j b, l[j]? = some b → cur[off + j]? = some (u8 b)

/-- v is a slice of bytes that reads as l -/
def RB (w : World) (v : Value) (l : List UInt8) : Prop :=
  (v = .slice none 0 0 ∧ l = []) ∨ ∃ h off cap, v = .slice (some ⟨h, off, none⟩) l.length cap ∧ Row w h off l ∧ l.length ≤ cap ∧ cap ≤ maxLen
/-- the same, with no room behind it -/
def TB (w : World) (v : Value) (l : List UInt8) : Prop :=
  (v = .slice none 0 0 ∧ l = []) ∨ ∃ h off, v = .slice (some ⟨h, off, none⟩) l.length l.length ∧ Row w h off l ∧ l.length ≤ maxLen

section
variable {w w' : World} {v : Value} {l : List UInt8} {h off : Nat}
/-- all blocks of bytes stand as they stood -/
def Stay (w w' : World) : Prop := ∀ (b : Nat) (cs : Array Value), w.heap[b]? = some (.cells cs 5 (0, 0)) → w'.heap[b]? = w.heap[b]?
theorem Row.stay (r : Row w h off l) (s : Stay w w') : Row w' h off l := by
  obtain ⟨cur, hc, hr⟩ := r
  exact ⟨cur, (s h cur hc).trans hc, hr⟩
theorem RB.stay (r : RB w v l) (s : Stay w w') : RB w' v l := by
  rcases r with r | ⟨h, off, cap, e, r, a, b⟩
  · exact .inl r
  · exact .inr ⟨h, off, cap, e, r.stay s, a, b⟩
theorem TB.stay (r : TB w v l) (s : Stay w w') : TB w' v l := by
  rcases r with r | ⟨h, off, e, r, a⟩
  · exact .inl r
  · exact .inr ⟨h, off, e, r.stay s, a⟩
theorem TB.rb (r : TB w v l) : RB w v l := by
  rcases r with r | ⟨h, off, e, r, a⟩
  · exact .inl r
  · exact .inr ⟨h, off, _, e, r, Nat.le_refl _, a⟩
theorem Row.cut (r : Row w h off l) (k : Nat) : Row w h (off + k) (l.drop k) := by
  obtain ⟨cur, hc, hr⟩ := r
  refine ⟨cur, hc, fun j b hj => ?_⟩
  rw [List.getElem?_drop] at hj
  rw [Nat.add_assoc]; exact hr _ _ hj
theorem Row.take (r : Row w h off l) (k : Nat) : Row w h off (l.take k) := by
  obtain ⟨cur, hc, hr⟩ := r
  refine ⟨cur, hc, fun j b hj => hr j b ?_⟩
  rw [List.getElem?_take] at hj
  split at hj
  · exact hj
  · cases hj
theorem Row.cell (r : Row w h off l) (j : Nat) (hj : j < l.length) : w.cell? ⟨h, off + j, none⟩ = some (.int .u8 (l[j].toNat : Int)) := by
  obtain ⟨cur, hc, hr⟩ := r
  rw [cell_of_row w h (off + j) cur _ (0, 0) hc]
  exact hr j _ (List.getElem?_eq_getElem hj)
theorem Row.lt (r : Row w h off l) : h < w.heap.size := by
  obtain ⟨cur, hc, _⟩ := r
  exact (Array.getElem?_eq_some_iff.1 hc).1
theorem RB.own {base : Nat} {n : Nat} (hw : w.ownsRow base 5 1 v n (l.map u8)) : RB w v l ∧ n = l.length := by
  have hn : n = l.length := by have := hw.1; simpa using this.symm
  subst hn
  refine ⟨?_, rfl⟩
  rcases hw.2 with ⟨e, hz⟩ | ⟨g, cap, cur, e, hb, hh, hc, hm, hs, ht⟩
  · exact .inl ⟨e, List.eq_nil_of_length_eq_zero hz⟩
  · refine .inr ⟨g, 0, cap, e, ⟨cur, hh, fun j b hj => ?_⟩, hc, hm⟩
    have h1 : (l.map u8)[j]? = some (u8 b) := by rw [List.getElem?_map, hj]; rfl
    rw [← ht, List.getElem?_take] at h1
    split at h1
    · rw [Nat.zero_add]; simpa using h1
    · cases h1
theorem strCells_u8 (s : ByteArray) : Lib.strCells s = s.data.toList.map u8 := rfl
theorem byteCells_u8 (s : ByteArray) : byteCells s = s.data.toList.map u8 := rfl

theorem Stay.refl (w : World) : Stay w w := fun _ _ _ => rfl
theorem Stay.trans {a b c : World} (h : Stay a b) (k : Stay b c) : Stay a c := fun i cs hi => (k i cs ((h i cs hi).trans hi)).trans (h i cs hi)
theorem Stay.below {B : Nat} (h : Below B w w') (hB : w.heap.size ≤ B) : Stay w w' := fun i cs hi => h.block i (Nat.lt_of_lt_of_le (Array.getElem?_eq_some_iff.1 hi).1 hB)
theorem Stay.grown {row : Option Nat} (h : w.grownBy w' row) (hr : ∀ g, row = some g → ∃ cs t fr, w.heap[g]? = some (.cells cs t fr) ∧ t ≠ 5) : Stay w w' := fun i cs hi => by
  refine h.block i (Array.getElem?_eq_some_iff.1 hi).1 (fun e => ?_)
  obtain ⟨cs', t, fr, hh, ht⟩ := hr i e.symm
  rw [hi] at hh
  injection hh with hh
  injection hh with _ e2
  exact ht e2.symm
theorem Stay.alloc (w : World) (o : Obj) : Stay w (w.alloc o) := fun i cs hi => Below.heap_alloc w o i (Array.getElem?_eq_some_iff.1 hi).1
theorem Stay.setCell (w : World) (p : Addr) (u : Value) (hp : ∃ cs t fr, w.heap[p.block]? = some (.cells cs t fr) ∧ t ≠ 5) : Stay w (w.setCell p u) := fun i cs hi => by
  refine Below.heap_setCell w p u i (fun e => ?_)
  obtain ⟨cs', t, fr, hh, ht⟩ := hp
  rw [← e, hi] at hh
  injection hh with hh
  injection hh with _ e2
  exact ht e2.symm
end

section
variable {P : Program} (w : World)

theorem setCells_nil (b o : Nat) : w.setCells b o [] = w := by
  unfold World.setCells
  simp

/-- append(v, s...): v has no room behind it -/
theorem run_append_tight (t u ty : TypeId) (i : TypeInfo) (ht : P.underlying t = some (.slice 5)) (hu : P.underlying u = some .string) (hi : P.info? 5 = some i) (hz : i.zero = some (.int .u8 0))
    (hsize : i.size = 1) (hby : i.bytes = 1) (v : Value) (l : List UInt8) (hv : TB w v l) (s : ByteArray) (hb : l.length + s.size ≤ 140737488355328) :
    ∃ v' w', (Builtin.append_ #[t, u] ty #[v, .string s]).run P w = .ok v' w' ∧ RB w' v' (l ++ s.data.toList) ∧ w.grownBy w' none := by
  rcases hv with ⟨rfl, rfl⟩ | ⟨h, off, rfl, hr, hm⟩
  · obtain ⟨v', w', h1, h2, h3, _⟩ := Lib.run_append_own_string (P := P) w w.heap.size t u ty 5 i ht hu hi hz hsize hby (.slice none 0 0) 0 [] (World.ownsRow_nil _ _ _ _) s (by unfold maxLen; simp at hb; omega) (by simpa using hb) (Nat.le_refl _)
    rw [strCells_u8, List.nil_append] at h2
    exact ⟨v', w', h1, by simpa using (RB.own h2).1, h3⟩
  · have hS : Src P i.size u (.string s) s.size (byteCells s) w := by rw [hsize]; exact Src.ofString w hu s
    by_cases h0 : s.size = 0
    · have hn : byteCells s = [] := List.eq_nil_of_length_eq_zero (by rw [byteCells_length]; exact h0)
      have hl : s.data.toList = [] := List.eq_nil_of_length_eq_zero (by rw [← Lib.size_eq]; exact h0)
      rw [hn] at hS
      have hr2 := run_append_room_src (P := P) w t u ty 5 i ht hi h off l.length l.length (.string s) s.size [] hS (by omega) (fun j hj => by simp at hj) (fun j hj => by simp at hj)
      rw [setCells_nil, h0, Nat.add_zero] at hr2
      exact ⟨_, _, hr2, by rw [hl, List.append_nil]; exact .inr ⟨h, off, l.length, rfl, hr, Nat.le_refl _, hm⟩, ⟨rfl, rfl, rfl, Nat.le_refl _, fun _ _ _ => rfl⟩⟩
    · have hold : (Builtin.firstCells i.size l.length (.slice (some ⟨h, off, none⟩) l.length l.length)).run P w.drew = .ok (l.map u8).toArray w.drew := by
        refine run_firstCells_some w.drew i.size l.length ⟨h, off, none⟩ l.length l.length (l.map u8) (by rw [hsize]; simp) (fun j u' hu' => ?_)
        rw [List.getElem?_map] at hu'
        cases hj : l[j]? with
        | none => rw [hj] at hu'; cases hu'
        | some b =>
          rw [hj] at hu'
          obtain ⟨hlt, hb'⟩ := List.getElem?_eq_some_iff.1 hj
          have := hr.cell j hlt
          rw [Addr.add_lit]
          show w.cell? _ = _
          rw [this, hb']; exact hu'
      have hr2 := run_append_grow_src (P := P) w t u ty 5 i (.int .u8 0) ht hi hz (some ⟨h, off, none⟩) l.length l.length (l.map u8) hold (.string s) s.size (byteCells s) hS (by omega) (by omega) (by rw [hby]; exact growslice_fits (by omega) (by omega))
      have hge := grownCap_ge w (l.length + s.size) l.length 5
      have hcm : grownCap w (l.length + s.size) l.length 5 ≤ maxLen := grownCap_le_maxLen w (l.length + s.size) l.length 5 (by unfold maxLen; omega)
      have hss : s.data.toList.length = s.size := by rw [← Lib.size_eq]
      refine ⟨_, _, hr2, .inr ⟨w.heap.size, 0, _, by rw [List.length_append, hss], ⟨_, heap_alloc_new w.drew _, fun j b hj => ?_⟩, by rw [List.length_append, hss]; exact hge, hcm⟩, ⟨rfl, rfl, rfl, by simp, fun k hk _ => Below.heap_alloc w.drew _ k hk⟩⟩
      have hjl : j < (l ++ s.data.toList).length := (List.getElem?_eq_some_iff.1 hj).1
      rw [byteCells_u8, ← List.map_append, Nat.zero_add, Array.getElem?_append_left (by simpa using hjl)]
      simp only [List.getElem?_toArray, List.getElem?_map, hj, Option.map_some]

theorem wpList_append_tight {ops : Array Oper} {rest : List Oper} {o : Oper} {a : Act} {Q : Exit → Act → World → Prop} (hgd : o.guard = none) (sl x : Operand) (t u : TypeId)
    (ho : o.op = .call { callee := .builtin .append, args := #[sl, x], argTypes := #[t, u] })
    (i : TypeInfo) (ht : P.underlying t = some (.slice 5)) (hu : P.underlying u = some .string) (hi : P.info? 5 = some i) (hz : i.zero = some (.int .u8 0))
    (hsize : i.size = 1) (hby : i.bytes = 1) (v : Value) (l : List UInt8) (hs : a.eval sl = v) (hv : TB w v l) (s : ByteArray) (hx : a.eval x = .string s) (hb : l.length + s.size ≤ 140737488355328)
    (h : ∀ v' w', RB w' v' (l ++ s.data.toList) → w.grownBy w' none → wpList P ops Q rest (a.put o.dst v') w') : wpList P ops Q (o :: rest) a w := by
  refine wpList_plain hgd fun K hK => ?_
  obtain ⟨v', w', hr, h2, h3⟩ := run_append_tight (P := P) w t u o.type i ht hu hi hz hsize hby v l hv s hb
  unfold Oper.wp execOp
  simp only [ho, resolve, invoke, builtin, Sem.run_bind, Sem.run_pure, Result.andThen_ok, List.map_toArray, List.map_cons, List.map_nil, hs, hx, hr]
  exact hK _ _ (h v' w' h2 h3)
end
end Go.Proofs.Ytnjifbgjglniaaa
