/- What package frame's Feed does, for every reader and every text: the messages that are whole, what waits, what is wrong; which memory it turns. Condition: what waits and what is fed are together of at most 2^40 bytes. -/
import Derived.Test.YtnjifbgjglniaaaBkr
import Derived.LoopTactic
namespace Go.Proofs.Ytnjifbgjglniaaa
open Go.ChangeShapes Go.WideShapes Go.ChangeAt Go.RowKit
set_option linter.unusedVariables false

section
variable {P : Program} (w : World)
/-- append([]byte(nil), v...) -/
theorem run_append_fresh (t ty : TypeId) (i : TypeInfo) (ht : P.underlying t = some (.slice 5)) (hi : P.info? 5 = some i) (hz : i.zero = some (.int .u8 0))
    (hsize : i.size = 1) (hby : i.bytes = 1) (v : Value) (l : List UInt8) (hv : RB w v l) (hb : l.length ≤ 140737488355328) :
    ∃ a cap w', (Builtin.append_ #[t, t] ty #[.slice none 0 0, v]).run P w = .ok (.slice a l.length cap) w' ∧ RB w' (.slice a l.length cap) l ∧ w.grownBy w' none := by
  rcases hv with ⟨rfl, rfl⟩ | ⟨h, off, cap, rfl, hr, hc, hm⟩
  · refine ⟨none, 0, w, ?_, .inl ⟨rfl, rfl⟩, ⟨rfl, rfl, rfl, Nat.le_refl _, fun _ _ _ => rfl⟩⟩
    simp [Builtin.append_, run_underlying ht, sizeOf, typeInfo, hi, Builtin.lenOf, Builtin.firstCells]
  · obtain ⟨v', w', h1, h2, h3, h4⟩ := run_append_own (P := P) w w.heap.size t ty 5 i (.int .u8 0) 1 1 ht hi hz hsize hby rfl (by decide) (.slice none 0 0) 0 [] (World.ownsRow_nil _ _ _ _)
      ⟨h, off, none⟩ l.length cap (l.map u8) (by simp) (fun j u hu => by
        rw [List.getElem?_map] at hu
        cases hj : l[j]? with
        | none => rw [hj] at hu; cases hu
        | some b =>
          rw [hj] at hu
          obtain ⟨hlt, hb'⟩ := List.getElem?_eq_some_iff.1 hj
          rw [Addr.add_lit, hr.cell j hlt, hb']; exact hu) (fun u hu => by obtain ⟨_, _, rfl⟩ := List.mem_map.1 hu; rfl) (by unfold maxLen; omega) (by omega) (Nat.le_refl _)
    rw [List.nil_append, Nat.zero_add] at h2
    have hrb := (RB.own h2).1
    have hval : ∃ a cap, v' = .slice a l.length cap := by
      rcases hrb with ⟨rfl, rfl⟩ | ⟨_, _, _, rfl, _⟩
      · exact ⟨_, _, rfl⟩
      · exact ⟨_, _, rfl⟩
    obtain ⟨a, cap', rfl⟩ := hval
    exact ⟨a, cap', w', h1, hrb, h3⟩
theorem wpList_append_fresh {ops : Array Oper} {rest : List Oper} {o : Oper} {a : Act} {Q : Exit → Act → World → Prop} (hgd : o.guard = none) (sl x : Operand) (t : TypeId)
    (ho : o.op = .call { callee := .builtin .append, args := #[sl, x], argTypes := #[t, t] })
    (i : TypeInfo) (ht : P.underlying t = some (.slice 5)) (hi : P.info? 5 = some i) (hz : i.zero = some (.int .u8 0))
    (hsize : i.size = 1) (hby : i.bytes = 1) (v : Value) (l : List UInt8) (hs : a.eval sl = .slice none 0 0) (hx : a.eval x = v) (hv : RB w v l) (hb : l.length ≤ 140737488355328)
    (h : ∀ ad cap w', RB w' (.slice ad l.length cap) l → w.grownBy w' none → wpList P ops Q rest (a.put o.dst (.slice ad l.length cap)) w') : wpList P ops Q (o :: rest) a w := by
  refine wpList_plain hgd fun K hK => ?_
  obtain ⟨ad, cap, w', hr, h2, h3⟩ := run_append_fresh (P := P) w t o.type i ht hi hz hsize hby v l hv hb
  unfold Oper.wp execOp
  simp only [ho, resolve, invoke, builtin, Sem.run_bind, Sem.run_pure, Result.andThen_ok, List.map_toArray, List.map_cons, List.map_nil, hs, hx, hr]
  exact hK _ _ (h ad cap w' h2 h3)
end

def msgCells (m : Msg) : List Value := [u8 m.1, .string (ba m.2)]
def allCells (ms : List Msg) : List Value := ms.flatMap msgCells
theorem allCells_len (ms : List Msg) : (allCells ms).length = ms.length * 2 := by
  induction ms with
  | nil => rfl
  | cons m r ih => simp only [allCells, List.flatMap_cons, List.length_append, msgCells, List.length_cons, List.length_nil] at ih ⊢; omega
theorem allCells_snoc (ms : List Msg) (m : Msg) : allCells (ms ++ [m]) = allCells ms ++ msgCells m := by simp [allCells]

/-- what a reader becomes, and tells -/
def fed (l : List UInt8) (f : Bool) (x : Int) (s : List UInt8) : List Msg × List UInt8 × Bool × Int := if x = 0 then feedL (l ++ s) f else ([], l, f, x)

/-- v is a slice of the messages ms, in memory from block B on -/
def Msgs (w : World) (B : Nat) (v : Value) (ms : List Msg) : Prop := w.ownsRow B 23 2 v ms.length (allCells ms)

/-- how many elements a slice has -/
def lenV : Value → Nat | .slice _ n _ => n | _ => 0

theorem RB.form {w : World} {v : Value} {l : List UInt8} (h : RB w v l) : ∃ a cap, v = .slice a l.length cap := by
  rcases h with ⟨rfl, rfl⟩ | ⟨_, _, _, rfl, _⟩
  · exact ⟨_, _, rfl⟩
  · exact ⟨_, _, rfl⟩
theorem msgs_form {w : World} {B : Nat} {v : Value} {ms : List Msg} (h : Msgs w B v ms) : ∃ a cap, v = .slice a ms.length cap := by
  rcases h.2 with ⟨rfl, hz⟩ | ⟨_, _, _, rfl, _⟩
  · exact ⟨_, _, by rw [hz]⟩
  · exact ⟨_, _, rfl⟩

theorem gb_refl (w : World) (row : Option Nat) : w.grownBy w row := ⟨rfl, rfl, rfl, Nat.le_refl _, fun _ _ _ => rfl⟩
theorem gb_below {w0 a b : World} {row : Option Nat} (h : w0.grownBy a row) (k : Below a.heap.size a b) : w0.grownBy b row :=
  ⟨k.os.trans h.os, k.tape.trans h.tape, k.output.trans h.output, Nat.le_trans h.size k.size, fun i hi hr => (k.block i (Nat.lt_of_lt_of_le hi h.size)).trans (h.block i hi hr)⟩
theorem gb_grown {w0 a b : World} {row r : Option Nat} (h : w0.grownBy a row) (k : a.grownBy b r) (hr : ∀ i, r = some i → row = some i ∨ w0.heap.size ≤ i) : w0.grownBy b row :=
  ⟨k.os.trans h.os, k.tape.trans h.tape, k.output.trans h.output, Nat.le_trans h.size k.size, fun i hi hn => (k.block i (Nat.lt_of_lt_of_le hi h.size) (fun e => by
    rcases hr i e.symm with h1 | h1
    · exact hn h1.symm
    · omega)).trans (h.block i hi hn)⟩
theorem gb_alloc {w0 a : World} {row : Option Nat} (h : w0.grownBy a row) (o : Obj) : w0.grownBy (a.alloc o) row := gb_below h ((Below.refl _ _).alloc (Nat.le_refl _) o)
theorem gb_set {w0 a : World} {g : Nat} (h : w0.grownBy a (some g)) (i : Nat) (u : Value) : w0.grownBy (a.setCell ⟨g, i, none⟩ u) (some g) :=
  ⟨h.os, h.tape, h.output, by have := h.size; simpa [World.setCell] using this, fun k hk hn => (Below.heap_setCell _ _ _ _ (fun e => hn (by rw [e]))).trans (h.block k hk hn)⟩

theorem stay_set {w : World} {g : Nat} {t : TypeId} {cs : Array Value} (h : Blk w g t cs) (ht : t ≠ 5) (i : Nat) (u : Value) : Stay w (w.setCell ⟨g, i, none⟩ u) := Stay.setCell _ _ _ ⟨_, _, _, h, ht⟩

section
variable {g : Nat} {w0 w2 : World} {v : Value} {l : List UInt8} {ms : List Msg} {f : Bool} {v7 v8 : Value} {wr : World}
end

theorem cells2 (w2 : World) (o : Obj) (x y : Value) (t : TypeId) : ∀ j u, [x, y][j]? = some u → ((w2.alloc o).alloc (.cells #[x, y] t)).cell? ((⟨w2.heap.size + 1, 0, none⟩ : Addr).add j) = some u := by
  intro j u hj
  rw [Addr.add_lit, show w2.heap.size + 1 = (w2.alloc o).heap.size by simp, (Blk.new (w2.alloc o) t #[x, y]).cell]
  simpa using hj

theorem info5 : (Try.prog.info? 5).map (fun i => (i.zero, i.size, i.bytes)) = some (some (.int .u8 0), 1, 1) := by kernel_rfl
theorem infoM : (Try.prog.info? 23).map (fun i => (i.zero, i.size, i.bytes)) = some (some (.agg #[.int .u8 0, .string ⟨#[]⟩]), 2, 24) := by kernel_rfl

end Go.Proofs.Ytnjifbgjglniaaa
