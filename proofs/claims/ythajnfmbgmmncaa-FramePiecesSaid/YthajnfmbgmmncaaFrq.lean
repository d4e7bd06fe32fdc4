/- Words for the laws of layer 2: lists of messages that are put together; what stays while one reader is fed, or one list grows. -/
import Derived.Test.YthajnfmbgmmncaaFrk
namespace Go.Proofs.Ythajnfmbgmmncaa
open Go.ChangeShapes Go.WideShapes Go.ChangeAt Go.RowKit
set_option linter.unusedVariables false

/-- of so many bytes there are no more messages -/
theorem feed_few (l : List UInt8) (f : Bool) : (feedL l f).1.length ≤ l.length ∧ (feedL l f).2.1.length ≤ l.length := by
  have := feedL_le l f
  omega
theorem fed_few (l : List UInt8) (f : Bool) (x : Int) (s : List UInt8) : (fed l f x s).1.length ≤ l.length + s.length ∧ (fed l f x s).2.1.length ≤ l.length + s.length := by
  unfold fed
  by_cases hx : x = 0
  · rw [if_pos hx]
    have := feed_few (l ++ s) f
    rw [List.length_append] at this; exact this
  · rw [if_neg hx]; simp

/-- a reader that was fed the bytes a, in whatever pieces: all messages, the error, and, without one, what waits -/
def Piece (a : List UInt8) (f0 : Bool) (ms : List Msg) (l : List UInt8) (f : Bool) (x : Int) : Prop :=
  ms = (feedL a f0).1 ∧ x = (feedL a f0).2.2.2 ∧ (x = 0 → l = (feedL a f0).2.1 ∧ f = (feedL a f0).2.2.1) ∧ l.length ≤ a.length
theorem Piece.none (f0 : Bool) : Piece [] f0 [] [] f0 0 := by
  have h : (aheadL [] f0).2.1 = 0 := by
    by_cases h : (aheadL [] f0).2.1 = 0
    · exact h
    · have := ahead_pos h; simp at this; omega
  have e : aheadL [] f0 = ((0, []), 0, 0) := by unfold aheadL; rw [if_pos (by have := bodyN_pos f0; simp; omega)]
  have e2 : feedL [] f0 = ([], [], f0, 0) := by rw [feedL_stop h, e]
  unfold Piece
  rw [e2]
  exact ⟨rfl, rfl, fun _ => ⟨rfl, rfl⟩, Nat.le_refl _⟩
theorem Piece.more {a : List UInt8} {f0 : Bool} {ms : List Msg} {l : List UInt8} {f : Bool} {x : Int} (h : Piece a f0 ms l f x) (b : List UInt8) :
    Piece (a ++ b) f0 (ms ++ (fed l f x b).1) (fed l f x b).2.1 (fed l f x b).2.2.1 (fed l f x b).2.2.2 := by
  obtain ⟨h1, h2, h3, h4⟩ := h
  have hj := feed_join _ a b f0 (Nat.le_refl _)
  have hf := fed_few l f x b
  by_cases he : x = 0
  · obtain ⟨e1, e2⟩ := h3 he
    have e := hj.1 (by rw [← h2]; exact he)
    unfold fed at hf ⊢
    rw [if_pos he] at hf ⊢
    rw [← e1, ← e2, ← h1] at e
    unfold Piece
    rw [e]
    exact ⟨rfl, rfl, fun _ => ⟨rfl, rfl⟩, by rw [List.length_append]; omega⟩
  · have e := hj.2 (by rw [← h2]; exact he)
    unfold fed
    rw [if_neg he]
    unfold Piece
    rw [e, List.append_nil]
    exact ⟨h1, h2, fun h0 => absurd h0 he, by rw [List.length_append]; show l.length ≤ _; omega⟩
theorem Piece.one (a : List UInt8) (f0 : Bool) : Piece a f0 (fed [] f0 0 a).1 (fed [] f0 0 a).2.1 (fed [] f0 0 a).2.2.1 (fed [] f0 0 a).2.2.2 := by
  have := (Piece.none f0).more a
  simpa using this

section
variable {w w' : World} {B B' g : Nat} {v v' : Value} {ms ms' : List Msg} {l : List UInt8} {f : Bool} {x : Int} {t : TypeId} {cs : Array Value}
theorem Msgs.type (h : Msgs w B v ms) : ∀ k, v.ownBlock = some k → ∃ cs, Blk w k 39 cs := by
  intro k hk
  rcases h.2 with ⟨rfl, _⟩ | ⟨g', cap, cur, rfl, _, hh, _⟩
  · simp [Value.ownBlock] at hk
  · have : g' = k := by simpa [Value.ownBlock] using hk
    subst this
    exact ⟨_, hh⟩
/-- a list that grows leaves another list -/
theorem Msgs.row (h : Msgs w B v ms) (h' : Msgs w B' v' ms') (hg : w.grownBy w' v'.ownBlock) (hlt : ∀ k, v.ownBlock = some k → k < B') : Msgs w' B v ms := by
  cases hv : v.ownBlock with
  | none => exact World.ownsRow.kept h hg (.inl hv)
  | some k =>
    refine World.ownsRow.kept h hg (.inr fun e => ?_)
    have h1 := (World.ownsRow.lt h' k (by rw [← e]; exact hv)).1
    have h2 := hlt k hv
    omega
/-- a list that grows leaves a reader -/
theorem Rd.row (h : Rd w g l f x) (h' : Msgs w B' v' ms') (hg : w.grownBy w' v'.ownBlock) : Rd w' g l f x := by
  obtain ⟨u, h1, h2⟩ := h
  refine ⟨u, h1.grown hg (fun e => ?_), h2.stay (Stay.grown hg fun k e => ?_)⟩
  · obtain ⟨cs, hb⟩ := h'.type g e.symm
    exact absurd rfl (h1.ne_ hb (by decide))
  · obtain ⟨cs, hb⟩ := h'.type k e
    exact ⟨_, _, _, hb, by decide⟩
theorem Msgs.lt (h : Msgs w B v ms) : ∀ k, v.ownBlock = some k → k < w.heap.size := fun k hk => (World.ownsRow.lt h k hk).2
theorem Rd.lt (h : Rd w g l f x) : g < w.heap.size := by
  obtain ⟨u, h1, _⟩ := h
  exact h1.lt
end

section
variable {P : Program} (w : World)
/-- append(xs, ys...), both of messages -/
theorem run_append_msgs (t ty : TypeId) (i : TypeInfo) (z : Value) (ht : P.underlying t = some (.slice 39)) (hi : P.info? 39 = some i) (hz : i.zero = some z) (hzs : z.cells.size = 2)
    (hsize : i.size = 2) (hby : i.bytes = 24) (B B' : Nat) (v v' : Value) (ms ms' : List Msg) (hv : Msgs w B v ms) (hv' : Msgs w B' v' ms') (hb : ms.length + ms'.length ≤ 1099511627776) (hB : B ≤ w.heap.size) :
    ∃ v2 w2, (Builtin.append_ #[t, t] ty #[v, v']).run P w = .ok v2 w2 ∧ Msgs w2 B v2 (ms ++ ms') ∧ w.grownBy w2 v.ownBlock := by
  rcases hv'.2 with ⟨rfl, hz0⟩ | ⟨g', cap, cur, rfl, hbg, hh, hc, hm, hs, htk⟩
  · have hn : ms' = [] := List.eq_nil_of_length_eq_zero hz0
    subst hn
    refine ⟨v, w, ?_, by rw [List.append_nil]; exact hv, gb_refl w _⟩
    rcases hv.2 with ⟨rfl, _⟩ | ⟨g, cap, cur, rfl, _, _, hnc, _⟩
    · simp [Builtin.append_, run_underlying ht, sizeOf, typeInfo, hi, Builtin.lenOf, Builtin.firstCells]
    · simp [Builtin.append_, run_underlying ht, sizeOf, typeInfo, hi, Builtin.lenOf, Builtin.firstCells, hnc, storeCells]
  · obtain ⟨v2, w2, h1, h2, h3, _⟩ := run_append_own (P := P) w B t ty 39 i z 2 24 ht hi hz hsize hby hzs (by decide) v ms.length (allCells ms) hv ⟨g', 0, none⟩ ms'.length cap (allCells ms') (allCells_len ms')
      (World.ownsRow.cells hv' (g := g') rfl) (fun u hu => by
        unfold allCells at hu
        obtain ⟨m, _, hm2⟩ := List.mem_flatMap.1 hu
        simp only [msgCells, List.mem_cons, List.not_mem_nil, or_false] at hm2
        rcases hm2 with rfl | rfl <;> rfl) (by unfold maxLen; omega) (by omega) hB
    refine ⟨v2, w2, h1, ?_, h3⟩
    show w2.ownsRow B _ 2 v2 (ms ++ ms').length (allCells (ms ++ ms'))
    rw [List.length_append, show allCells (ms ++ ms') = allCells ms ++ allCells ms' by simp [allCells]]
    exact h2
theorem wpList_append_msgs {ops : Array Oper} {rest : List Oper} {o : Oper} {a : Act} {Q : Exit → Act → World → Prop} (hgd : o.guard = none) (sl x : Operand) (t : TypeId)
    (ho : o.op = .call { callee := .builtin .append, args := #[sl, x], argTypes := #[t, t] })
    (i : TypeInfo) (z : Value) (ht : P.underlying t = some (.slice 39)) (hi : P.info? 39 = some i) (hz : i.zero = some z) (hzs : z.cells.size = 2)
    (hsize : i.size = 2) (hby : i.bytes = 24) (B B' : Nat) (v v' : Value) (ms ms' : List Msg) (hs : a.eval sl = v) (hx : a.eval x = v') (hv : Msgs w B v ms) (hv' : Msgs w B' v' ms') (hb : ms.length + ms'.length ≤ 1099511627776) (hB : B ≤ w.heap.size)
    (h : ∀ v2 w2, Msgs w2 B v2 (ms ++ ms') → w.grownBy w2 v.ownBlock → wpList P ops Q rest (a.put o.dst v2) w2) : wpList P ops Q (o :: rest) a w := by
  refine wpList_plain hgd fun K hK => ?_
  obtain ⟨v2, w2, hr, h2, h3⟩ := run_append_msgs (P := P) w t o.type i z ht hi hz hzs hsize hby B B' v v' ms ms' hv hv' hb hB
  unfold Oper.wp execOp
  simp only [ho, resolve, invoke, builtin, Sem.run_bind, Sem.run_pure, Result.andThen_ok, List.map_toArray, List.map_cons, List.map_nil, hs, hx, hr]
  exact hK _ _ (h v2 w2 h2 h3)
end


/-- Feed, of a reader that was fed in pieces -/
def FedPiece (g : Nat) (a : List UInt8) (f0 : Bool) (ms : List Msg) (w : World) (e : Ending) (w' : World) : Prop :=
  ∃ v ms' l f x, e = .returned (.tuple #[v, .int .i64 x]) ∧ Msgs w' w.heap.size v ms' ∧ Rd w' g l f x ∧ w.grownBy w' (some g) ∧ Piece a f0 (ms ++ ms') l f x
theorem feed_piece (g : Nat) (s : ByteArray) (w : World) (a : List UInt8) (f0 : Bool) (ms : List Msg) (l : List UInt8) (f : Bool) (x : Int) (h : Rd w g l f x) (hp : Piece a f0 ms l f x) (hl : a.length + s.size ≤ 1099511627776) :
    Calls Try.prog 11 #[.pointer (some ⟨g, 0, none⟩), .string s] w (FedPiece g (a ++ s.data.toList) f0 ms w) :=
  (feed_any g s w l f x h (by have := hp.2.2.2; omega)).mono fun e w' ⟨v, he, hm, hr, hg⟩ => ⟨v, _, _, _, _, he, hm, hr, hg, hp.more _⟩
theorem Piece.few {a : List UInt8} {f0 : Bool} {ms : List Msg} {l : List UInt8} {f : Bool} {x : Int} (h : Piece a f0 ms l f x) : ms.length ≤ a.length := by
  rw [h.1]; exact (feed_few a f0).1
theorem Piece.same {a : List UInt8} {f0 : Bool} {ms ms' : List Msg} {l l' : List UInt8} {f f' : Bool} {x x' : Int} (h : Piece a f0 ms l f x) (h' : Piece a f0 ms' l' f' x') : ms = ms' ∧ x = x' ∧ (x = 0 → l = l') :=
  ⟨h.1.trans h'.1.symm, h.2.1.trans h'.2.1.symm, fun e => ((h.2.2.1 e).1).trans ((h'.2.2.1 (by rw [← e, h.2.1, h'.2.1])).1).symm⟩
end Go.Proofs.Ythajnfmbgmmncaa
