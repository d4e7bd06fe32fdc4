/- What package frame's Feed does, for every reader and every text: the messages that are whole, what waits, what is wrong; which memory it turns. Condition: what waits and what is fed are together of at most 2^40 bytes. -/
import Derived.Test.YthajnfmbgmmncaaFra
import Derived.LoopTactic
namespace Go.Proofs.Ythajnfmbgmmncaa
open Go.ChangeShapes Go.WideShapes Go.ChangeAt Go.RowKit
set_option linter.unusedVariables false

section
variable {P : Program} (w : World)
/-- append([]byte(nil), v...) -/
theorem run_append_fresh (t ty : TypeId) (i : TypeInfo) (ht : P.underlying t = some (.slice 5)) (hi : P.info? 5 = some i) (hz : i.zero = some (.int .u8 0))
    (hsize : i.size = 1) (hby : i.bytes = 1) (v : Value) (l : List UInt8) (hv : RB w v l) (hb : l.length ≤ 140737488355328) :
    ∃ a cap w', (Builtin.append_ #[t, t] ty #[.slice none 0 0, v]).run P w = .ok (.slice a l.length cap) w' ∧ RB w' (.slice a l.length cap) l ∧ w.grownBy w' none := by
  rcases hv with ⟨rfl, rfl⟩ | ⟨h, off, cap, rfl, hr, hc, hm⟩
  · refine ⟨none, 0, w, ?_, .inl ⟨rfl, rfl⟩, ⟨rfl, rfl, rfl, Nat.le_refl _, fun _ _ _ => rfl⟩⟩
    simp [Builtin.append_, run_underlying ht, sizeOf, typeInfo, hi, Builtin.lenOf, Builtin.firstCells]
  · obtain ⟨v', w', h1, h2, h3, h4⟩ := run_append_own (P := P) w w.heap.size t ty 5 i (.int .u8 0) 1 1 ht hi hz hsize hby rfl (by decide) (.slice none 0 0) 0 [] (World.ownsRow_nil _ _ _ _)
      ⟨h, off, none⟩ l.length cap (l.map u8) (by simp) (fun j u hu => by
        rw [List.getElem?_map] at hu
        cases hj : l[j]? with
        | none => rw [hj] at hu; cases hu
        | some b =>
          rw [hj] at hu
          obtain ⟨hlt, hb'⟩ := List.getElem?_eq_some_iff.1 hj
          rw [Addr.add_lit, hr.cell j hlt, hb']; exact hu) (fun u hu => by obtain ⟨_, _, rfl⟩ := List.mem_map.1 hu; rfl) (by unfold maxLen; omega) (by omega) (Nat.le_refl _)
    rw [List.nil_append, Nat.zero_add] at h2
    have hrb := (RB.own h2).1
    have hval : ∃ a cap, v' = .slice a l.length cap := by
      rcases hrb with ⟨rfl, rfl⟩ | ⟨_, _, _, rfl, _⟩
      · exact ⟨_, _, rfl⟩
      · exact ⟨_, _, rfl⟩
    obtain ⟨a, cap', rfl⟩ := hval
    exact ⟨a, cap', w', h1, hrb, h3⟩
theorem wpList_append_fresh {ops : Array Oper} {rest : List Oper} {o : Oper} {a : Act} {Q : Exit → Act → World → Prop} (hgd : o.guard = none) (sl x : Operand) (t : TypeId)
    (ho : o.op = .call { callee := .builtin .append, args := #[sl, x], argTypes := #[t, t] })
    (i : TypeInfo) (ht : P.underlying t = some (.slice 5)) (hi : P.info? 5 = some i) (hz : i.zero = some (.int .u8 0))
    (hsize : i.size = 1) (hby : i.bytes = 1) (v : Value) (l : List UInt8) (hs : a.eval sl = .slice none 0 0) (hx : a.eval x = v) (hv : RB w v l) (hb : l.length ≤ 140737488355328)
    (h : ∀ ad cap w', RB w' (.slice ad l.length cap) l → w.grownBy w' none → wpList P ops Q rest (a.put o.dst (.slice ad l.length cap)) w') : wpList P ops Q (o :: rest) a w := by
  refine wpList_plain hgd fun K hK => ?_
  obtain ⟨ad, cap, w', hr, h2, h3⟩ := run_append_fresh (P := P) w t o.type i ht hi hz hsize hby v l hv hb
  unfold Oper.wp execOp
  simp only [ho, resolve, invoke, builtin, Sem.run_bind, Sem.run_pure, Result.andThen_ok, List.map_toArray, List.map_cons, List.map_nil, hs, hx, hr]
  exact hK _ _ (h ad cap w' h2 h3)
end

def msgCells (m : Msg) : List Value := [u8 m.1, .string (ba m.2)]
def allCells (ms : List Msg) : List Value := ms.flatMap msgCells
theorem allCells_len (ms : List Msg) : (allCells ms).length = ms.length * 2 := by
  induction ms with
  | nil => rfl
  | cons m r ih => simp only [allCells, List.flatMap_cons, List.length_append, msgCells, List.length_cons, List.length_nil] at ih ⊢; omega
theorem allCells_snoc (ms : List Msg) (m : Msg) : allCells (ms ++ [m]) = allCells ms ++ msgCells m := by simp [allCells]

/-- what a reader becomes, and tells -/
def fed (l : List UInt8) (f : Bool) (x : Int) (s : List UInt8) : List Msg × List UInt8 × Bool × Int := if x = 0 then feedL (l ++ s) f else ([], l, f, x)

/-- v is a slice of the messages ms, in memory from block B on -/
def Msgs (w : World) (B : Nat) (v : Value) (ms : List Msg) : Prop := w.ownsRow B 39 2 v ms.length (allCells ms)

def FeedPost (g : Nat) (r : List Msg × List UInt8 × Bool × Int) (w : World) (e : Ending) (w' : World) : Prop :=
  ∃ v, e = .returned (.tuple #[v, .int .i64 r.2.2.2]) ∧ Msgs w' w.heap.size v r.1 ∧ Rd w' g r.2.1 r.2.2.1 r.2.2.2 ∧ w.grownBy w' (some g)

theorem feed_nil (s : ByteArray) (w : World) :
    Calls Try.prog 11 #[.pointer none, .string s] w fun e w' => e = .returned (.tuple #[.slice none 0 0, .int .i64 12]) ∧ w' = w := by
  go_enter Try.func11, Try.ntmps11
  go_wp2_with (go_at_call 15; refine (bad_nil _).mono ?_; rintro e w' ⟨rfl, rfl⟩)
  go_ret2
  exact ⟨rfl, rfl⟩
theorem feed_zero (g : Nat) (s : ByteArray) (w : World) (h : w.cell? ⟨g, 0, none⟩ = some (.pointer none)) :
    Calls Try.prog 11 #[.pointer (some ⟨g, 0, none⟩), .string s] w fun e w' => e = .returned (.tuple #[.slice none 0 0, .int .i64 12]) ∧ w' = w := by
  go_enter Try.func11, Try.ntmps11
  go_wp2_with (go_at_call 15; refine (bad_zero _ _ h).mono ?_; rintro e w' ⟨rfl, rfl⟩)
  go_ret2
  exact ⟨rfl, rfl⟩
theorem feed_bad (g : Nat) (s : ByteArray) (w : World) (l : List UInt8) (f : Bool) (x : Int) (h : Rd w g l f x) (hx : x ≠ 0) :
    Calls Try.prog 11 #[.pointer (some ⟨g, 0, none⟩), .string s] w (FeedPost g (fed l f x s.data.toList) w) := by
  have e : fed l f x s.data.toList = ([], l, f, x) := by unfold fed; rw [if_neg hx]
  rw [e]; clear e
  have hb : (x != 0) = true := by simpa using hx
  clear hx
  go_enter Try.func11, Try.ntmps11
  go_wp2_with (go_at_call 15; refine (bad_yes _ _ _ _ _ h).mono ?_; rintro e w' ⟨rfl, rfl⟩)
  go_ret2
  exact ⟨_, rfl, World.ownsRow_nil _ _ _ _, h, ⟨rfl, rfl, rfl, Nat.le_refl _, fun _ _ _ => rfl⟩⟩

/-- how many elements a slice has -/
def lenV : Value → Nat | .slice _ n _ => n | _ => 0

theorem RB.form {w : World} {v : Value} {l : List UInt8} (h : RB w v l) : ∃ a cap, v = .slice a l.length cap := by
  rcases h with ⟨rfl, rfl⟩ | ⟨_, _, _, rfl, _⟩
  · exact ⟨_, _, rfl⟩
  · exact ⟨_, _, rfl⟩
theorem msgs_form {w : World} {B : Nat} {v : Value} {ms : List Msg} (h : Msgs w B v ms) : ∃ a cap, v = .slice a ms.length cap := by
  rcases h.2 with ⟨rfl, hz⟩ | ⟨_, _, _, rfl, _⟩
  · exact ⟨_, _, by rw [hz]⟩
  · exact ⟨_, _, rfl⟩

theorem gb_refl (w : World) (row : Option Nat) : w.grownBy w row := ⟨rfl, rfl, rfl, Nat.le_refl _, fun _ _ _ => rfl⟩
theorem gb_below {w0 a b : World} {row : Option Nat} (h : w0.grownBy a row) (k : Below a.heap.size a b) : w0.grownBy b row :=
  ⟨k.os.trans h.os, k.tape.trans h.tape, k.output.trans h.output, Nat.le_trans h.size k.size, fun i hi hr => (k.block i (Nat.lt_of_lt_of_le hi h.size)).trans (h.block i hi hr)⟩
theorem gb_grown {w0 a b : World} {row r : Option Nat} (h : w0.grownBy a row) (k : a.grownBy b r) (hr : ∀ i, r = some i → row = some i ∨ w0.heap.size ≤ i) : w0.grownBy b row :=
  ⟨k.os.trans h.os, k.tape.trans h.tape, k.output.trans h.output, Nat.le_trans h.size k.size, fun i hi hn => (k.block i (Nat.lt_of_lt_of_le hi h.size) (fun e => by
    rcases hr i e.symm with h1 | h1
    · exact hn h1.symm
    · omega)).trans (h.block i hi hn)⟩
theorem gb_alloc {w0 a : World} {row : Option Nat} (h : w0.grownBy a row) (o : Obj) : w0.grownBy (a.alloc o) row := gb_below h ((Below.refl _ _).alloc (Nat.le_refl _) o)
theorem gb_set {w0 a : World} {g : Nat} (h : w0.grownBy a (some g)) (i : Nat) (u : Value) : w0.grownBy (a.setCell ⟨g, i, none⟩ u) (some g) :=
  ⟨h.os, h.tape, h.output, by have := h.size; simpa [World.setCell] using this, fun k hk hn => (Below.heap_setCell _ _ _ _ (fun e => hn (by rw [e]))).trans (h.block k hk hn)⟩

theorem stay_set {w : World} {g : Nat} {t : TypeId} {cs : Array Value} (h : Blk w g t cs) (ht : t ≠ 5) (i : Nat) (u : Value) : Stay w (w.setCell ⟨g, i, none⟩ u) := Stay.setCell _ _ _ ⟨_, _, _, h, ht⟩

/-- what holds in Feed, while it goes on: left is v7, whole is v8 -/
structure Inv (g : Nat) (w0 : World) (v : Value) (l : List UInt8) (ms : List Msg) (f : Bool) (v7 v8 : Value) (wr : World) : Prop where
  left : RB wr v7 l
  whole : Msgs wr w0.heap.size v8 ms
  self : Blk wr g 47 #[.pointer (some ⟨g, 0, none⟩), .bool f, v, .int .i64 0]
  grown : w0.grownBy wr (some g)

section
variable {g : Nat} {w0 w2 : World} {v : Value} {l : List UInt8} {ms : List Msg} {f : Bool} {v7 v8 : Value} {wr : World}
theorem Inv.below (h : Inv g w0 v l ms f v7 v8 wr) (hb : Below wr.heap.size wr w2) : Inv g w0 v l ms f v7 v8 w2 :=
  ⟨h.left.stay (Stay.below hb (Nat.le_refl _)),
   h.whole.kept (row := none) ⟨hb.os, hb.tape, hb.output, hb.size, fun k hk _ => hb.block k hk⟩ (by cases hv : v8.ownBlock <;> simp),
   h.self.below hb h.self.lt, gb_below h.grown hb⟩
theorem Inv.alloc (h : Inv g w0 v l ms f v7 v8 wr) (o : Obj) : Inv g w0 v l ms f v7 v8 (wr.alloc o) := h.below ((Below.refl _ _).alloc (Nat.le_refl _) o)
/-- left becomes a row of its own -/
theorem Inv.fresh {v9 : Value} (h : Inv g w0 v l ms f v7 v8 wr) (hg : wr.grownBy w2 none) (hr : RB w2 v9 l) : Inv g w0 v l ms f v9 v8 w2 :=
  ⟨hr, h.whole.kept hg (by cases hv : v8.ownBlock <;> simp), h.self.grown hg (by simp), gb_grown h.grown hg (fun _ e => by cases e)⟩
theorem Inv.own_ne (h : Inv g w0 v l ms f v7 v8 wr) : v8.ownBlock ≠ some g := by
  rcases h.whole.2 with ⟨rfl, _⟩ | ⟨g', cap, cur, rfl, _, hh, _⟩
  · simp [Value.ownBlock]
  · intro he
    have : g' = g := by simpa [Value.ownBlock] using he
    subst this
    have hs := h.self
    unfold Blk at hs
    rw [hh] at hs
    injection hs with hs
    injection hs with _ ht
    exact absurd ht (by decide)
theorem Inv.own_row (h : Inv g w0 v l ms f v7 v8 wr) : ∀ k, v8.ownBlock = some k → ∃ cs t fr, wr.heap[k]? = some (.cells cs t fr) ∧ t ≠ 5 := by
  intro k hk
  rcases h.whole.2 with ⟨rfl, _⟩ | ⟨g', cap, cur, rfl, _, hh, _⟩
  · simp [Value.ownBlock] at hk
  · have : g' = k := by simpa [Value.ownBlock] using hk
    subst this
    exact ⟨_, _, _, hh, by decide⟩
/-- one message more is whole -/
theorem Inv.more {v9 : Value} {k : UInt8} {b : List UInt8} (h : Inv g w0 v l ms f v7 v8 wr) (hg : wr.grownBy w2 v8.ownBlock)
    (hw : w2.ownsRow w0.heap.size 39 2 v9 (ms.length + 1) (allCells ms ++ [u8 k, .string (ba b)])) : Inv g w0 v l (ms ++ [(k, b)]) f v7 v9 w2 := by
  refine ⟨h.left.stay (Stay.grown hg h.own_row), ?_, h.self.grown hg (fun e => h.own_ne e.symm), gb_grown h.grown hg (fun i e => .inr ((h.whole.lt i e).1))⟩
  show w2.ownsRow _ _ _ _ (ms ++ [(k, b)]).length (allCells (ms ++ [(k, b)]))
  rw [allCells_snoc, List.length_append]
  exact hw
/-- left is cut -/
theorem Inv.cut {h off cap size : Nat} (hi : Inv g w0 v l ms f (.slice (some ⟨h, off, none⟩) l.length cap) v8 wr) (hs : size ≤ l.length) (hz : size ≠ 0) :
    Inv g w0 v (l.drop size) ms f (.slice (if cap = size then some ⟨h, off, none⟩ else some ⟨h, off + size, none⟩) (l.length - size) (cap - size)) v8 wr := by
  refine ⟨?_, hi.whole, hi.self, hi.grown⟩
  rcases hi.left with ⟨e, _⟩ | ⟨h', off', cap', e, hr, hc, hm⟩
  · cases e
  · injection e with e1 e2 e3
    injection e1 with e1
    injection e1 with e4 e5
    subst e3 e4 e5
    by_cases hcap : cap = size
    · rw [if_pos hcap]
      have h0 : l.drop size = [] := List.drop_eq_nil_of_le (by omega)
      rw [h0]
      refine .inr ⟨h, off, cap - size, by rw [show l.length - size = 0 by omega]; rfl, by simpa using hr.take 0, by simp, by omega⟩
    · rw [if_neg hcap]
      exact .inr ⟨h, off + size, cap - size, by rw [List.length_drop], hr.cut size, by rw [List.length_drop]; omega, by omega⟩
/-- no first message is next -/
theorem Inv.first (h : Inv g w0 v l ms f v7 v8 wr) : Inv g w0 v l ms false v7 v8 (wr.setCell ⟨g, 1, none⟩ (.bool false)) :=
  ⟨h.left.stay (stay_set h.self (by decide) 1 _),
   h.whole.kept (row := some g) ⟨rfl, rfl, rfl, by simp [World.setCell], fun k _ hk => Below.heap_setCell _ _ _ _ (fun e => hk (by rw [e]))⟩ (.inr h.own_ne),
   h.self.set_ 1 (.bool false), gb_set h.grown 1 _⟩
/-- the end -/
theorem Inv.done {a : Option Addr} {cap : Nat} {er : Int} (h : Inv g w0 v l ms f (.slice a l.length cap) v8 wr) :
    FeedPost g (ms, l, f, er) w0 (.returned (.tuple #[v8, .int .i64 er])) ((wr.setCell ⟨g, 2, none⟩ (.slice a l.length l.length)).setCell ⟨g, 3, none⟩ (.int .i64 er)) := by
  have s1 : Stay wr ((wr.setCell ⟨g, 2, none⟩ (.slice a l.length l.length)).setCell ⟨g, 3, none⟩ (.int .i64 er)) :=
    (stay_set h.self (by decide) 2 _).trans (stay_set (h.self.set_ 2 _) (by decide) 3 _)
  have g1 : wr.grownBy ((wr.setCell ⟨g, 2, none⟩ (.slice a l.length l.length)).setCell ⟨g, 3, none⟩ (.int .i64 er)) (some g) := gb_set (gb_set (gb_refl _ _) _ _) _ _
  refine ⟨v8, rfl, h.whole.kept g1 (.inr h.own_ne), ⟨.slice a l.length l.length, (h.self.set_ 2 _).set_ 3 _, ?_⟩, gb_set (gb_set h.grown _ _) _ _⟩
  rcases h.left.stay s1 with ⟨e, hl⟩ | ⟨h', off', cap', e, hr, hc, hm⟩
  · refine .inl ⟨?_, hl⟩
    injection e with e1 e2 e3
    subst e1 hl
    rfl
  · injection e with e1 e2 e3
    subst e1
    exact .inr ⟨h', off', rfl, hr, Nat.le_trans hc hm⟩
theorem Inv.cap (h : Inv g w0 v l ms f v7 v8 wr) : ∀ a n cap, v7 = .slice a n cap → l.length ≤ cap ∧ cap ≤ maxLen := by
  intro a n cap e
  rcases h.left with ⟨rfl, rfl⟩ | ⟨_, _, cap', rfl, _, hc, hm⟩
  · injection e with _ _ e3; subst e3; simp [maxLen]
  · injection e with _ _ e3; subst e3; exact ⟨hc, hm⟩
end

theorem FeedPost.alloc {g : Nat} {r : List Msg × List UInt8 × Bool × Int} {w w' : World} {e : Ending} (h : FeedPost g r w e w') (o : Obj) : FeedPost g r w e (w'.alloc o) := by
  obtain ⟨v, he, hm, ⟨v2, hb, ht⟩, hg⟩ := h
  exact ⟨v, he, World.ownsRow.alloc hm o, ⟨v2, hb.alloc o, ht.stay (Stay.alloc _ o)⟩, gb_alloc hg o⟩
theorem cells2 (w2 : World) (o : Obj) (x y : Value) (t : TypeId) : ∀ j u, [x, y][j]? = some u → ((w2.alloc o).alloc (.cells #[x, y] t)).cell? ((⟨w2.heap.size + 1, 0, none⟩ : Addr).add j) = some u := by
  intro j u hj
  rw [Addr.add_lit, show w2.heap.size + 1 = (w2.alloc o).heap.size by simp, (Blk.new (w2.alloc o) t #[x, y]).cell]
  simpa using hj

def FeedRel (g : Nat) (w0 : World) (v : Value) (F : List Msg × List UInt8 × Bool × Int) (n : Nat) (v7 v8 : Value) (wr : World) : Prop :=
  ∃ l ms f, Inv g w0 v l ms f v7 v8 wr ∧ F = (ms ++ (feedL l f).1, (feedL l f).2) ∧ l.length + ms.length * 4 ≤ n

theorem info5 : (Try.prog.info? 5).map (fun i => (i.zero, i.size, i.bytes)) = some (some (.int .u8 0), 1, 1) := by kernel_rfl
theorem infoM : (Try.prog.info? 39).map (fun i => (i.zero, i.size, i.bytes)) = some (some (.agg #[.int .u8 0, .string ⟨#[]⟩]), 2, 24) := by kernel_rfl

set_option maxHeartbeats 2000000 in
theorem feed_ok (g : Nat) (s : ByteArray) (w : World) (l : List UInt8) (f : Bool) (h : Rd w g l f 0) (hl : l.length + s.size ≤ 1099511627776) :
    Calls Try.prog 11 #[.pointer (some ⟨g, 0, none⟩), .string s] w (FeedPost g (feedL (l ++ s.data.toList) f) w) := by
  obtain ⟨i5, hi5, hz5, hs5, hb5⟩ := info_parts info5
  obtain ⟨iM, hiM, hzM, hsM, hbM⟩ := info_parts infoM
  have h' := h
  obtain ⟨v, hb, hv⟩ := h'
  have c2 : w.cell? ⟨g, 2, none⟩ = some v := hb.cell 2
  have hlt := hb.lt
  go_enter Try.func11, Try.ntmps11
  go_wp2_with (first
    | (go_at_call 15; refine (bad_yes _ _ _ _ _ h).mono ?_; rintro e w' ⟨rfl, rfl⟩)
    | (at_builtin; refine wpList_append_tight _ rfl (.tmp 20) (.tmp 21) _ _ rfl i5 Try.underlying45 Try.underlying9 hi5 hz5 hs5 hb5 v l rfl hv s rfl (by omega) ?_; intro v1 w1 hrb1 hgr1))
  go_loopw [7, 8] (FeedRel g w' v (feedL (l ++ s.data.toList) f) (l.length + s.size)) (fun v7 _ _ => lenV v7)
  case atStart =>
    refine ⟨_, [], f, ⟨hrb1, World.ownsRow_nil _ _ _ _, hb.grown hgr1 (by simp), gb_grown (gb_refl _ _) hgr1 (fun _ e => by cases e)⟩, rfl, ?_⟩
    rw [List.length_append, ← Lib.size_eq]; simp
  case round =>
    obtain ⟨l2, ms, f2, hI, hF, hn⟩ := hrel
    obtain ⟨a7, cap7, rfl⟩ := hI.left.form
    obtain ⟨a8, cap8, rfl⟩ := msgs_form hI.whole
    obtain ⟨hcap, hmax⟩ := hI.cap _ _ _ rfl
    have c1 : wr.cell? ⟨g, 1, none⟩ = some (.bool f2) := hI.self.cell 1
    have c2' : wr.cell? ⟨g, 2, none⟩ = some v := hI.self.cell 2
    have c3' : wr.cell? ⟨g, 3, none⟩ = some (.int .i64 0) := hI.self.cell 3
    have fz := fun i => hI.self.frozen i
    have hlr := hI.self.lt
    have ha := ahead_any _ l2 f2 wr hI.left (by omega)
    unfold maxLen at hmax
    clear h hb hv c2 hrb1 hgr1
    by_cases hz : (aheadL l2 f2).2.1 = 0
    · have hst := feedL_stop hz
      rw [hst] at hF
      obtain ⟨k, b, er, hd⟩ : ∃ k b er, retA (aheadL l2 f2) = .returned (.tuple #[.agg #[.int .u8 k, .string b], .int .i64 0, .int .i64 er]) ∧ (aheadL l2 f2).2.2 = er := ⟨_, _, _, by unfold retA; rw [hz]; rfl, rfl⟩
      obtain ⟨hd, he⟩ := hd
      rw [hd] at ha
      rw [he, List.append_nil] at hF
      have HF := Lib.hid hF
      clear hF hst hd he hz
      by_cases hm0 : ms.length = 0
      · obtain rfl : ms = [] := List.eq_nil_of_length_eq_zero hm0
        go_wp2_with (go_at_call 21; refine ha.mono ?_; rintro e w2 ⟨rfl, hb2⟩; have hI2 := hI.below hb2; have e1 : w2.cell? ⟨g, 1, none⟩ = some (.bool f2) := hI2.self.cell 1; have e2 : w2.cell? ⟨g, 2, none⟩ = some v := hI2.self.cell 2; have e3 : w2.cell? ⟨g, 3, none⟩ = some (.int .i64 0) := hI2.self.cell 3; have fz2 := fun i => hI2.self.frozen i; have hg2 := hI2.self.lt)
        refine bodyPost_ret (v := .tuple #[.slice a8 0 cap8, .int .i64 er]) (by simp [results, Try.results11, go_sem]) rfl ?_
        rw [HF.out]
        exact hI2.done.alloc _
      · have hm1 : 0 < ms.length := by omega
        clear hm0
        go_wp2_with (first
          | (go_at_call 21; refine ha.mono ?_; rintro e w2 ⟨rfl, hb2⟩; have hI2 := hI.below hb2; have e1 : w2.cell? ⟨g, 1, none⟩ = some (.bool f2) := hI2.self.cell 1; have e2 : w2.cell? ⟨g, 2, none⟩ = some v := hI2.self.cell 2; have e3 : w2.cell? ⟨g, 3, none⟩ = some (.int .i64 0) := hI2.self.cell 3; have fz2 := fun i => hI2.self.frozen i; have hg2 := hI2.self.lt)
          | (at_builtin; refine wpList_append_fresh _ rfl (.const (.slice none 0 0)) (.tmp 38) _ rfl i5 Try.underlying45 hi5 hz5 hs5 hb5 _ l2 rfl rfl ((hI.below hb2).alloc _).left (by omega) ?_; intro a9 cap9 w3 hrb3 hgr3; have hI3 := ((hI.below hb2).alloc _).fresh hgr3 hrb3; have d2 : w3.cell? ⟨g, 2, none⟩ = some v := hI3.self.cell 2; have d3 : w3.cell? ⟨g, 3, none⟩ = some (.int .i64 0) := hI3.self.cell 3; have fz3 := fun i => hI3.self.frozen i; have hcap3 := (hI3.cap _ _ _ rfl).1))
        refine bodyPost_ret (v := .tuple #[.slice a8 ms.length cap8, .int .i64 er]) (by simp [results, Try.results11, go_sem]) rfl ?_
        rw [HF.out]
        exact hI3.done
    · have hp := ahead_pos hz
      have hst := feedL_step hz
      obtain ⟨h7, off7, rfl⟩ : ∃ h off, a7 = some ⟨h, off, none⟩ := by
        rcases hI.left with ⟨e, hl0⟩ | ⟨h', off', cap', e, _⟩
        · subst hl0; simp at hp; omega
        · injection e with e1; exact ⟨h', off', e1⟩
      obtain ⟨size, hsz⟩ : ∃ n, (aheadL l2 f2).2.1 = n := ⟨_, rfl⟩
      obtain ⟨k, b, hm⟩ : ∃ k b, (aheadL l2 f2).1 = (k, b) := ⟨_, _, rfl⟩
      have hd : retA (aheadL l2 f2) = .returned (.tuple #[.agg #[u8 k, .string (ba b)], .int .i64 size, .int .i64 0]) := by unfold retA; rw [hm, hsz, hp.2.2.2.1]
      rw [hd] at ha
      rw [hst, hm, hsz] at hF
      have hs4 : 4 ≤ size := by rw [← hsz]; exact hp.1
      have hsl : size ≤ l2.length := by rw [← hsz]; exact hp.2.2.1
      have HF := Lib.hid hF
      clear hF hst hp hd hm hz hsz
      have hc := hI.cut hsl (by omega)
      unfold u8 at ha
      go_wp2_with (first
        | (go_at_call 21; refine ha.mono ?_; rintro e w2 ⟨rfl, hb2⟩; have hI2 := hI.below hb2; have e1 : w2.cell? ⟨g, 1, none⟩ = some (.bool f2) := hI2.self.cell 1; have e2 : w2.cell? ⟨g, 2, none⟩ = some v := hI2.self.cell 2; have e3 : w2.cell? ⟨g, 3, none⟩ = some (.int .i64 0) := hI2.self.cell 3; have fz2 := fun i => hI2.self.frozen i; have hg2 := hI2.self.lt)
        | (at_builtin; go_must (
           refine wpList_append_own _ rfl (.tmp 55) (.tmp 57) _ rfl w'.heap.size 39 iM _ 2 24 Try.underlying31 hiM hzM hsM hbM rfl (by decide) _ ms.length (allCells ms) rfl (((hI.below hb2).alloc _).alloc _).whole ⟨w2.heap.size + 1, 0, none⟩ 1 1 [u8 k, .string (ba b)] rfl rfl ?c1 ?c2 ?c3 ?c4 ?c5 ?_
           case c1 => exact cells2 w2 _ _ _ _
           case c2 => intro u hu; simp only [List.mem_cons, List.not_mem_nil, or_false] at hu; rcases hu with rfl | rfl <;> rfl
           case c3 => unfold maxLen; omega
           case c4 => omega
           case c5 => have := hI2.grown.size; simp; omega
           intro v9 w4 hown4 hgr4 _
           have hI4 := (((hc.below hb2).alloc _).alloc _).more hgr4 hown4
           have d1 : w4.cell? ⟨g, 1, none⟩ = some (.bool f2) := hI4.self.cell 1
           have fz4 := fun i => hI4.self.frozen i)))
      go_roundw
      case rel => exact ⟨_, _, _, hI4.first, by rw [HF.out, List.append_assoc]; rfl, by rw [List.length_drop, List.length_append, List.length_singleton]; omega⟩
      case measure => simp [lenV]; omega

theorem feed_any (g : Nat) (s : ByteArray) (w : World) (l : List UInt8) (f : Bool) (x : Int) (h : Rd w g l f x) (hl : l.length + s.size ≤ 1099511627776) :
    Calls Try.prog 11 #[.pointer (some ⟨g, 0, none⟩), .string s] w (FeedPost g (fed l f x s.data.toList) w) := by
  by_cases hx : x = 0
  · subst hx
    have e : fed l f 0 s.data.toList = feedL (l ++ s.data.toList) f := by unfold fed; rw [if_pos rfl]
    rw [e]
    exact feed_ok g s w l f h hl
  · exact feed_bad g s w l f x h hx
end Go.Proofs.Ythajnfmbgmmncaa
