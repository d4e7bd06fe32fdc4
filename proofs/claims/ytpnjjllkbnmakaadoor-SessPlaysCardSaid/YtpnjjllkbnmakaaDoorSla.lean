/- Words for memory: a block known whole, what a step may turn, a map of pointers. No program is walked here; no condition. -/
import Derived.Test.YtpnjjllkbnmakaaDoorRows
import Derived.WalkKit
import Derived.ProofKit
import Derived.Below
import Derived.IntWalk
import Derived.Carry
import Derived.Lib.Hide
import Derived.Lib.Walk
import Derived.Lib.Strings
import Derived.Laws.Rows
import Derived.LaidEqlPtr
import Derived.OwnWalk
import Derived.Maps.OwnSet
import Derived.StringKeys
import Derived.Deep.Draws
namespace Go.Proofs.YtpnjjllkbnmakaaDoor.SL
open Go.ChangeShapes Go.WideShapes Go.ChangeAt Go.RowKit Go.Maps Go.ChangeMaps
set_option maxRecDepth 100000
set_option linter.unusedVariables false
set_option linter.unusedSimpArgs false

/-- block g is just these cells -/
def Bk (w : World) (g : Nat) (t : TypeId) (cs : Array Value) : Prop := w.heap[g]? = some (.cells cs t (0, 0))
section
variable {w w' : World} {g : Nat} {t : TypeId} {cs : Array Value}
theorem Bk.lt (h : Bk w g t cs) : g < w.heap.size := (Array.getElem?_eq_some_iff.1 h).1
theorem Bk.cell (h : Bk w g t cs) (i : Nat) : w.cell? ⟨g, i, none⟩ = cs[i]? := cell_of_row w g i cs t (0, 0) h
theorem Bk.frozen (h : Bk w g t cs) (i : Nat) : w.frozen? ⟨g, i, none⟩ = false := by
  unfold Bk at h
  simp [World.frozen?, h]
theorem Bk.new (w : World) (t : TypeId) (cs : Array Value) : Bk (w.alloc (.cells cs t)) w.heap.size t cs := heap_alloc_new w _
theorem Bk.alloc (h : Bk w g t cs) (o : Obj) : Bk (w.alloc o) g t cs := (Below.heap_alloc w o g h.lt).trans h
theorem Bk.set_ (h : Bk w g t cs) (i : Nat) (u : Value) : Bk (w.setCell ⟨g, i, none⟩ u) g t (cs.setIfInBounds i u) := by
  unfold Bk at h ⊢
  simp [World.setCell, Array.getElem?_modify, h]
theorem Bk.far (h : Bk w g t cs) {p : Addr} (hp : g ≠ p.block) (u : Value) : Bk (w.setCell p u) g t cs := (Below.heap_setCell w p u g hp).trans h
theorem Bk.ne_ {g' : Nat} {t' : TypeId} {cs' : Array Value} (h : Bk w g t cs) (h' : Bk w g' t' cs') (hne : t ≠ t') : g ≠ g' := by
  rintro rfl
  unfold Bk at h h'
  rw [h] at h'
  injection h' with h'
  injection h' with _ ht
  exact hne ht
theorem Bk.drew (h : Bk w g t cs) : Bk w.drew g t cs := h
theorem Bk.heap (h : Bk w g t cs) (e : w'.heap[g]? = w.heap[g]?) : Bk w' g t cs := e.trans h
end
/-- what a step turns: of what was there, the blocks of S at most -/
structure Chg (S : Nat → Prop) (w w' : World) : Prop where
  os : w'.os = w.os
  tape : w'.tape = w.tape
  output : w'.output = w.output
  size : w.heap.size ≤ w'.heap.size
  block : ∀ k, k < w.heap.size → ¬ S k → w'.heap[k]? = w.heap[k]?
section
variable {S S' : Nat → Prop} {w w1 w2 : World}
theorem Chg.refl (S : Nat → Prop) (w : World) : Chg S w w := ⟨rfl, rfl, rfl, Nat.le_refl _, fun _ _ _ => rfl⟩
theorem Chg.trans' (h : Chg S w w1) (k : Chg S' w1 w2) (hs : ∀ b, b < w.heap.size → S' b → S b) : Chg S w w2 :=
  ⟨k.os.trans h.os, k.tape.trans h.tape, k.output.trans h.output, Nat.le_trans h.size k.size, fun i hi hn => (k.block i (Nat.lt_of_lt_of_le hi h.size) (fun e => hn (hs i hi e))).trans (h.block i hi hn)⟩
theorem Chg.trans (h : Chg S w w1) (k : Chg S w1 w2) : Chg S w w2 := h.trans' k fun _ _ e => e
theorem Chg.mono (h : Chg S w w1) (hs : ∀ b, b < w.heap.size → S b → S' b) : Chg S' w w1 :=
  ⟨h.os, h.tape, h.output, h.size, fun i hi hn => h.block i hi fun e => hn (hs i hi e)⟩
theorem Chg.of_below (h : Below w.heap.size w w1) : Chg S w w1 := ⟨h.os, h.tape, h.output, h.size, fun i hi _ => h.block i hi⟩
theorem Chg.below (h : Chg S w w1) {B : Nat} (hB : B ≤ w.heap.size) (hs : ∀ b, b < B → ¬ S b) : Below B w w1 := ⟨h.os, h.tape, h.output, h.size, fun i hi => h.block i (Nat.lt_of_lt_of_le hi hB) (hs i hi)⟩
theorem Chg.alloc (h : Chg S w w1) (o : Obj) : Chg S w (w1.alloc o) := h.trans ⟨rfl, rfl, rfl, by simp, fun k hk _ => Below.heap_alloc _ _ _ hk⟩
theorem Chg.setCell (h : Chg S w w1) {p : Addr} (hp : S p.block) (u : Value) : Chg S w (w1.setCell p u) :=
  h.trans ⟨rfl, rfl, rfl, by simp [World.setCell], fun k hk hn => Below.heap_setCell _ _ _ _ (fun e => hn (by rw [e]; exact hp))⟩
theorem Chg.newCell (h : Chg S w w1) {p : Addr} (hp : w.heap.size ≤ p.block) (u : Value) : Chg S w (w1.setCell p u) :=
  ⟨h.os, h.tape, h.output, by have := h.size; simpa [World.setCell] using this, fun k hk hn => (Below.heap_setCell _ _ _ _ (by omega)).trans (h.block k hk hn)⟩
theorem Chg.drewN (h : Chg S w w1) (n : Nat) : Chg S w (w1.drewN n) := by
  have hb : Below w1.heap.size w1 (w1.drewN n) := by
    refine ⟨?_, ?_, ?_, ?_, ?_⟩ <;> first | rfl | exact Nat.le_refl _ | (intros; rfl) | simp [World.drewN]
  exact h.trans (.of_below hb)
theorem Chg.drew (h : Chg S w w1) : Chg S w w1.drew := ⟨h.os, h.tape, h.output, h.size, h.block⟩
theorem Chg.grown (h : Chg S w w1) {row : Option Nat} (hg : w1.grownBy w2 row) (hr : ∀ k, row = some k → k < w.heap.size → S k) : Chg S w w2 :=
  ⟨hg.os.trans h.os, hg.tape.trans h.tape, hg.output.trans h.output, Nat.le_trans h.size hg.size, fun i hi hn => (hg.block i (Nat.lt_of_lt_of_le hi h.size) (fun e => hn (hr i e.symm hi))).trans (h.block i hi hn)⟩
theorem Chg.cell (h : Chg S w w1) {p : Addr} (hp : p.block < w.heap.size) (hn : ¬ S p.block) : w1.cell? p = w.cell? p := World.cell?_of_block (w := w) (h.block p.block hp hn)
theorem Bk.chg {g : Nat} {t : TypeId} {cs : Array Value} (h : Bk w g t cs) (hc : Chg S w w1) (hn : ¬ S g) : Bk w1 g t cs := (hc.block g h.lt hn).trans h
end
theorem below_drewN (B : Nat) (w : World) (n : Nat) : Below B w (w.drewN n) := by
  refine ⟨?_, ?_, ?_, ?_, ?_⟩ <;> first | rfl | exact Nat.le_refl _ | (intros; rfl) | simp [World.drewN]

abbrev ptr (b : Nat) : Value := .pointer (some ⟨b, 0, none⟩)
/-- how a pointer to a whole block reads -/
def ptrE : Value → Option (DataW Unit × List MemPlace)
  | .pointer none => some (.lit (.int .i64 (-1)), [])
  | .pointer (some ⟨b, 0, none⟩) => some (.lit (.int .i64 b), [])
  | _ => none
def pD : Option Nat → DataW Unit
  | none => .lit (.int .i64 (-1))
  | some b => .lit (.int .i64 b)
def pV : Option Nat → Value
  | none => .pointer none
  | some b => ptr b
theorem ptrE_mk (o : Option Nat) : ptrE (pV o) = some (pD o, []) := by cases o <;> rfl
theorem ptrE_inv {v : Value} {o : Option Nat} {ps : List MemPlace} (h : ptrE v = some (pD o, ps)) : v = pV o := by
  unfold ptrE at h
  split at h
  · cases o with
    | none => rfl
    | some b => simp [pD] at h
  · rename_i b
    cases o with
    | none => simp [pD] at h
    | some c =>
      simp only [pD, Option.some.injEq, Prod.mk.injEq, DataW.lit.injEq, Lit.int.injEq, true_and] at h
      have : b = c := by omega
      subst this; rfl
  · cases h
theorem lit_ne {a b : ByteArray} (h : a ≠ b) : Lit.string a.data.toList ≠ Lit.string b.data.toList := fun e => by
  injection e with e
  apply h
  cases a; cases b
  simp only at e
  rw [Array.ext' e]
/-- the block is a map from texts to pointers, of at most n entries -/
def MapP (w : World) (b n : Nat) (f : ByteArray → Option Nat) : Prop :=
  ∃ D, w.ownsMap Tryd.prog 9 ptrE b n D ∧ ∀ k : ByteArray, D.atKey (.string k.data.toList) (pD none) = pD (f k)
theorem strK : Keyed Tryd.prog 9 := string_keyed Tryd.underlying9
theorem keyB (k : ByteArray) (h : k.size ≤ 281474976710656) : keyOf Tryd.prog 9 (.string k) = some (.string k.data.toList) :=
  WideMaps.keyOf_string_mk Tryd.underlying9 (by unfold maxLen; omega)
theorem MapP.lt {w : World} {b n : Nat} {f : ByteArray → Option Nat} (h : MapP w b n f) : b < w.heap.size := by
  obtain ⟨D, h, _⟩ := h; exact h.lt
theorem MapP.made (w : World) : MapP (w.alloc (.map #[] 0)) w.heap.size 0 fun _ => none := ⟨.map [], World.ownsMap_made _ _ _ _, fun k => rfl⟩
theorem MapP.keep {w w' : World} {b n : Nat} {f : ByteArray → Option Nat} (h : MapP w b n f) (e : w'.heap[b]? = w.heap[b]?) : MapP w' b n f := by
  obtain ⟨D, ⟨es, clock, hb, r⟩, hf⟩ := h
  exact ⟨D, ⟨es, clock, e.trans hb, r⟩, hf⟩
theorem MapP.put {w : World} {b n : Nat} {f : ByteArray → Option Nat} {D : DataW Unit} (h : w.ownsMap Tryd.prog 9 ptrE b n D) (hf : ∀ k : ByteArray, D.atKey (.string k.data.toList) (pD none) = pD (f k)) {w' : World} {k : ByteArray} {p m : Nat}
    (h' : w'.ownsMap Tryd.prog 9 ptrE b m (D.put (.string k.data.toList) (pD (some p)))) : MapP w' b m fun x => if x = k then some p else f x := by
  refine ⟨_, h', fun x => ?_⟩
  by_cases hx : x = k
  · subst hx
    show _ = pD (if x = x then some p else f x)
    rw [if_pos rfl]
    exact atKey_put_same (h.isMap) (show WideAt.IsKeyLit (Lit.string _) from trivial) _ _
  · show _ = pD (if x = k then some p else f x)
    rw [if_neg hx, atKey_put_other (lit_ne hx)]; exact hf x
theorem MapP.del {b : Nat} {f : ByteArray → Option Nat} {D : DataW Unit} (hf : ∀ k : ByteArray, D.atKey (.string k.data.toList) (pD none) = pD (f k)) {w' : World} {k : ByteArray} {m : Nat}
    (h' : w'.ownsMap Tryd.prog 9 ptrE b m (D.del (.string k.data.toList))) : MapP w' b m fun x => if x = k then none else f x := by
  refine ⟨_, h', fun x => ?_⟩
  by_cases hx : x = k
  · subst hx
    show _ = pD (if x = x then none else f x)
    rw [if_pos rfl]; exact atKey_del_same _
  · show _ = pD (if x = k then none else f x)
    rw [if_neg hx, atKey_del_other (lit_ne hx)]; exact hf x
theorem bk_nomap {w : World} {g b n : Nat} {t : TypeId} {cs : Array Value} {f : ByteArray → Option Nat} (h : Bk w g t cs) (hm : MapP w b n f) : g ≠ b := by
  rintro rfl
  obtain ⟨D, ⟨es, clock, hb, _⟩, _⟩ := hm
  unfold Bk at h
  rw [h] at hb
  cases hb
/-- the texts of a list, as cells -/
abbrev bV (x : ByteArray) : Value := .string x
/-- v is a slice of texts that reads as d -/
def TS (w : World) (v : Value) (d : List ByteArray) : Prop :=
  (∃ A cap, v = .slice A 0 cap ∧ d = []) ∨
  ∃ h off cap, v = .slice (some ⟨h, off, none⟩) d.length cap ∧ d.length ≤ cap ∧ ∀ (i : Nat) (x : ByteArray), d[i]? = some x → w.cell? ⟨h, off + i, none⟩ = some (.string x)
theorem TS.keep {w w' : World} {v : Value} {d : List ByteArray} (h : TS w v d) (hk : ∀ p : Addr, (w.cell? p).isSome = true → w'.cell? p = w.cell? p) : TS w' v d := by
  rcases h with h | ⟨h, off, cap, e, hc, hm⟩
  · exact .inl h
  · exact .inr ⟨h, off, cap, e, hc, fun i x hi => (hk _ (by rw [hm i x hi]; rfl)).trans (hm i x hi)⟩
theorem TS.below {w w' : World} {v : Value} {d : List ByteArray} (h : TS w v d) (hb : Below w.heap.size w w') : TS w' v d :=
  h.keep fun p hp => by
    obtain ⟨u, hu⟩ := Option.isSome_iff_exists.1 hp
    exact hb.cell (World.block_lt_of_cell? w p hu)
theorem TS.form {w : World} {v : Value} {d : List ByteArray} (h : TS w v d) : ∃ a cap, v = .slice a d.length cap := by
  rcases h with ⟨A, cap, rfl, rfl⟩ | ⟨h, off, cap, rfl, _⟩
  · exact ⟨_, _, rfl⟩
  · exact ⟨_, _, rfl⟩
theorem TS.inv {w : World} {v : Value} {d : List ByteArray} (h : TS w v d) (hp : 0 < d.length) : ∃ g off cap, v = .slice (some ⟨g, off, none⟩) d.length cap ∧ d.length ≤ cap ∧ ∀ (i : Nat) (x : ByteArray), d[i]? = some x → w.cell? ⟨g, off + i, none⟩ = some (.string x) := by
  rcases h with ⟨A, cap, rfl, rfl⟩ | h
  · simp at hp
  · exact h
/-- the call owns the texts -/
def OT (B : Nat) (w : World) (v : Value) (d : List ByteArray) : Prop := w.ownsRow B 9 1 v d.length (d.map bV)
theorem OT.ts {B : Nat} {w : World} {v : Value} {d : List ByteArray} (h : OT B w v d) : TS w v d := by
  rcases h.2 with ⟨rfl, hz⟩ | ⟨g, cap, cur, rfl, hb, hh, hc, hm, hs, ht⟩
  · exact .inl ⟨none, 0, rfl, List.eq_nil_of_length_eq_zero hz⟩
  · refine .inr ⟨g, 0, cap, rfl, hc, fun i x hi => ?_⟩
    have := World.ownsRow.cells h (g := g) rfl i (.string x) (by rw [List.getElem?_map, hi]; rfl)
    rw [Addr.add_lit, Nat.zero_add] at this
    rw [Nat.zero_add]; exact this
theorem OT.keep {B : Nat} {w w' : World} {v : Value} {d : List ByteArray} (h : OT B w v d) (hk : ∀ g, v.ownBlock = some g → w'.heap[g]? = w.heap[g]?) : OT B w' v d := by
  refine ⟨h.1, ?_⟩
  rcases h.2 with h2 | ⟨g, cap, cur, rfl, hb, hg, hr⟩
  · exact .inl h2
  · exact .inr ⟨g, cap, cur, rfl, hb, (hk g rfl).trans hg, hr⟩
theorem OT.nil (B : Nat) (w : World) : OT B w (.slice none 0 0) [] := World.ownsRow_nil _ _ _ _
theorem bool_not (b : Bool) : (!b) = true ↔ b = false := by cases b <;> simp
theorem tl_dec (a b : ByteArray) : (a.toList == b.toList) = decide (a = b) := by
  rw [Bool.eq_iff_iff, beq_iff_eq, decide_eq_true_iff]
  constructor
  · intro h
    rw [Lib.toList_data, Lib.toList_data] at h
    cases a; cases b
    simp only at h
    rw [Array.ext' h]
  · rintro rfl; rfl
end Go.Proofs.YtpnjjllkbnmakaaDoor.SL
