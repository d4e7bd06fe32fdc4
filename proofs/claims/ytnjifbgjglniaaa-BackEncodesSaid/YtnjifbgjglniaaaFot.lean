/- Words for memory at layer 3: what is being read, with its rows. -/
import Derived.Test.YtnjifbgjglniaaaFow
import Derived.Deep.AppendLies
namespace Go.Proofs.Ytnjifbgjglniaaa
open Go.ChangeShapes Go.WideShapes Go.ChangeAt Go.RowKit
set_option linter.unusedVariables false

/-- the rows of an ask: the slice, its elements' type, its elements -/
def rowsOf (a : Ask) (kv vv av nv fv : Value) : List (Value × TypeId × List Value) :=
  [(kv, 9, strs a.keys), (vv, 9, strs a.vals), (av, 9, strs a.args), (nv, 4, bools a.null), (fv, 3, ints a.formats)]
def Apart (u v : Value) : Prop := ∀ k, u.ownBlock = some k → v.ownBlock ≠ some k
structure Rows (lo : Nat) (L : List (Value × TypeId × List Value)) (w : World) : Prop where
  own : ∀ (i : Nat) r, L[i]? = some r → w.ownsRow lo r.2.1 1 r.1 r.2.2.length r.2.2
  apart : ∀ (i j : Nat) r r', L[i]? = some r → L[j]? = some r' → i ≠ j → Apart r.1 r'.1
theorem Rows.keeps {lo : Nat} {L : List (Value × TypeId × List Value)} {w w' : World} {S : List Nat} (h : Rows lo L w) (k : Keeps S w w') (hS : ∀ i ∈ S, i < lo) : Rows lo L w' := by
  refine ⟨fun i r hr => ?_, h.apart⟩
  have ho := h.own i r hr
  refine ⟨ho.1, ?_⟩
  rcases ho.2 with hn | ⟨g, cap, cur, e, hb, hh, rest⟩
  · exact .inl hn
  · refine .inr ⟨g, cap, cur, e, hb, (k.block g (Array.getElem?_eq_some_iff.1 hh).1 (fun hm => ?_)).trans hh, rest⟩
    have := hS g hm; omega
/-- one row is appended to -/
theorem Rows.push {lo : Nat} {L : List (Value × TypeId × List Value)} {w w' : World} (h : Rows lo L w) (i : Nat) (v : Value) (T : TypeId) (xs : List Value) (hi : L[i]? = some (v, T, xs)) (v' : Value) (x : Value)
    (hw : w'.ownsRow lo T 1 v' (xs.length + 1) (xs ++ [x])) (hg : w.grownBy w' v.ownBlock) (hv : ∀ k, v'.ownBlock = some k → v.ownBlock = some k ∨ w.heap.size ≤ k) : Rows lo (L.set i (v', T, xs ++ [x])) w' := by
  have hlt : i < L.length := (List.getElem?_eq_some_iff.1 hi).1
  constructor
  · intro j r hr
    rw [List.getElem?_set] at hr
    by_cases e : i = j
    · subst e
      rw [if_pos rfl, if_pos hlt] at hr
      injection hr with hr
      subst hr
      show w'.ownsRow lo T 1 v' (xs ++ [x]).length (xs ++ [x])
      rw [List.length_append]; exact hw
    · rw [if_neg e] at hr
      refine (h.own j r hr).kept hg ?_
      cases hb : r.1.ownBlock with
      | none => exact .inl rfl
      | some k => exact .inr (fun e2 => h.apart j i r _ hr hi (fun e3 => e e3.symm) k hb e2.symm)
  · intro j j' r r' hr hr' hne
    rw [List.getElem?_set] at hr hr'
    by_cases e : i = j
    · subst e
      rw [if_pos rfl, if_pos hlt] at hr
      injection hr with hr
      subst hr
      rw [if_neg hne] at hr'
      intro k hk hk'
      rcases hv k hk with h1 | h1
      · exact h.apart i j' _ _ hi hr' hne k h1 hk'
      · have := (World.ownsRow.lt (h.own j' r' hr') k hk').2; omega
    · rw [if_neg e] at hr
      by_cases e' : i = j'
      · subst e'
        rw [if_pos rfl, if_pos hlt] at hr'
        injection hr' with hr'
        subst hr'
        intro k hk hk'
        rcases hv k hk' with h1 | h1
        · exact h.apart j i _ _ hr hi hne k hk h1
        · have := (World.ownsRow.lt (h.own j r hr) k hk).2; omega
      · rw [if_neg e'] at hr'
        exact h.apart j j' _ _ hr hr' hne

section
variable {R A : Nat} {s : ByteArray} {w0 w w' : World} {a : Ask} {l l' : Tx} {x x' : Bool} {kv vv av nv fv : Value}
end
end Go.Proofs.Ytnjifbgjglniaaa
