/- Words for memory at layer 20: lists in rows, one cell of a block, a row that is laid anew. -/
import Derived.Test.YtnjifbgjglniaaaFot
import Derived.Deep.AppendLies
import Derived.Deep.MidRow
import Derived.Deep.RegionHeld3
import Derived.Deep.DrawnRows
import Derived.Deep.RegionLaw
import Derived.Test.YtnjifbgjglniaaaBka
namespace Go.Proofs.Ytnjifbgjglniaaa
open Go.ChangeShapes Go.WideShapes Go.ChangeAt Go.RowKit
set_option linter.unusedVariables false
theorem infoS : (Try.prog.info? 9).map (fun i => (i.zero, i.size, i.bytes)) = some (some (.string ⟨#[]⟩), 1, 16) := by kernel_rfl
theorem infoB : (Try.prog.info? 4).map (fun i => (i.zero, i.size, i.bytes)) = some (some (.bool false), 1, 1) := by kernel_rfl
theorem strs_snoc (l : List Tx) (t : Tx) : strs l ++ [.string (ba t)] = strs (l ++ [t]) := by simp [strs]
theorem bools_snoc (l : List Bool) (t : Bool) : bools l ++ [.bool t] = bools (l ++ [t]) := by simp [bools]
theorem strs_len (l : List Tx) : (strs l).length = l.length := by simp [strs]
theorem bools_len (l : List Bool) : (bools l).length = l.length := by simp [bools]
theorem one_cell (B : Nat) (w : World) (t : TypeId) (v : Value) (hb : Blk w B t #[v]) : ∀ j u, [v][j]? = some u → w.cell? ((⟨B, 0, none⟩ : Addr).add j) = some u := by
  intro j u hj
  rw [Addr.add_lit, hb.cell]
  simpa using hj
theorem LR.get {P : Nat → Prop} {w : World} {v : Value} {xs : List Value} (h : LR P w v xs) (hn : xs ≠ []) : ∃ p off cap, v = .slice (some ⟨p, off, none⟩) xs.length cap ∧ xs.length ≤ cap ∧ cap ≤ maxLen ∧ P p ∧ ∀ (j : Nat) (x : Value), xs[j]? = some x → w.cell? ⟨p, off + j, none⟩ = some x := by
  obtain ⟨A, cap, e, h1, h2, h3⟩ := h
  obtain ⟨p, off, e2, hp, hc⟩ := h3 hn
  exact ⟨p, off, cap, by rw [e, e2], h1, h2, hp, hc⟩
theorem LR.addr {P : Nat → Prop} {w : World} {A : Option Addr} {n cap : Nat} {xs : List Value} (h : LR P w (.slice A n cap) xs) (hn : xs ≠ []) : ∃ p off, A = some ⟨p, off, none⟩ ∧ P p ∧ ∀ (j : Nat) (x : Value), xs[j]? = some x → w.cell? ⟨p, off + j, none⟩ = some x := by
  obtain ⟨p, off, cap', e, _, _, hp, hc⟩ := h.get hn
  injection e with e _ _
  exact ⟨p, off, e, hp, hc⟩
theorem ne_strs {l : List Tx} {k : Nat} (h : k < l.length) : strs l ≠ [] := by intro e; have := congrArg List.length e; rw [strs_len] at this; simp at this; rw [this] at h; simp at h
theorem ne_bools {l : List Bool} {k : Nat} (h : k < l.length) : bools l ≠ [] := by intro e; have := congrArg List.length e; rw [bools_len] at this; simp at this; rw [this] at h; simp at h
theorem strs_get (l : List Tx) (k : Nat) (h : k < l.length) : (strs l)[k]? = some (.string (ba l[k])) := by simp [strs, h]
theorem bools_get (l : List Bool) (k : Nat) (h : k < l.length) : (bools l)[k]? = some (.bool l[k]) := by simp [bools, h]
theorem Blk.drew_ {w : World} {g : Nat} {t : TypeId} {cs : Array Value} (h : Blk w g t cs) : Blk w.drew g t cs := h
theorem Blk.sets {g : Nat} {t : TypeId} (vs : List Value) : ∀ (o : Nat) (w : World) (cs : Array Value), Blk w g t cs → o + vs.length ≤ cs.size →
    ∃ cs' : Array Value, Blk (w.setCells g o vs) g t cs' ∧ cs'.size = cs.size ∧ ∀ i, cs'[i]? = if o ≤ i ∧ i < o + vs.length then vs[i - o]? else cs[i]? := by
  induction vs with
  | nil => intro o w cs h hl; exact ⟨cs, h, rfl, fun i => by rw [if_neg (by simp only [List.length_nil]; omega)]⟩
  | cons v vs ih =>
    intro o w cs h hl
    simp only [List.length_cons] at hl
    obtain ⟨cs', h1, h2, h3⟩ := ih (o + 1) (w.setCell ⟨g, o, none⟩ v) (cs.setIfInBounds o v) (h.set_ o v) (by simp; omega)
    refine ⟨cs', h1, by rw [h2]; simp, fun i => ?_⟩
    rw [h3 i]
    simp only [List.length_cons]
    by_cases e : o = i
    · subst e
      rw [if_neg (by omega), if_pos (by omega), Nat.sub_self]
      rw [Array.getElem?_setIfInBounds_self, if_pos (by omega)]; rfl
    · rw [Array.getElem?_setIfInBounds_ne e]
      by_cases h : o + 1 ≤ i ∧ i < o + 1 + vs.length
      · rw [if_pos h, if_pos (by omega), show i - o = i - (o + 1) + 1 by omega, List.getElem?_cons_succ]
      · rw [if_neg h, if_neg (by omega)]
theorem Blk.store {g : Nat} {t : TypeId} {w : World} {cs : Array Value} (h : Blk w g t cs) (new : Array Value) (hn : new.size = cs.size) : Blk (w.setCells g 0 new.toList) g t new := by
  obtain ⟨cs', h1, h2, h3⟩ := Blk.sets new.toList 0 w cs h (by simp; omega)
  have e : cs' = new := by
    apply Array.ext_getElem?
    intro i
    rw [h3 i]
    by_cases h : 0 ≤ i ∧ i < 0 + new.toList.length
    · rw [if_pos h]; simp
    · rw [if_neg h]
      have : new.size ≤ i := by simp at h; omega
      rw [Array.getElem?_eq_none this, Array.getElem?_eq_none (by omega)]
  rw [e] at h1; exact h1
theorem Blk.there {g : Nat} {t : TypeId} {w : World} {cs : Array Value} (h : Blk w g t cs) (n : Nat) (hn : n ≤ cs.size) : w.there g 0 n := by
  intro j hj
  refine ⟨?_, h.frozen _⟩
  rw [h.cell, Nat.zero_add]
  have : j < cs.size := by omega
  simp [this]
theorem Keeps.sets {S : List Nat} {w : World} (g : Nat) (hg : g ∈ S ∨ w.heap.size ≤ g) (vs : List Value) : ∀ (o : Nat) (a : World), Keeps S w a → Keeps S w (a.setCells g o vs) := by
  induction vs with
  | nil => intro o a h; exact h
  | cons v vs ih => intro o a h; exact ih (o + 1) _ (h.set g o v hg)
theorem LR.one {P : Nat → Prop} {w : World} {v : Value} {xs : List Value} (h : LR P w v xs) : v.oneCell' = true := by
  obtain ⟨A, cap, rfl, _⟩ := h; rfl
theorem u8_beq (x y : UInt8) : ((x.toNat : Int) == (y.toNat : Int)) = decide (x = y) := by
  rw [Bool.eq_iff_iff]
  simp [← UInt8.toNat_inj]
  omega
theorem ba_beq (x y : Tx) : ((ba x).toList == (ba y).toList) = decide (x = y) := by
  rw [Lib.toList_data, Lib.toList_data, ba_list, ba_list, Bool.eq_iff_iff]; simp
theorem int_beq (x y : Int) : (x == y) = decide (x = y) := by rw [Bool.eq_iff_iff]; simp
theorem bool_beq (x y : Bool) : (x == y) = decide (x = y) := by rw [Bool.eq_iff_iff]; simp
/-- one row is laid anew -/
theorem Rows.lay {lo : Nat} {L : List (Value × TypeId × List Value)} {w w' : World} (h : Rows lo L w) (i : Nat) (v : Value) (T : TypeId) (xs ys : List Value) (hi : L[i]? = some (v, T, xs)) (v' : Value)
    (hw : w'.ownsRow lo T 1 v' ys.length ys) (hk : Keeps [] w w') (hv : ∀ k, v'.ownBlock = some k → w.heap.size ≤ k) : Rows lo (L.set i (v', T, ys)) w' := by
  have h' : Rows lo L w' := h.keeps hk (by simp)
  have hlt : i < L.length := (List.getElem?_eq_some_iff.1 hi).1
  constructor
  · intro j r hr
    rw [List.getElem?_set] at hr
    by_cases e : i = j
    · subst e
      rw [if_pos rfl, if_pos hlt] at hr
      injection hr with hr
      subst hr
      exact hw
    · rw [if_neg e] at hr
      exact h'.own j r hr
  · intro j j' r r' hr hr' hne
    rw [List.getElem?_set] at hr hr'
    by_cases e : i = j
    · subst e
      rw [if_pos rfl, if_pos hlt] at hr
      injection hr with hr
      subst hr
      rw [if_neg hne] at hr'
      intro k hk1 hk2
      have := (World.ownsRow.lt (h.own j' r' hr') k hk2).2
      have := hv k hk1
      omega
    · rw [if_neg e] at hr
      by_cases e' : i = j'
      · subst e'
        rw [if_pos rfl, if_pos hlt] at hr'
        injection hr' with hr'
        subst hr'
        intro k hk1 hk2
        have := (World.ownsRow.lt (h.own j r hr) k hk1).2
        have := hv k hk2
        omega
      · rw [if_neg e'] at hr'
        exact h.apart j j' _ _ hr hr' hne
theorem own_new (w : World) (lo : Nat) (T : TypeId) (cs : List Value) (hlo : lo ≤ w.heap.size) (hm : cs.length ≤ maxLen) : (w.alloc (.cells cs.toArray T)).ownsRow lo T 1 (.slice (some ⟨w.heap.size, 0, none⟩) cs.length cs.length) cs.length cs := by
  refine ⟨by simp, .inr ⟨w.heap.size, cs.length, cs.toArray, rfl, hlo, heap_alloc_new w _, Nat.le_refl _, hm, by simp, by simp⟩⟩
end Go.Proofs.Ytnjifbgjglniaaa
