/- Package expiry's map of entries; what a queue is. Conditions: how long keys are. -/
import Derived.Test.YtfilmbeoggmglaaExk
namespace Go.Proofs.Ytfilmbeoggmglaa.EX
open Go.ChangeShapes Go.WideShapes Go.ChangeAt Go.RowKit Go.Maps Go.ChangeMaps
open Go.Proofs.Ytfilmbeoggmglaa.SL Go.Proofs.Ytfilmbeoggmglaa.RW
set_option maxRecDepth 100000
set_option linter.unusedVariables false
set_option linter.unusedSimpArgs false

def entE : Value → Option (DataW Unit × List MemPlace)
  | .agg cs => match cs.toList with
    | [.string k, .int .i64 a, .int .i64 s] => some (.agg [.lit (.string k.data.toList), .lit (.int .i64 a), .lit (.int .i64 s)], [])
    | _ => none
  | _ => none
def zE : Et := (ByteArray.empty, 0, 0)
def eD1 (e : Et) : DataW Unit := .agg [.lit (.string e.1.data.toList), .lit (.int .i64 e.2.1), .lit (.int .i64 e.2.2)]
def eD (o : Option Et) : DataW Unit := eD1 (o.getD zE)
theorem entE_mk (e : Et) : entE (eV e) = some (eD1 e, []) := rfl
theorem entE_inv {v : Value} {e : Et} {ps : List MemPlace} (h : entE v = some (eD1 e, ps)) : v = eV e := by
  unfold entE at h
  split at h
  · rename_i cs
    split at h
    · rename_i k a s hcs
      simp only [eD1, Option.some.injEq, Prod.mk.injEq, DataW.agg.injEq, List.cons.injEq, DataW.lit.injEq, Lit.string.injEq, Lit.int.injEq, true_and, and_true] at h
      obtain ⟨⟨h1, h2, h3⟩, _⟩ := h
      obtain ⟨ek, ea, es⟩ := e
      simp only at h1 h2 h3
      subst h2 h3
      have hk : k = ek := by
        obtain ⟨⟨kd⟩⟩ := k
        obtain ⟨⟨ed⟩⟩ := ek
        simp only at h1
        rw [h1]
      subst hk
      obtain ⟨cl⟩ := cs
      simp only at hcs
      rw [hcs]
    · cases h
  · cases h
/-- the block is a map from texts to entries, of at most n entries, of just s -/
def MapF (w : World) (b n : Nat) (f : ByteArray → Option Et) (s : Nat) : Prop :=
  ∃ D, w.ownsMap Try.prog 9 entE b n D ∧ (∀ k : ByteArray, D.atKey (.string k.data.toList) (eD none) = eD (f k)) ∧ (∀ k : ByteArray, Maps.has D (.string k.data.toList) = (f k).isSome) ∧ Maps.size D = s
theorem MapF.lt {w : World} {b n s : Nat} {f : ByteArray → Option Et} (h : MapF w b n f s) : b < w.heap.size := by
  obtain ⟨D, h, _⟩ := h; exact h.lt
theorem MapF.made (w : World) : MapF (w.alloc (.map #[] 0)) w.heap.size 0 (fun _ => none) 0 := ⟨.map [], World.ownsMap_made _ _ _ _, fun k => rfl, fun k => rfl, rfl⟩
theorem MapF.keep {w w' : World} {b n s : Nat} {f : ByteArray → Option Et} (h : MapF w b n f s) (e : w'.heap[b]? = w.heap[b]?) : MapF w' b n f s := by
  obtain ⟨D, ⟨es, clock, hb, r⟩, hf⟩ := h
  exact ⟨D, ⟨es, clock, e.trans hb, r⟩, hf⟩
theorem MapF.below {w w' : World} {b n s : Nat} {f : ByteArray → Option Et} (h : MapF w b n f s) (hb : Below w.heap.size w w') : MapF w' b n f s := h.keep (hb.block b h.lt)
theorem key_ne {x k : ByteArray} (h : x ≠ k) : Lit.string x.data.toList ≠ Lit.string k.data.toList := lit_ne h
theorem MapF.putD {w w' : World} {b n m s : Nat} {f : ByteArray → Option Et} {D : DataW Unit} (h : w.ownsMap Try.prog 9 entE b n D) (h1 : ∀ k : ByteArray, D.atKey (.string k.data.toList) (eD none) = eD (f k)) (h2 : ∀ k : ByteArray, Maps.has D (.string k.data.toList) = (f k).isSome) (h3 : Maps.size D = s) {k : ByteArray} (hk : f k = none) {e : Et}
    (h' : w'.ownsMap Try.prog 9 entE b m (D.put (.string k.data.toList) (eD1 e))) : MapF w' b m (fun x => if x = k then some e else f x) (s + 1) := by
  refine ⟨_, h', fun x => ?_, fun x => ?_, ?_⟩
  · show _ = eD (if x = k then some e else f x)
    by_cases hx : x = k
    · subst hx; rw [if_pos rfl]; exact atKey_put_same (h.isMap) (show WideAt.IsKeyLit (Lit.string _) from trivial) _ _
    · rw [if_neg hx, atKey_put_other (key_ne hx)]; exact h1 x
  · show _ = (if x = k then some e else f x).isSome
    by_cases hx : x = k
    · subst hx; rw [if_pos rfl]; exact has_put_same h.isMap (show WideAt.IsKeyLit (Lit.string _) from trivial) _
    · rw [if_neg hx, has_put_other (key_ne hx)]; exact h2 x
  · rw [size_put (h.tidy strK), h2 k, hk, if_neg (by simp), h3]
theorem MapF.delD {w w' : World} {b n s : Nat} {f : ByteArray → Option Et} {D : DataW Unit} (h : w.ownsMap Try.prog 9 entE b n D) (h1 : ∀ k : ByteArray, D.atKey (.string k.data.toList) (eD none) = eD (f k)) (h2 : ∀ k : ByteArray, Maps.has D (.string k.data.toList) = (f k).isSome) (h3 : Maps.size D = s + 1) {k : ByteArray} (hk : (f k).isSome = true)
    (h' : w'.ownsMap Try.prog 9 entE b n (D.del (.string k.data.toList))) : MapF w' b n (fun x => if x = k then none else f x) s := by
  refine ⟨_, h', fun x => ?_, fun x => ?_, ?_⟩
  · show _ = eD (if x = k then none else f x)
    by_cases hx : x = k
    · subst hx; rw [if_pos rfl]; exact atKey_del_same _
    · rw [if_neg hx, atKey_del_other (key_ne hx)]; exact h1 x
  · show _ = (if x = k then none else f x).isSome
    by_cases hx : x = k
    · subst hx; rw [if_pos rfl]; exact has_del_same
    · rw [if_neg hx, has_del_other (key_ne hx)]; exact h2 x
  · have := size_del (k := .string k.data.toList) (h.tidy strK)
    rw [h2 k, hk, if_pos rfl, h3] at this
    omega
/-- 'e, ok := m[k]' -/
theorem MapF.look {w : World} {b n s : Nat} {f : ByteArray → Option Et} (h : MapF w b n f s) (k : ByteArray) (hk : k.size ≤ 281474976710656) :
    (Instr.lookup 69 (.map (some b)) (.string k) true).run Try.prog w = .ok (.tuple #[eV ((f k).getD zE), .bool (f k).isSome]) w := by
  obtain ⟨D, hm, h1, h2, _⟩ := h
  have hz : (zeroValue 101).run Try.prog w = .ok (eV zE) w := by
    obtain ⟨i, hi, hz, _, _⟩ := iEnt
    simp [zeroValue, typeInfo, hi, hz]; exact ⟨rfl, rfl, rfl⟩
  obtain ⟨v, ps, hr, hv⟩ := hm.look_ok strK Try.underlying69 hz (zd := eD none) (zp := []) (entE_mk zE) (keyB k hk)
  rw [h1 k] at hv
  rw [hr, h2 k, entE_inv (e := (f k).getD zE) hv]
theorem MapF.len {w : World} {b n s : Nat} {f : ByteArray → Option Et} (h : MapF w b n f s) (ty : TypeId) : (Builtin.len_ #[69] ty #[.map (some b)]).run Try.prog w = .ok (.int .i64 (s : Int)) w := by
  obtain ⟨D, hm, _, _, h3⟩ := h
  have := hm.len Try.underlying69 ty
  rw [h3] at this
  exact this
theorem bk_nomapF {w : World} {g b n s : Nat} {t : TypeId} {cs : Array Value} {f : ByteArray → Option Et} (h : Bk w g t cs) (hm : MapF w b n f s) : g ≠ b := by
  rintro rfl
  obtain ⟨D, ⟨es, clock, hb, _⟩, _⟩ := hm
  unfold Bk at h
  rw [h] at hb
  cases hb
def fnd (k : ByteArray) (L : List Et) : Option Et := L.find? fun e => decide (e.1 = k)
theorem fnd_app (k : ByteArray) (A C : List Et) : fnd k (A ++ C) = (fnd k A).or (fnd k C) := List.find?_append
theorem fnd_none {k : ByteArray} {L : List Et} : fnd k L = none ↔ ∀ e ∈ L, e.1 ≠ k := by unfold fnd; rw [List.find?_eq_none]; simp
theorem fnd_mem {k : ByteArray} {L : List Et} {e : Et} (h : fnd k L = some e) : e ∈ L ∧ e.1 = k := ⟨List.mem_of_find?_eq_some h, by simpa using List.find?_some h⟩
theorem fnd_drop (k y : ByteArray) (L : List Et) : fnd y (dropL k L) = if y = k then none else fnd y L := by
  by_cases h : y = k
  · subst h
    rw [if_pos rfl, fnd_none]
    intro e he
    exact of_decide_eq_true (List.mem_filter.1 he).2
  · rw [if_neg h]
    unfold fnd dropL
    rw [List.find?_filter]
    congr 1
    funext e
    by_cases he : e.1 = y
    · have : e.1 ≠ k := fun e2 => h (he.symm.trans e2)
      simp [he, h]
    · simp [he]
theorem fnd_set {n : Int} {L : List Et} (h : Srt n L) (k y : ByteArray) (t m : Int) : fnd y (setL k t m L) = if y = k then some (k, t, m) else fnd y L := by
  have hd := h.drop k
  unfold setL
  rw [fnd_app]
  by_cases hy : y = k
  · subst hy
    rw [if_pos rfl]
    have : fnd y (leL t (dropL y L)) = none := fnd_none.2 fun e he => of_decide_eq_true (List.mem_filter.1 (List.mem_filter.1 he).1).2
    rw [this]
    unfold fnd
    rw [List.find?_cons_of_pos (by simp)]
    rfl
  · rw [if_neg hy]
    have e1 : fnd y ((k, t, m) :: gtL t (dropL k L)) = fnd y (gtL t (dropL k L)) := by
      unfold fnd
      rw [List.find?_cons_of_neg (by simp; exact fun e => hy e.symm)]
    rw [e1, ← fnd_app, ← hd.split t, fnd_drop, if_neg hy]
/-- a queue's blocks and entries -/
structure Qx where
  m : Nat
  ob : Nat
  a : Option Addr
  c : Nat
  L : List Et
def Qx.v (x : Qx) : Value := .slice x.a x.L.length x.c
abbrev qC (g n : Nat) (x : Qx) : Array Value := #[ptr g, .int .i64 (n : Int), .map (some x.m), .slice (some ⟨x.ob, 0, none⟩) 1 1]
def Qx.own (x : Qx) (g b : Nat) : Prop := b = g ∨ b = x.m ∨ b = x.ob ∨ x.v.ownBlock = some b
structure QT (B : Nat) (w : World) (g n : Nat) (x : Qx) : Prop where
  bk : Bk w g 73 (qC g n x)
  ko : Bk w x.ob 108 #[x.v]
  eq : EQ B w x.v x.L
  mp : MapF w x.m n (fun k => fnd k x.L) x.L.length
  sr : Srt (n : Int) x.L
  le : x.L.length ≤ n
  bs : B ≤ g ∧ B ≤ x.m ∧ B ≤ x.ob
section
variable {B : Nat} {w w' : World} {g n : Nat} {x : Qx}
theorem QT.keep (h : QT B w g n x) (hk : ∀ b, x.own g b → w'.heap[b]? = w.heap[b]?) : QT B w' g n x :=
  ⟨h.bk.heap (hk g (.inl rfl)), h.ko.heap (hk _ (.inr (.inr (.inl rfl)))), h.eq.keep fun q hq => hk q (.inr (.inr (.inr hq))), h.mp.keep (hk _ (.inr (.inl rfl))), h.sr, h.le, h.bs⟩
theorem QT.lt (h : QT B w g n x) {b : Nat} (hb : x.own g b) : b < w.heap.size := by
  rcases hb with rfl | rfl | rfl | hb
  · exact h.bk.lt
  · exact h.mp.lt
  · exact h.ko.lt
  · exact (h.eq.lt b hb).2
theorem QT.ge (h : QT B w g n x) {b : Nat} (hb : x.own g b) : B ≤ b := by
  rcases hb with rfl | rfl | rfl | hb
  · exact h.bs.1
  · exact h.bs.2.1
  · exact h.bs.2.2
  · exact (h.eq.lt b hb).1
theorem QT.below (h : QT B w g n x) (hb : Below w.heap.size w w') : QT B w' g n x := h.keep fun b ho => hb.block b (h.lt ho)
theorem QT.chg {S : Nat → Prop} (h : QT B w g n x) (hc : Chg S w w') (hs : ∀ b, x.own g b → ¬ S b) : QT B w' g n x := h.keep fun b ho => hc.block b (h.lt ho) (hs b ho)
theorem QT.cells (h : QT B w g n x) : w.cell? ⟨g, 0, none⟩ = some (ptr g) ∧ w.cell? ⟨g, 1, none⟩ = some (.int .i64 (n : Int)) ∧ w.cell? ⟨g, 2, none⟩ = some (.map (some x.m)) ∧ w.cell? ⟨g, 3, none⟩ = some (.slice (some ⟨x.ob, 0, none⟩) 1 1) ∧ w.cell? ⟨x.ob, 0, none⟩ = some x.v :=
  ⟨h.bk.cell 0, h.bk.cell 1, h.bk.cell 2, h.bk.cell 3, h.ko.cell 0⟩
end
end Go.Proofs.Ytfilmbeoggmglaa.EX
