/- Package flight: New, given, find, sits; a board that is not there. Conditions: how long keys are. -/
import Derived.Test.YtldpamlmnganmaaFlc
import Derived.Test.YtldpamlmnganmaaShelf
import Derived.Deep.RegionHeld3
import Derived.Deep.CutBlock
import Derived.Deep.QuietTactic
import Derived.BigQuiet
namespace Go.Proofs.Ytldpamlmnganmaa.FL
open Go.ChangeShapes Go.WideShapes Go.ChangeAt Go.RowKit Go.Maps Go.ChangeMaps
open Go.Proofs.Ytldpamlmnganmaa.SL
set_option maxRecDepth 100000
set_option linter.unusedVariables false
set_option linter.unusedSimpArgs false

theorem pu1 {α : Type _} {xs : List α} {i : Nat} (h : i < xs.toArray.size) : xs.toArray[i] = xs[i]'(by simpa using h) := by simp
theorem pu2 {α : Type _} (a : α) (l : List α) (i : Nat) (h : i + 1 < (a :: l).length) : (a :: l)[i + 1] = l[i]'(by simpa using h) := rfl
theorem pu3 {α : Type _} (a : α) (l : List α) : (a :: l)[0]'(by simp) = a := rfl
theorem pu4 {α : Type _} (l : List α) (i : Nat) (a : α) : l.toArray.setIfInBounds i a = (l.set i a).toArray := by simp
theorem pu5 {α : Type _} (a b : α) (l : List α) : (a :: l).set 0 b = b :: l := rfl
theorem pu6 {α : Type _} (a b : α) (l : List α) (n : Nat) : (a :: l).set (n + 1) b = a :: l.set n b := rfl
theorem pu.{u} : (∀ (α : Type u) (xs : List α) (i : Nat) (h : i < xs.toArray.size), xs.toArray[i] = xs[i]'(by simpa using h)) ∧ (∀ (α : Type u) (a : α) (l : List α) (i : Nat) (h : i + 1 < (a :: l).length), (a :: l)[i + 1] = l[i]'(by simpa using h)) ∧ (∀ (α : Type u) (a : α) (l : List α), (a :: l)[0]'(by simp) = a) ∧ (∀ (α : Type u) (l : List α) (i : Nat) (a : α), l.toArray.setIfInBounds i a = (l.set i a).toArray) ∧ (∀ (α : Type u) (a b : α) (l : List α), (a :: l).set 0 b = b :: l) ∧ (∀ (α : Type u) (a b : α) (l : List α) (n : Nat), (a :: l).set (n + 1) b = a :: l.set n b) := ⟨fun _ _ _ h => pu1 h, fun _ a l i h => pu2 a l i h, fun _ a l => pu3 a l, fun _ l i a => pu4 l i a, fun _ a b l => pu5 a b l, fun _ a b l n => pu6 a b l n⟩
section
variable {P : Program} {ops : Array Oper} {Q : Exit → Act → World → Prop} {md : Region.Mode} {S : World → Prop} {fuel : Nat} {listed : Array Bool} {a : Act} {w : World}
theorem tkY (i : Nat) (v : Value) {oi : Oper} (hi : ops[i]? = some oi) (hS : S w) (hy : ∀ w, S w → (execOp a.eval oi).run P w = .ok (.value v) w) (h : wpAnyH P md ops Q S fuel (listed.setIfInBounds i true) (a.put oi.dst v) w)
    (hs : Region.noSelect ops = true := by kernel_rfl) (hf : Region.free md ops listed i = true := by kernel_rfl) (hr : (Region.ready md ops listed).contains i = true := by kernel_rfl) (hw : Region.wanted oi (yielded ops a.tmps) = true := by kernel_rfl)
    (hQ : ∀ c a w, Q (.panic c) (a.put oi.dst v) w → Q (.panic c) a w := by exact fun _ _ _ h => h) : wpAnyH P md ops Q S (fuel + 1) listed a w := wpAnyH_take hi hs hf hr hQ (.inl ⟨hw, hy⟩) hS h
theorem tkN (i : Nat) {oi : Oper} (hi : ops[i]? = some oi) (hS : S w) (h : wpAnyH P md ops Q S fuel (listed.setIfInBounds i true) (a.put oi.dst undef) w)
    (hs : Region.noSelect ops = true := by kernel_rfl) (hf : Region.free md ops listed i = true := by kernel_rfl) (hr : (Region.ready md ops listed).contains i = true := by kernel_rfl) (hw : Region.wanted oi (yielded ops a.tmps) = false := by kernel_rfl)
    (hQ : ∀ c a w, Q (.panic c) (a.put oi.dst undef) w → Q (.panic c) a w := by exact fun _ _ _ h => h) : wpAnyH P md ops Q S (fuel + 1) listed a w := wpAnyH_take hi hs hf hr hQ (.inr ⟨hw, rfl⟩) hS h
end
theorem clone_any (s : ByteArray) (w : World) (hs : s.size ≤ 281474976710656) :
    Calls Try.prog 36 #[.string s] w fun e w' => e = .returned (.string s) ∧ Below w.heap.size w w' := by
  have c := fun w => Try.stringslite_Clone s w (by omega)
  go_enter Try.func36, Try.ntmps36
  go_wp2_with (go_at_call 39; refine (c _).mono ?_; rintro e w' ⟨rfl, hb⟩)
  go_ret
  exact ⟨rfl, hb⟩
theorem binfo : ∃ j, Try.prog.info? 63 = some j := Option.isSome_iff_exists.1 (by kernel_rfl)
theorem eql_same (w : World) (a : Addr) : (binOp .eql 23 (.pointer (some a)) (.pointer (some a))).run Try.prog w = .ok (.bool true) w := by
  obtain ⟨j, hj⟩ := binfo
  exact run_eql_ptr_same (P := Try.prog) w a Try.underlying23 hj
theorem eql_none (w : World) (a : Addr) : (binOp .eql 23 (.pointer none) (.pointer (some a))).run Try.prog w = .ok (.bool false) w := by
  have h : ∀ d : Nat, (Op.equalIn (d + 1) 23 (.pointer none) (.pointer (some a))).run Try.prog w = .ok false w := fun d => by
    simp [Op.equalIn, run_underlying Try.underlying23]
  simp only [binOp]
  simp [Op.equal, Op.maxDepth, h 9999]
theorem given_yes (w : World) (g : Nat) (h : w.cell? ⟨g, 0, none⟩ = some (ptr g)) :
    Calls Try.prog 25 #[ptr g] w fun e w' => e = .returned (.bool true) ∧ w = w' := by
  have he := fun w => FL.eql_same w ⟨g, 0, none⟩
  go_enter Try.func25, Try.ntmps25
  go_wp2
  go_ret
  exact ⟨rfl, rfl⟩
theorem given_nil (w : World) :
    Calls Try.prog 25 #[.pointer none] w fun e w' => e = .returned (.bool false) ∧ w = w' := by
  go_enter Try.func25, Try.ntmps25
  go_wp2
  go_ret
  exact ⟨rfl, rfl⟩
theorem given_zero (w : World) (g : Nat) (h : w.cell? ⟨g, 0, none⟩ = some (.pointer none)) :
    Calls Try.prog 25 #[ptr g] w fun e w' => e = .returned (.bool false) ∧ w = w' := by
  have he := fun w => FL.eql_none w ⟨g, 0, none⟩
  go_enter Try.func25, Try.ntmps25
  go_wp2
  go_ret
  exact ⟨rfl, rfl⟩
theorem zFl_any (w : World) : (zeroValue 66).run Try.prog w = .ok (.pointer none) w := by
  have h : (Try.prog.info? 66).bind (fun i => i.zero) = some (.pointer none) := by kernel_rfl
  cases hi : Try.prog.info? 66 with
  | none => rw [hi] at h; cases h
  | some j =>
    rw [hi] at h
    simp [zeroValue, typeInfo, hi, show j.zero = some (.pointer none) from h]
theorem zSe_any (w : World) : (zeroValue 68).run Try.prog w = .ok (.agg #[.pointer none, .int .i64 0]) w := by
  have h : (Try.prog.info? 68).bind (fun i => i.zero) = some (.agg #[.pointer none, .int .i64 0]) := by kernel_rfl
  cases hi : Try.prog.info? 68 with
  | none => rw [hi] at h; cases h
  | some j =>
    rw [hi] at h
    simp [zeroValue, typeInfo, hi, show j.zero = some (.agg #[.pointer none, .int .i64 0]) from h]
section
variable {w w' : World} {a N : Nat} {C : Bs} {S : List Fl}
/-- where a flight stands, or nowhere -/
def atF (o : Option Fr) : Value := pV (o.map (·.g))
theorem CB.look (h : CB w a N C S) (k : Ky) (hk : FitK k) :
    (Instr.lookup 60 (.map (some C.fb)) (kyV k) true).run Try.prog w = .ok (.tuple #[atF (C.F k), .bool (C.F k).isSome]) w := by
  have := h.mf.look kK Try.underlying60 (zFl_any w) (keyK k hk)
  rw [this]
  simp only [fV, fK_at _ k hk, Option.isSome_map]
  cases C.F k <;> rfl
def seO (o : Option (Nat × Int)) : Value := .agg #[pV (o.map (·.1)), .int .i64 ((o.map (·.2)).getD 0)]
theorem CB.lookS (h : CB w a N C S) (c : Int) (hc : I9 c) :
    (Instr.lookup 61 (.map (some C.sb)) (.int .i64 c) true).run Try.prog w = .ok (.tuple #[seO (C.Z c), .bool (C.Z c).isSome]) w := by
  have := h.ms.look iK Try.underlying61 (zSe_any w) (keyI c hc)
  rw [this]
  simp only [sV, MV.fI, Option.isSome_map]
  cases C.Z c <;> rfl
theorem CB.cells (h : CB w a N C S) : w.cell? ⟨a, 0, none⟩ = some (ptr a) ∧ w.cell? ⟨a, 1, none⟩ = some (.map (some C.fb)) ∧ w.cell? ⟨a, 2, none⟩ = some (.map (some C.sb)) := ⟨h.bk.cell 0, h.bk.cell 1, h.bk.cell 2⟩
end
def NewP (w : World) (e : Ending) (w' : World) : Prop := ∃ a C, e = .returned (ptr a) ∧ CB w' a 0 C [] ∧ (∀ b, b = a ∨ C.own b → w.heap.size ≤ b) ∧ Below w.heap.size w w'
theorem new_any (w : World) : Calls Try.prog 8 #[] w (NewP w) := by
  have hmm := @run_makeMap Try.prog
  obtain ⟨W1, hW1⟩ : ∃ W, w.alloc (.map #[] 0) = W := ⟨_, rfl⟩
  obtain ⟨W2, hW2⟩ : ∃ W, W1.alloc (.map #[] 0) = W := ⟨_, rfl⟩
  have m1 : MV.MapV Try.prog 30 W1 w.heap.size 0 (fun _ => none) := by rw [← hW1]; exact MV.MapV.made _ _ w
  have m2 : MV.MapV Try.prog 3 W2 W1.heap.size 0 (fun _ => none) := by rw [← hW2]; exact MV.MapV.made _ _ W1
  have b1 : Below w.heap.size w W1 := by rw [← hW1]; exact (Below.refl _ _).alloc (Nat.le_refl _) _
  have b2 : Below W1.heap.size W1 W2 := by rw [← hW2]; exact (Below.refl _ _).alloc (Nat.le_refl _) _
  have s1 : W1.heap.size = w.heap.size + 1 := by rw [← hW1]; simp
  have s2 : W2.heap.size = W1.heap.size + 1 := by rw [← hW2]; simp
  obtain ⟨W3, hW3⟩ : ∃ W, W2.alloc (.cells #[.pointer none, .map (some w.heap.size), .map (some W1.heap.size)] 63) = W := ⟨_, rfl⟩
  have k3 : Bk W3 W2.heap.size 63 #[.pointer none, .map (some w.heap.size), .map (some W1.heap.size)] := by rw [← hW3]; exact Bk.new _ _ _
  have b3 : Below W2.heap.size W2 W3 := by rw [← hW3]; exact (Below.refl _ _).alloc (Nat.le_refl _) _
  obtain ⟨g, hg⟩ : ∃ g, W2.heap.size = g := ⟨_, rfl⟩
  obtain ⟨g1, hg1⟩ : ∃ g, W1.heap.size = g := ⟨_, rfl⟩
  rw [hg] at k3
  rw [hg1] at k3 m2 hW3
  have f0 : W3.frozen? ⟨g, 0, none⟩ = false := k3.frozen 0
  have c0 : W3.cell? ⟨g, 0, none⟩ = some (.pointer none) := k3.cell 0
  have H := Lib.hid (show MV.MapV Try.prog 30 W3 w.heap.size 0 (fun _ => none) ∧ MV.MapV Try.prog 3 W3 g1 0 (fun _ => none) ∧ Below w.heap.size w W3 ∧ w.heap.size < g1 ∧ g1 < g from
    ⟨(m1.below b2).below b3, m2.below b3, (b1.trans (b2.mono b1.size)).trans (b3.mono (Nat.le_trans b1.size b2.size)), by omega, by omega⟩)
  have K3 := Lib.hid k3
  clear m1 m2 b1 b2 s1 s2 k3 b3
  go_enter Try.func8, Try.ntmps8
  go_wp2_with fail
  try rw [hW1]
  try rw [hg1]
  try rw [hW2]
  try rw [hg]
  try rw [hW3]
  clear hW1 hW2 hW3 hg hg1
  go_wp2
  go_ret
  obtain ⟨m1, m2, b3, l1, l2⟩ := H.out
  have k4 := K3.out.set_ 0 (ptr g)
  have b4 : Below w.heap.size w (W3.setCell ⟨g, 0, none⟩ (ptr g)) := b3.setCell (p := ⟨g, 0, none⟩) (by show w.heap.size ≤ g; omega) _
  have e4 : ∀ b, b < g → (W3.setCell ⟨g, 0, none⟩ (ptr g)).heap[b]? = W3.heap[b]? := fun b hb => Below.heap_setCell _ _ _ _ (by show b ≠ g; omega)
  refine ⟨g, ⟨w.heap.size, g1, fun _ => none, fun _ => none⟩, rfl, ⟨k4, (m1.keep (e4 _ (by omega))).congr fun kl => ?_, (m2.keep (e4 _ l2)).congr fun kl => ?_, fun k r hr => (by cases hr), fun c p => ?_, fun k => rfl, WF.nil, fun k k' r r' hr => (by cases hr), fun k r hr => (by cases hr), Nat.ne_of_lt l1⟩, fun b hb => ?_, b4⟩
  · unfold fV fK
    by_cases e : ∃ k, FitK k ∧ kyL k = kl
    · rw [dif_pos e]; rfl
    · rw [dif_neg e]
  · unfold sV MV.fI
    cases kl with
    | int q n => cases q <;> rfl
    | _ => rfl
  · constructor
    · intro h; cases h
    · rintro ⟨k, r, hr, _⟩; cases hr
  · rcases hb with rfl | rfl | rfl | ⟨k, r, hr, _⟩
    · omega
    · exact Nat.le_refl _
    · exact Nat.le_of_lt l1
    · cases hr
end Go.Proofs.Ytldpamlmnganmaa.FL
