/- An argument of tokens, opened. Condition: none. -/
import Derived.Test.YtlmgggipkdmdfaaDoorCrd
import Derived.Deep.Slices
import Derived.Deep.Fields
import Derived.ChangeSame
import Derived.Lib.SmallJoins
namespace Go.Proofs.YtlmgggipkdmdfaaDoor
set_option linter.unusedSimpArgs false
open Go.ChangeShapes Go.WideShapes Go.ChangeAt Go.RowKit
open Go.ChangeMaps (open_string shut_string)
open Go.Deep
set_option linter.unusedVariables false

theorem quiet_add {P : Program} {f : FuncId} {args : Array Value} {w : World} {n x : Nat} {v : Value}
    (h : Calls P f args (w.drewN (n + x)) fun e w' => e = .returned v ∧ ∃ m, w' = (w.drewN (n + x)).drewN m) : Calls P f args (w.drewN (n + x)) fun e w'' => e = .returned v ∧ ∃ m, w'' = w.drewN (n + m) :=
  h.mono fun _ _ ⟨he, m, hm⟩ => ⟨he, x + m, by rw [hm, World.drewN_drewN, Nat.add_assoc]⟩
def FitsT (w : World) (v : Value) : Prop := ∃ l : List Tok, TR w v l
theorem one_tok {H : Type} {enc : TypeId × Value → H} {W : World} {n : Nat} {cs : List Value} {D : DataW H} {p : List MemPlace} (ht : DataW.trod enc Tryd.prog W 0 (fun _ => true) true n 30 cs = some (D, p)) :
    ∃ t : Tok, cs[0]? = some (.int .i64 t.1) ∧ cs[1]? = some (.string t.2.1) ∧ cs[2]? = some (.int .i64 t.2.2) := by
  obtain ⟨xs, m, _, hx, hl, hxl, hf⟩ := DataW.trod_struct Tryd.underlying30 ht
  match xs, hxl with
  | [y0, y1, y2], _ =>
    have h0 : DataW.trod enc Tryd.prog W 0 (fun _ => true) true m 3 (List.take (Tryd.prog.cellsOf 3) (List.drop 0 cs)) = some y0 := hf 0 _ rfl
    have h1 : DataW.trod enc Tryd.prog W 0 (fun _ => true) true m 9 (List.take (Tryd.prog.cellsOf 9) (List.drop 1 cs)) = some y1 := hf 1 _ rfl
    have h2 : DataW.trod enc Tryd.prog W 0 (fun _ => true) true m 3 (List.take (Tryd.prog.cellsOf 3) (List.drop 2 cs)) = some y2 := hf 2 _ rfl
    rw [show Tryd.prog.cellsOf 3 = 1 by kernel_rfl] at h0 h2
    rw [show Tryd.prog.cellsOf 9 = 1 by kernel_rfl] at h1
    obtain ⟨x, e0, _, w0⟩ := DataW.trod_int Tryd.underlying3 h0
    obtain ⟨b, e1, d1, _⟩ := DataW.trod_string Tryd.underlying9 h1
    obtain ⟨z, e2, _, w2⟩ := DataW.trod_int Tryd.underlying3 h2
    refine ⟨(x, b, z), ?_, ?_, ?_⟩
    · have := congrArg (·[0]?) e0
      simpa using this
    · have := congrArg (·[0]?) e1
      simpa using this
    · have := congrArg (·[0]?) e2
      simpa using this
theorem opened_toks {H : Type} {enc : TypeId × Value → H} {W : World} {base : Nat} {v : Value} {d : DataW H} {p : List MemPlace} (hv : Value.okWide Tryd.prog W .any base 23 v)
    (h : DataW.Trod enc Tryd.prog W 0 (fun _ => true) true 23 v d p) (hz : (DataW.weights Tryd.prog 23 d).all (· ≤ reachBytes) = true) : FitsT W v := by
  obtain ⟨a, ln, cp, rfl⟩ := okWide_slice Tryd.underlying23 hv
  obtain ⟨fuel, hf⟩ := h
  rcases open_slice Tryd.underlying23 hf with ⟨e, _⟩ | ⟨ad, len, cap, m, n, D, Pl, hcs, hb, hl, hm, hmm, hx, hi⟩
  · simp [Value.cells] at e
    obtain ⟨rfl, rfl, rfl⟩ := e
    exact ⟨[], .inl ⟨_, _, rfl, rfl⟩⟩
  · simp [Value.cells] at hcs
    obtain ⟨rfl, rfl, rfl⟩ := hcs
    have hC : Tryd.prog.cellsOf 30 = 3 := by kernel_rfl
    rw [hC] at hi
    have hlm : ln ≤ m := by rw [hmm]; simp; exact hl
    have key : ∀ j, j ≤ ln → ∃ l : List Tok, l.length = j ∧ ∀ (i : Nat) (t : Tok), l[i]? = some t → W.cell? (ad.add (i * 3)) = some (.int .i64 t.1) ∧ W.cell? ((ad.add (i * 3)).add 1) = some (.string t.2.1) ∧ W.cell? ((ad.add (i * 3)).add 2) = some (.int .i64 t.2.2) := by
      intro j
      induction j with
      | zero => intro _; exact ⟨[], rfl, fun i x hi => by simp at hi⟩
      | succ j ih =>
        intro hj
        obtain ⟨l, h1, h2⟩ := ih (by omega)
        obtain ⟨cs', hc, ht⟩ := hi j (by omega)
        obtain ⟨_, hcl, hat⟩ := World.cells?_some hc
        obtain ⟨t, e0, e1, e2⟩ := one_tok ht
        refine ⟨l ++ [t], by simp [h1], fun i x hx' => ?_⟩
        by_cases hij : i < l.length
        · rw [List.getElem?_append_left hij] at hx'
          exact h2 i x hx'
        · have hlt := (List.getElem?_eq_some_iff.1 hx').1
          have hie : i = j := by simp at hlt; omega
          subst hie
          rw [List.getElem?_append_right (by omega), h1, Nat.sub_self] at hx'
          simp at hx'
          subst hx'
          have a0 := hat 0 (by omega)
          have a1 := hat 1 (by omega)
          have a2 := hat 2 (by omega)
          rw [e0] at a0
          rw [e1] at a1
          rw [e2] at a2
          exact ⟨by simpa [Addr.add] using a0, a1, a2⟩
    obtain ⟨l, h1, h2⟩ := key ln (Nat.le_refl _)
    refine ⟨l, ?_⟩
    by_cases h0 : l = []
    · subst h0
      exact .inl ⟨_, _, by rw [← h1]; rfl, rfl⟩
    · obtain ⟨x, hx0⟩ : ∃ x, l[0]? = some x := ⟨l[0]'(by cases l; exact absurd rfl h0; simp), List.getElem?_eq_getElem _⟩
      obtain ⟨c0, _⟩ := h2 0 x hx0
      have hsp : ad.spot = none := by
        have hcell : (W.cell? (ad.add (0 * 3))).isSome = true := by rw [c0]; rfl
        have e : ad.add (0 * 3) = ad := by simp [Addr.add]
        rw [e] at hcell
        unfold World.cell? at hcell
        cases hs : ad.spot with
        | none => rfl
        | some q => rw [hs] at hcell; revert hcell; split <;> simp
      obtain ⟨bl, of, sp⟩ := ad
      simp only at hsp
      subst hsp
      refine .inr ⟨bl, of, cp, by rw [h1], by omega, fun i y hy => ?_⟩
      obtain ⟨d0, d1, d2⟩ := h2 i y hy
      rw [Addr.add_lit] at d0 d1 d2
      rw [Addr.add_lit] at d1 d2
      exact ⟨d0, d1, d2⟩
end Go.Proofs.YtlmgggipkdmdfaaDoor
