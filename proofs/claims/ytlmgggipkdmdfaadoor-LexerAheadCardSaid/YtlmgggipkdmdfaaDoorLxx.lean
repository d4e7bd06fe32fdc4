/- The statements of tokens in plain words; what holds of the memory while lists are put together; what package lexer's with answers. Condition: none. -/
import Derived.Test.YtlmgggipkdmdfaaDoorLxw
import Derived.Deep.AppendLies
namespace Go.Proofs.YtlmgggipkdmdfaaDoor
open Go.ChangeShapes Go.WideShapes Go.ChangeAt Go.RowKit
set_option linter.unusedVariables false
set_option linter.unusedSimpArgs false

def isSemi (t : Tok) : Bool := t.1 == 5 && t.2.1.toList == [59]
def addL (als : List (List Tok)) (one : List Tok) : List (List Tok) := if one = [] then als else als ++ [one]
/-- the lists between Signs ; -/
def spF : List Tok → List Tok → List (List Tok) → List (List Tok)
  | [], one, als => addL als one
  | t :: r, one, als => if isSemi t = true then spF r [] (addL als one) else spF r (one ++ [t]) als
def splitL (l : List Tok) : List (List Tok) := spF l [] []
theorem own_kind {w : World} {B z n : Nat} {e : TypeId} {v : Value} {xs : List Value} (h : w.ownsRow B e z v n xs) : ∀ g, v.ownBlock = some g → g < w.heap.size ∧ ∃ c fz, w.heap[g]? = some (.cells c e fz) := by
  intro g hg
  rcases h.2 with ⟨rfl, _⟩ | ⟨g', cap, cur, rfl, _, hgg, _⟩
  · simp [Value.ownBlock] at hg
  · simp [Value.ownBlock] at hg
    subst hg
    exact ⟨(Array.getElem?_eq_some_iff.1 hgg).1, cur, _, hgg⟩
theorem own_apart {w : World} {B z n B2 z2 n2 : Nat} {e e2 : TypeId} {v v2 : Value} {xs xs2 : List Value} (h : w.ownsRow B e z v n xs) (h2 : w.ownsRow B2 e2 z2 v2 n2 xs2) (he : e ≠ e2) : v.ownBlock = none ∨ v.ownBlock ≠ v2.ownBlock := by
  cases hv : v.ownBlock with
  | none => exact .inl rfl
  | some g =>
    right
    intro hh
    obtain ⟨_, c, fz, h1⟩ := own_kind h g hv
    obtain ⟨_, c2, fz2, h3⟩ := own_kind h2 g hh.symm
    rw [h1] at h3
    injection h3 with h3
    injection h3 with _ h4 _
    exact he h4
/-- lists that are put together: als are whole, one is being made -/
structure SpI (w0 : World) (als : List (List Tok)) (one : List Tok) (va vo : Value) (w : World) : Prop where
  bel : Below w0.heap.size w0 w
  all : ∃ vs : List Value, vs.length = als.length ∧ w.ownsRow w0.heap.size 23 1 va als.length vs ∧
    ∀ (i : Nat) (u : Value) (l : List Tok), vs[i]? = some u → als[i]? = some l → w.ownsRow w0.heap.size 30 3 u l.length (tokRow l) ∧ (u.ownBlock = none ∨ u.ownBlock ≠ vo.ownBlock)
  one : w.ownsRow w0.heap.size 30 3 vo one.length (tokRow one)
theorem SpI.start (w : World) : SpI w [] [] (.slice none 0 0) (.slice none 0 0) w :=
  ⟨Below.refl _ _, ⟨[], rfl, World.ownsRow_nil _ _ _ _, fun i u l h => by simp at h⟩, World.ownsRow_nil _ _ _ _⟩
theorem SpI.step {w0 w w2 : World} {als : List (List Tok)} {one : List Tok} {va vo : Value} (h : SpI w0 als one va vo w) (b : Below w.heap.size w w2) : SpI w0 als one va vo w2 := by
  obtain ⟨vs, h1, h2, h3⟩ := h.all
  exact ⟨h.bel.trans (b.mono h.bel.size), ⟨vs, h1, ownsRow_below h2 b, fun i u l hu hl => ⟨ownsRow_below (h3 i u l hu hl).1 b, (h3 i u l hu hl).2⟩⟩, ownsRow_below h.one b⟩
theorem SpI.token {w0 w w2 : World} {als : List (List Tok)} {one : List Tok} {va vo : Value} (h : SpI w0 als one va vo w) (t : Tok) (g cap H : Nat) (hown : w2.ownsRow w0.heap.size 30 3 (.slice (some ⟨g, 0, none⟩) (one.length + 1) cap) (one.length + 1) (tokRow one ++ tokCells t))
    (hg : w.grownBy w2 vo.ownBlock) (hat : vo.ownBlock = some g ∨ g = H) (hH : H = w.heap.size) : SpI w0 als (one ++ [t]) va (.slice (some ⟨g, 0, none⟩) (one.length + 1) cap) w2 := by
  obtain ⟨vs, h1, h2, h3⟩ := h.all
  refine ⟨h.bel.grown hg h.bel.size fun k hk => (World.ownsRow.lt h.one k hk).1, ⟨vs, h1, h2.kept hg (own_apart h2 h.one (by decide)), fun i u l hu hl => ?_⟩, ?_⟩
  · obtain ⟨a, b⟩ := h3 i u l hu hl
    refine ⟨a.kept hg b, ?_⟩
    rcases hat with e | e
    · rw [e] at b; exact b
    · right
      intro hh
      have := (own_kind a g hh).1
      omega
  · rw [List.length_append, List.length_singleton, show tokRow (one ++ [t]) = tokRow one ++ tokCells t by simp [tokRow]]
    exact hown
theorem SpI.list {w0 w w2 : World} {als : List (List Tok)} {one : List Tok} {va vo v9 : Value} (h : SpI w0 als one va vo w) (vs : List Value) (h1 : vs.length = als.length) (h2 : w.ownsRow w0.heap.size 23 1 va als.length vs)
    (h3 : ∀ (i : Nat) (u : Value) (l : List Tok), vs[i]? = some u → als[i]? = some l → w.ownsRow w0.heap.size 30 3 u l.length (tokRow l) ∧ (u.ownBlock = none ∨ u.ownBlock ≠ vo.ownBlock))
    (hown : w2.ownsRow w0.heap.size 23 1 v9 (als.length + 1) (vs ++ [vo]))
    (hg : w.grownBy w2 va.ownBlock) : SpI w0 (als ++ [one]) [] v9 (.slice none 0 0) w2 := by
  refine ⟨h.bel.grown hg h.bel.size fun k hk => (World.ownsRow.lt h2 k hk).1, ⟨vs ++ [vo], by simp [h1], by rw [List.length_append, List.length_singleton]; exact hown, fun i u l hu hl => ?_⟩, World.ownsRow_nil _ _ _ _⟩
  have key : ∀ u : Value, u.ownBlock = none ∨ u.ownBlock ≠ (Value.slice none 0 0).ownBlock := fun u => by
    cases e : u.ownBlock with
    | none => exact .inl rfl
    | some g => right; simp [Value.ownBlock]
  by_cases hi : i < als.length
  · rw [List.getElem?_append_left (by omega)] at hu
    rw [List.getElem?_append_left hi] at hl
    exact ⟨(h3 i u l hu hl).1.kept hg (own_apart (h3 i u l hu hl).1 h2 (by decide)), key u⟩
  · rw [List.getElem?_append_right (by omega)] at hu hl
    have hz : i - als.length = 0 := by
      have := (List.getElem?_eq_some_iff.1 hl).1
      simp at this; omega
    rw [h1] at hu
    rw [hz] at hu hl
    simp at hu hl
    subst hu hl
    exact ⟨h.one.kept hg (own_apart h.one h2 (by decide)), key vo⟩
theorem SpI.forms {w0 w : World} {als : List (List Tok)} {one : List Tok} {va vo : Value} (h : SpI w0 als one va vo w) : (∃ a c, va = .slice a als.length c) ∧ ∃ a c, vo = .slice a one.length c := by
  obtain ⟨vs, h1, h2, h3⟩ := h.all
  constructor
  · rcases h2.2 with ⟨rfl, hz⟩ | ⟨g, cap, cur, rfl, _⟩
    · exact ⟨none, 0, by rw [hz]⟩
    · exact ⟨_, _, rfl⟩
  · rcases h.one.2 with ⟨rfl, hz⟩ | ⟨g, cap, cur, rfl, _⟩
    · exact ⟨none, 0, by rw [hz]⟩
    · exact ⟨_, _, rfl⟩
theorem info23 : (Tryd.prog.info? 23).map (fun i => (i.zero, i.size, i.bytes)) = some (some (.slice none 0 0), 1, 24) := by kernel_rfl
theorem und31 : Tryd.prog.underlying 31 = some (.slice 23) := by kernel_rfl
set_option maxHeartbeats 1000000 in
set_option maxRecDepth 100000 in
theorem with_any (w0 : World) (als : List (List Tok)) (one : List Tok) (va vo : Value) (w : World) (h : SpI w0 als one va vo w) (hl : als.length ≤ 65536) :
    Calls Tryd.prog 19 #[va, vo] w fun e w' => ∃ v9, e = .returned v9 ∧ SpI w0 (addL als one) [] v9 (.slice none 0 0) w' := by
  obtain ⟨⟨aa, ca, rfl⟩, ao, co, rfl⟩ := h.forms
  obtain ⟨i0, hi, hz0, hz1, hz2⟩ := info_parts info23
  have HI := Lib.hid h
  by_cases h0 : one = []
  · subst h0
    have e : addL als [] = als := if_pos rfl
    rw [e]
    clear h
    go_enter Tryd.func19, Tryd.ntmps19
    go_wp2
    go_ret
    obtain ⟨vs, h1, h2, h3⟩ := HI.out.all
    exact ⟨_, rfl, HI.out.bel, ⟨vs, h1, h2, fun i u l hu hl => ⟨(h3 i u l hu hl).1, by
      cases e : u.ownBlock with
      | none => exact .inl rfl
      | some g => right; simp [Value.ownBlock]⟩⟩, World.ownsRow_nil _ _ _ _⟩
  · have e : addL als one = als ++ [one] := if_neg h0
    rw [e]
    have hpos : ((one.length : Int) == 0) = false := by
      rw [beq_eq_false_iff_ne]
      intro hh
      exact h0 (List.eq_nil_of_length_eq_zero (by omega))
    have hI1 := HI.out.step ((Below.refl _ _).alloc (Nat.le_refl _) (.cells #[.slice ao one.length co] 23))
    have HI1 := Lib.hid hI1
    obtain ⟨vs, k1, k2, k3⟩ := hI1.all
    have HV := Lib.hid k2
    have HV1 := Lib.hid k1
    have HV3 := Lib.hid k3
    have HL := Lib.hid hl
    clear h h0 hI1 k1 k2 k3 hl
    go_enter Tryd.func19, Tryd.ntmps19
    go_wp2_with (at_builtin; refine wpList_append_lies _ rfl _ _ 31 rfl w0.heap.size 23 i0 (.slice none 0 0) 1 24 und31 hi hz0 hz1 hz2 rfl (by decide) _ als.length vs rfl HV.out ⟨w.heap.size, 0, none⟩ 1 1 [.slice ao one.length co] rfl rfl ?c1 ?c2 (by decide) ?c3 ?c4 ?c5 _ rfl ?_)
    case c1 =>
      intro j u hj
      match j, hj with
      | 0, hj => simp at hj; subst hj; simp [Addr.add]
    case c2 => intro u hu; simp at hu; subst hu; rfl
    case c3 => have := HL.out; unfold maxLen; omega
    case c4 => have := HL.out; omega
    case c5 => have := HI1.out.bel.size; exact this
    intro g cap w2 hown hgrow hat hlt
    go_wp2
    go_ret
    exact ⟨_, rfl, SpI.list HI1.out vs HV1.out HV.out HV3.out hown hgrow⟩
end Go.Proofs.YtlmgggipkdmdfaaDoor
