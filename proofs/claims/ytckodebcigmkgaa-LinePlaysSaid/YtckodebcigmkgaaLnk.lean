/- Lists of small numbers, lists of operations among the arguments of layer 16's laws. No condition. -/
import Derived.Test.YtckodebcigmkgaaLni
import Derived.Deep.Slices
import Derived.Deep.Fields
import Derived.SizedLaws
namespace Go.Proofs.Ytckodebcigmkgaa.LN
open Go.ChangeShapes Go.WideShapes Go.ChangeAt Go.RowKit Go.Maps Go.ChangeMaps Go.Deep
open Go.Proofs.Ytckodebcigmkgaa.SL Go.Proofs.Ytckodebcigmkgaa.RW
set_option maxRecDepth 100000
set_option linter.unusedVariables false
set_option linter.unusedSimpArgs false

theorem wf8 (x : Int) (h : (Lit.int .u8 x).wf = true) : 0 ≤ x ∧ x ≤ 255 := by
  simp [Lit.wf, IntKind.min, IntKind.max, IntKind.signed, IntKind.bits] at h
  omega
theorem wf16 (x : Int) (h : (Lit.int .u16 x).wf = true) : 0 ≤ x ∧ x ≤ 65535 := by
  simp [Lit.wf, IntKind.min, IntKind.max, IntKind.signed, IntKind.bits] at h
  omega
theorem wf64 (x : Int) (h : (Lit.int .i64 x).wf = true) : -9223372036854775808 ≤ x ∧ x ≤ 9223372036854775807 := by
  simp [Lit.wf, IntKind.min, IntKind.max, IntKind.signed, IntKind.bits] at h
  omega
section
variable {H : Type} {enc : TypeId × Value → H} {W : World}
theorem spot_none {ad : Addr} {x : Value} (h : W.cell? ad = some x) : ad.spot = none := by
  unfold World.cell? at h
  cases hs : ad.spot with
  | none => rfl
  | some q => rw [hs] at h; revert h; split <;> simp
/-- a slice, element by element -/
theorem slice_any {α : Type} {ts te : TypeId} {m : Nat} {Q : α → List Value → Prop} (hu : Try.prog.underlying ts = some (.slice te)) (hC : Try.prog.cellsOf te = m)
    (one : ∀ {n : Nat} {cs : List Value} {x : DataW H × List MemPlace}, DataW.trod enc Try.prog W 0 (fun _ => true) true n te cs = some x → ∃ a : α, Q a cs)
    {fuel : Nat} {c : Value} {x : DataW H × List MemPlace} (h : DataW.trod enc Try.prog W 0 (fun _ => true) true fuel ts [c] = some x) :
    c = .slice none 0 0 ∨ ∃ (l : List α) (ad : Addr) (cap : Nat), c = .slice (some ad) l.length cap ∧ l.length ≤ cap ∧ ∀ (i : Nat) (a : α), l[i]? = some a → ∃ cs, Q a cs ∧ cs.length = m ∧ ∀ j, j < m → W.cell? ((ad.add (i * m)).add j) = cs[j]? := by
  rcases open_slice hu h with ⟨e, _⟩ | ⟨ad, len, cap, k, n, D, Pl, hcs, hb, hl, hm, hmm, hx, hi⟩
  · injection e with e _
    exact .inl e
  · injection hcs with hcs _
    subst hcs
    rw [hC] at hi
    have hlm : len ≤ k := by rw [hmm]; simp; exact hl
    have key : ∀ j, j ≤ len → ∃ l : List α, l.length = j ∧ ∀ (i : Nat) (a : α), l[i]? = some a → ∃ cs, Q a cs ∧ cs.length = m ∧ ∀ j, j < m → W.cell? ((ad.add (i * m)).add j) = cs[j]? := by
      intro j
      induction j with
      | zero => intro _; exact ⟨[], rfl, fun i x hi => by simp at hi⟩
      | succ j ih =>
        intro hj
        obtain ⟨l, h1, h2⟩ := ih (by omega)
        obtain ⟨cs', hc, ht⟩ := hi j (by omega)
        obtain ⟨_, hcl, hat⟩ := World.cells?_some hc
        obtain ⟨a, hq⟩ := one ht
        refine ⟨l ++ [a], by simp [h1], fun i x hx' => ?_⟩
        by_cases hij : i < l.length
        · rw [List.getElem?_append_left hij] at hx'
          exact h2 i x hx'
        · have hlt := (List.getElem?_eq_some_iff.1 hx').1
          have hie : i = j := by simp at hlt; omega
          subst hie
          rw [List.getElem?_append_right (by omega), h1, Nat.sub_self] at hx'
          simp at hx'
          subst hx'
          exact ⟨cs', hq, hcl, fun q hq2 => hat q hq2⟩
    obtain ⟨l, h1, h2⟩ := key len (Nat.le_refl _)
    exact .inr ⟨l, ad, cap, by rw [h1], by omega, h2⟩
theorem u8c : Try.prog.cellsOf 5 = 1 := by kernel_rfl
theorem u16c : Try.prog.cellsOf 45 = 1 := by kernel_rfl
theorem intc : Try.prog.cellsOf 3 = 1 := by kernel_rfl
theorem opc : Try.prog.cellsOf 31 = 3 := by kernel_rfl
/-- v is a slice of numbers of kind k, 0 to m, that reads as l -/
def NR (k : IntKind) (m : Int) (w : World) (v : Value) (l : List Int) : Prop :=
  (∃ a cap, l = [] ∧ v = .slice a 0 cap) ∨ ∃ g off cap, v = .slice (some ⟨g, off, none⟩) l.length cap ∧ l.length ≤ cap ∧ ∀ (i : Nat) (x : Int), l[i]? = some x → (0 ≤ x ∧ x ≤ m) ∧ w.cell? ⟨g, off + i, none⟩ = some (.int k x)
def FitsU8 (W : World) (v : Value) : Prop := ∃ l, NR .u8 255 W v l
theorem openedU8 {base : Nat} {v : Value} {d : DataW H} {p : List MemPlace} (hv : Value.okWide Try.prog W .any base 47 v)
    (h : DataW.Trod enc Try.prog W 0 (fun _ => true) true 47 v d p) (hz : (DataW.weights Try.prog 47 d).all (· ≤ reachBytes) = true) : FitsU8 W v := by
  obtain ⟨a, ln, cp, rfl⟩ := okWide_slice Try.underlying47 hv
  obtain ⟨fuel, hf⟩ := h
  rcases slice_any (α := Int) (m := 1) (Q := fun x cs => cs[0]? = some (.int .u8 x) ∧ (0 ≤ x ∧ x ≤ 255)) Try.underlying47 u8c (fun ht => by
    obtain ⟨x, e, _, wx⟩ := DataW.trod_int Try.underlying5 ht
    exact ⟨x, by rw [e]; rfl, wf8 _ wx⟩) hf with e | ⟨l, ad, cap, e, hc, h2⟩
  · rw [e]; exact ⟨[], .inl ⟨_, _, rfl, rfl⟩⟩
  · rw [e]
    refine ⟨l, ?_⟩
    by_cases h0 : l = []
    · subst h0; exact .inl ⟨_, _, rfl, rfl⟩
    · obtain ⟨x, hx0⟩ : ∃ x, l[0]? = some x := ⟨l[0]'(by cases l; exact absurd rfl h0; simp), List.getElem?_eq_getElem _⟩
      obtain ⟨cs, ⟨q0, _⟩, _, hat⟩ := h2 0 x hx0
      have c0 := hat 0 (by omega)
      have e0 : (ad.add (0 * 1)).add 0 = ad := by simp [Addr.add]
      rw [e0, q0] at c0
      have hsp := spot_none c0
      obtain ⟨bl, of, sp⟩ := ad
      simp only at hsp
      subst hsp
      refine .inr ⟨bl, of, cap, rfl, hc, fun i y hy => ?_⟩
      obtain ⟨cs, ⟨q1, hb⟩, _, hat⟩ := h2 i y hy
      have a0 := hat 0 (by omega)
      rw [q1] at a0
      simp only [Addr.add_lit, Nat.add_zero, Nat.mul_one] at a0
      exact ⟨hb, a0⟩
def FitsU16 (W : World) (v : Value) : Prop := ∃ l, NR .u16 65535 W v l
theorem openedU16 {base : Nat} {v : Value} {d : DataW H} {p : List MemPlace} (hv : Value.okWide Try.prog W .any base 44 v)
    (h : DataW.Trod enc Try.prog W 0 (fun _ => true) true 44 v d p) (hz : (DataW.weights Try.prog 44 d).all (· ≤ reachBytes) = true) : FitsU16 W v := by
  obtain ⟨a, ln, cp, rfl⟩ := okWide_slice Try.underlying44 hv
  obtain ⟨fuel, hf⟩ := h
  rcases slice_any (α := Int) (m := 1) (Q := fun x cs => cs[0]? = some (.int .u16 x) ∧ (0 ≤ x ∧ x ≤ 65535)) Try.underlying44 u16c (fun ht => by
    obtain ⟨x, e, _, wx⟩ := DataW.trod_int Try.underlying45 ht
    exact ⟨x, by rw [e]; rfl, wf16 _ wx⟩) hf with e | ⟨l, ad, cap, e, hc, h2⟩
  · rw [e]; exact ⟨[], .inl ⟨_, _, rfl, rfl⟩⟩
  · rw [e]
    refine ⟨l, ?_⟩
    by_cases h0 : l = []
    · subst h0; exact .inl ⟨_, _, rfl, rfl⟩
    · obtain ⟨x, hx0⟩ : ∃ x, l[0]? = some x := ⟨l[0]'(by cases l; exact absurd rfl h0; simp), List.getElem?_eq_getElem _⟩
      obtain ⟨cs, ⟨q0, _⟩, _, hat⟩ := h2 0 x hx0
      have c0 := hat 0 (by omega)
      have e0 : (ad.add (0 * 1)).add 0 = ad := by simp [Addr.add]
      rw [e0, q0] at c0
      have hsp := spot_none c0
      obtain ⟨bl, of, sp⟩ := ad
      simp only at hsp
      subst hsp
      refine .inr ⟨bl, of, cap, rfl, hc, fun i y hy => ?_⟩
      obtain ⟨cs, ⟨q1, hb⟩, _, hat⟩ := h2 i y hy
      have a0 := hat 0 (by omega)
      rw [q1] at a0
      simp only [Addr.add_lit, Nat.add_zero, Nat.mul_one] at a0
      exact ⟨hb, a0⟩
abbrev Opc : Type := Int × Int × Int
def opcC (o : Opc) : List Value := [nV o.1, nV o.2.1, nV o.2.2]
theorem one_opc {n : Nat} {cs : List Value} {x : DataW H × List MemPlace} (ht : DataW.trod enc Try.prog W 0 (fun _ => true) true n 31 cs = some x) : ∃ o : Opc, cs = opcC o := by
  obtain ⟨xs, m, _, hx, hl, hxl, hf⟩ := DataW.trod_struct Try.underlying31 ht
  rw [opc] at hl
  match cs, hl with
  | [c0, c1, c2], _ =>
  match xs, hxl with
  | [y0, y1, y2], _ =>
    have h0 : DataW.trod enc Try.prog W 0 (fun _ => true) true m 3 (List.take (Try.prog.cellsOf 3) (List.drop 0 [c0, c1, c2])) = some y0 := hf 0 _ rfl
    have h1 : DataW.trod enc Try.prog W 0 (fun _ => true) true m 3 (List.take (Try.prog.cellsOf 3) (List.drop 1 [c0, c1, c2])) = some y1 := hf 1 _ rfl
    have h2 : DataW.trod enc Try.prog W 0 (fun _ => true) true m 3 (List.take (Try.prog.cellsOf 3) (List.drop 2 [c0, c1, c2])) = some y2 := hf 2 _ rfl
    rw [intc] at h0 h1 h2
    obtain ⟨x0, e0, _, _⟩ := DataW.trod_int Try.underlying3 h0
    obtain ⟨x1, e1, _, _⟩ := DataW.trod_int Try.underlying3 h1
    obtain ⟨x2, e2, _, _⟩ := DataW.trod_int Try.underlying3 h2
    injection e0 with e0 _
    injection e1 with e1 _
    injection e2 with e2 _
    subst e0 e1 e2
    exact ⟨(x0, x1, x2), rfl⟩
/-- v is a slice of operations that reads as l -/
def OpR (w : World) (v : Value) (l : List Opc) : Prop :=
  (∃ a cap, l = [] ∧ v = .slice a 0 cap) ∨ ∃ g off cap, v = .slice (some ⟨g, off, none⟩) l.length cap ∧ l.length ≤ cap ∧ ∀ (i : Nat) (o : Opc), l[i]? = some o → ∀ j u, (opcC o)[j]? = some u → w.cell? ⟨g, off + i * 3 + j, none⟩ = some u
def FitsOp (W : World) (v : Value) : Prop := ∃ l, OpR W v l
theorem openedOp {base : Nat} {v : Value} {d : DataW H} {p : List MemPlace} (hv : Value.okWide Try.prog W .any base 22 v)
    (h : DataW.Trod enc Try.prog W 0 (fun _ => true) true 22 v d p) (hz : (DataW.weights Try.prog 22 d).all (· ≤ reachBytes) = true) : FitsOp W v := by
  obtain ⟨a, ln, cp, rfl⟩ := okWide_slice Try.underlying22 hv
  obtain ⟨fuel, hf⟩ := h
  rcases slice_any (α := Opc) (m := 3) (Q := fun o cs => cs = opcC o) Try.underlying22 opc (fun ht => one_opc ht) hf with e | ⟨l, ad, cap, e, hc, h2⟩
  · rw [e]; exact ⟨[], .inl ⟨_, _, rfl, rfl⟩⟩
  · rw [e]
    refine ⟨l, ?_⟩
    by_cases h0 : l = []
    · subst h0; exact .inl ⟨_, _, rfl, rfl⟩
    · obtain ⟨x, hx0⟩ : ∃ x, l[0]? = some x := ⟨l[0]'(by cases l; exact absurd rfl h0; simp), List.getElem?_eq_getElem _⟩
      obtain ⟨cs, rfl, _, hat⟩ := h2 0 x hx0
      have c0 := hat 0 (by omega)
      have e0 : (ad.add (0 * 3)).add 0 = ad := by simp [Addr.add]
      rw [e0] at c0
      have hsp := spot_none (x := nV x.1) c0
      obtain ⟨bl, of, sp⟩ := ad
      simp only at hsp
      subst hsp
      refine .inr ⟨bl, of, cap, rfl, hc, fun i y hy j u hu => ?_⟩
      obtain ⟨cs, rfl, _, hat⟩ := h2 i y hy
      have hj : j < 3 := by have := (List.getElem?_eq_some_iff.1 hu).1; exact this
      have a0 := hat j hj
      rw [hu] at a0
      simpa only [Addr.add_lit] using a0
end
theorem NR.below {k : IntKind} {m : Int} {w w' : World} {v : Value} {l : List Int} (h : NR k m w v l) (hb : Below w.heap.size w w') : NR k m w' v l := by
  rcases h with h | ⟨g, off, cap, e, hc, hx⟩
  · exact .inl h
  · exact .inr ⟨g, off, cap, e, hc, fun i x hi => ⟨(hx i x hi).1, (hb.cell (World.block_lt_of_cell? w _ (hx i x hi).2)).trans (hx i x hi).2⟩⟩
theorem NR.form {k : IntKind} {m : Int} {w : World} {v : Value} {l : List Int} (h : NR k m w v l) : ∃ a cap, v = .slice a l.length cap := by
  rcases h with ⟨a, cap, rfl, rfl⟩ | ⟨g, off, cap, rfl, _⟩
  · exact ⟨_, _, rfl⟩
  · exact ⟨_, _, rfl⟩
theorem NR.inv {k : IntKind} {m : Int} {w : World} {v : Value} {l : List Int} (h : NR k m w v l) (hp : 0 < l.length) : ∃ g off cap, v = .slice (some ⟨g, off, none⟩) l.length cap ∧ l.length ≤ cap ∧ ∀ (i : Nat) (x : Int), l[i]? = some x → (0 ≤ x ∧ x ≤ m) ∧ w.cell? ⟨g, off + i, none⟩ = some (.int k x) := by
  rcases h with ⟨a, cap, rfl, rfl⟩ | h
  · simp at hp
  · exact h
theorem OpR.below {w w' : World} {v : Value} {l : List Opc} (h : OpR w v l) (hb : Below w.heap.size w w') : OpR w' v l := by
  rcases h with h | ⟨g, off, cap, e, hc, hx⟩
  · exact .inl h
  · exact .inr ⟨g, off, cap, e, hc, fun i x hi j u hu => (hb.cell (p := ⟨g, off + i * 3 + j, none⟩) (World.block_lt_of_cell? w _ (hx i x hi j u hu))).trans (hx i x hi j u hu)⟩
theorem OpR.form {w : World} {v : Value} {l : List Opc} (h : OpR w v l) : ∃ a cap, v = .slice a l.length cap := by
  rcases h with ⟨a, cap, rfl, rfl⟩ | ⟨g, off, cap, rfl, _⟩
  · exact ⟨_, _, rfl⟩
  · exact ⟨_, _, rfl⟩
theorem OpR.inv {w : World} {v : Value} {l : List Opc} (h : OpR w v l) (hp : 0 < l.length) : ∃ g off cap, v = .slice (some ⟨g, off, none⟩) l.length cap ∧ l.length ≤ cap ∧ ∀ (i : Nat) (o : Opc), l[i]? = some o → ∀ j u, (opcC o)[j]? = some u → w.cell? ⟨g, off + i * 3 + j, none⟩ = some u := by
  rcases h with ⟨a, cap, rfl, rfl⟩ | h
  · simp at hp
  · exact h
end Go.Proofs.Ytckodebcigmkgaa.LN
