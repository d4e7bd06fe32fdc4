/- Lists of operations, of texts, of small numbers among the arguments of layer 18's laws. No condition. -/
import Derived.Test.YtkifmhdceobfhaaDoorPpo
import Derived.Deep.Slices
import Derived.Deep.Fields
import Derived.SizedLaws
namespace Go.Proofs.YtkifmhdceobfhaaDoor.PP
open Go.ChangeShapes Go.WideShapes Go.ChangeAt Go.RowKit Go.Maps Go.ChangeMaps
open Go.Deep
open Go.Proofs.YtkifmhdceobfhaaDoor.SL
set_option maxRecDepth 100000
set_option linter.unusedVariables false
set_option linter.unusedSimpArgs false

theorem wf8 (x : Int) (h : (Lit.int .u8 x).wf = true) : 0 ≤ x ∧ x ≤ 255 := by
  simp [Lit.wf, IntKind.min, IntKind.max, IntKind.signed, IntKind.bits] at h
  omega
section
variable {H : Type} {enc : TypeId × Value → H} {W : World}
theorem spot_none {ad : Addr} {x : Value} (h : W.cell? ad = some x) : ad.spot = none := by
  unfold World.cell? at h
  cases hs : ad.spot with
  | none => rfl
  | some q => rw [hs] at h; revert h; split <;> simp
/-- a slice, element by element -/
theorem slice_any {α : Type} {ts te : TypeId} {m : Nat} {Q : α → List Value → Prop} (hu : Tryd.prog.underlying ts = some (.slice te)) (hC : Tryd.prog.cellsOf te = m)
    (one : ∀ {n : Nat} {cs : List Value} {x : DataW H × List MemPlace}, DataW.trod enc Tryd.prog W 0 (fun _ => true) true n te cs = some x → ∃ a : α, Q a cs)
    {fuel : Nat} {c : Value} {x : DataW H × List MemPlace} (h : DataW.trod enc Tryd.prog W 0 (fun _ => true) true fuel ts [c] = some x) :
    c = .slice none 0 0 ∨ ∃ (l : List α) (ad : Addr) (cap : Nat), c = .slice (some ad) l.length cap ∧ l.length ≤ cap ∧ ∀ (i : Nat) (a : α), l[i]? = some a → ∃ cs, Q a cs ∧ cs.length = m ∧ ∀ j, j < m → W.cell? ((ad.add (i * m)).add j) = cs[j]? := by
  rcases open_slice hu h with ⟨e, _⟩ | ⟨ad, len, cap, k, n, D, Pl, hcs, hb, hl, hm, hmm, hx, hi⟩
  · injection e with e _
    exact .inl e
  · injection hcs with hcs _
    subst hcs
    rw [hC] at hi
    have hlm : len ≤ k := by rw [hmm]; simp; exact hl
    have key : ∀ j, j ≤ len → ∃ l : List α, l.length = j ∧ ∀ (i : Nat) (a : α), l[i]? = some a → ∃ cs, Q a cs ∧ cs.length = m ∧ ∀ j, j < m → W.cell? ((ad.add (i * m)).add j) = cs[j]? := by
      intro j
      induction j with
      | zero => intro _; exact ⟨[], rfl, fun i x hi => by simp at hi⟩
      | succ j ih =>
        intro hj
        obtain ⟨l, h1, h2⟩ := ih (by omega)
        obtain ⟨cs', hc, ht⟩ := hi j (by omega)
        obtain ⟨_, hcl, hat⟩ := World.cells?_some hc
        obtain ⟨a, hq⟩ := one ht
        refine ⟨l ++ [a], by simp [h1], fun i x hx' => ?_⟩
        by_cases hij : i < l.length
        · rw [List.getElem?_append_left hij] at hx'
          exact h2 i x hx'
        · have hlt := (List.getElem?_eq_some_iff.1 hx').1
          have hie : i = j := by simp at hlt; omega
          subst hie
          rw [List.getElem?_append_right (by omega), h1, Nat.sub_self] at hx'
          simp at hx'
          subst hx'
          exact ⟨cs', hq, hcl, fun q hq2 => hat q hq2⟩
    obtain ⟨l, h1, h2⟩ := key len (Nat.le_refl _)
    exact .inr ⟨l, ad, cap, by rw [h1], by omega, h2⟩
/-- an operation: its kind, its number, its name, its text -/
abbrev Opq : Type := Int × Int × ByteArray × ByteArray
def opqC (o : Opq) : List Value := [nV o.1, nV o.2.1, .string o.2.2.1, .string o.2.2.2]
def opqB (o : Opq) : Prop := I9 o.2.1
theorem one_opq {n : Nat} {cs : List Value} {x : DataW H × List MemPlace} (ht : DataW.trod enc Tryd.prog W 0 (fun _ => true) true n 32 cs = some x) : ∃ o : Opq, cs = opqC o ∧ opqB o := by
  obtain ⟨xs, m, _, hx, hl, hxl, hf⟩ := DataW.trod_struct Tryd.underlying32 ht
  rw [show Tryd.prog.cellsOf 32 = 4 by kernel_rfl] at hl
  match cs, hl with
  | [c0, c1, c2, c3], _ =>
  match xs, hxl with
  | [y0, y1, y2, y3], _ =>
    have h0 : DataW.trod enc Tryd.prog W 0 (fun _ => true) true m 3 (List.take (Tryd.prog.cellsOf 3) (List.drop 0 [c0, c1, c2, c3])) = some y0 := hf 0 _ rfl
    have h1 : DataW.trod enc Tryd.prog W 0 (fun _ => true) true m 3 (List.take (Tryd.prog.cellsOf 3) (List.drop 1 [c0, c1, c2, c3])) = some y1 := hf 1 _ rfl
    have h2 : DataW.trod enc Tryd.prog W 0 (fun _ => true) true m 9 (List.take (Tryd.prog.cellsOf 9) (List.drop 2 [c0, c1, c2, c3])) = some y2 := hf 2 _ rfl
    have h3 : DataW.trod enc Tryd.prog W 0 (fun _ => true) true m 9 (List.take (Tryd.prog.cellsOf 9) (List.drop 3 [c0, c1, c2, c3])) = some y3 := hf 3 _ rfl
    rw [show Tryd.prog.cellsOf 3 = 1 by kernel_rfl] at h0 h1
    rw [show Tryd.prog.cellsOf 9 = 1 by kernel_rfl] at h2 h3
    obtain ⟨x0, e0, _, _⟩ := DataW.trod_int Tryd.underlying3 h0
    obtain ⟨x1, e1, _, w1⟩ := DataW.trod_int Tryd.underlying3 h1
    obtain ⟨x2, e2, _, _⟩ := DataW.trod_string Tryd.underlying9 h2
    obtain ⟨x3, e3, _, _⟩ := DataW.trod_string Tryd.underlying9 h3
    injection e0 with e0 _
    injection e1 with e1 _
    injection e2 with e2 _
    injection e3 with e3 _
    subst e0 e1 e2 e3
    exact ⟨(x0, x1, x2, x3), rfl, wf64 _ w1⟩
/-- v is a slice of operations that reads as l -/
def OpR (w : World) (v : Value) (l : List Opq) : Prop :=
  (∃ a cap, l = [] ∧ v = .slice a 0 cap) ∨ ∃ g off cap, v = .slice (some ⟨g, off, none⟩) l.length cap ∧ l.length ≤ cap ∧ ∀ (i : Nat) (o : Opq), l[i]? = some o → opqB o ∧ ∀ j u, (opqC o)[j]? = some u → w.cell? ⟨g, off + i * 4 + j, none⟩ = some u
def FitsOp (W : World) (v : Value) : Prop := ∃ l, OpR W v l
theorem openedOp {base : Nat} {v : Value} {d : DataW H} {p : List MemPlace} (hv : Value.okWide Tryd.prog W .any base 22 v)
    (h : DataW.Trod enc Tryd.prog W 0 (fun _ => true) true 22 v d p) (hz : (DataW.weights Tryd.prog 22 d).all (· ≤ reachBytes) = true) : FitsOp W v := by
  obtain ⟨a, ln, cp, rfl⟩ := okWide_slice Tryd.underlying22 hv
  obtain ⟨fuel, hf⟩ := h
  rcases slice_any (α := Opq) (m := 4) (Q := fun o cs => cs = opqC o ∧ opqB o) Tryd.underlying22 (by kernel_rfl) (fun ht => one_opq ht) hf with e | ⟨l, ad, cap, e, hc, h2⟩
  · rw [e]; exact ⟨[], .inl ⟨_, _, rfl, rfl⟩⟩
  · rw [e]
    refine ⟨l, ?_⟩
    by_cases h0 : l = []
    · subst h0; exact .inl ⟨_, _, rfl, rfl⟩
    · obtain ⟨x, hx0⟩ : ∃ x, l[0]? = some x := ⟨l[0]'(by cases l; exact absurd rfl h0; simp), List.getElem?_eq_getElem _⟩
      obtain ⟨cs, ⟨rfl, _⟩, _, hat⟩ := h2 0 x hx0
      have c0 := hat 0 (by omega)
      have e0 : (ad.add (0 * 4)).add 0 = ad := by simp [Addr.add]
      rw [e0] at c0
      have hsp := spot_none (x := nV x.1) c0
      obtain ⟨bl, of, sp⟩ := ad
      simp only at hsp
      subst hsp
      refine .inr ⟨bl, of, cap, rfl, hc, fun i y hy => ?_⟩
      obtain ⟨cs, ⟨rfl, hb⟩, _, hat⟩ := h2 i y hy
      refine ⟨hb, fun j u hu => ?_⟩
      have hj : j < 4 := by have := (List.getElem?_eq_some_iff.1 hu).1; exact this
      have a0 := hat j hj
      rw [hu] at a0
      simpa only [Addr.add_lit] using a0
theorem openedTx {base : Nat} {v : Value} {d : DataW H} {p : List MemPlace} (hv : Value.okWide Tryd.prog W .any base 27 v)
    (h : DataW.Trod enc Tryd.prog W 0 (fun _ => true) true 27 v d p) (hz : (DataW.weights Tryd.prog 27 d).all (· ≤ reachBytes) = true) : ∃ l, TS W v l := by
  obtain ⟨a, ln, cp, rfl⟩ := okWide_slice Tryd.underlying27 hv
  obtain ⟨fuel, hf⟩ := h
  rcases slice_any (α := ByteArray) (m := 1) (Q := fun x cs => cs[0]? = some (.string x)) Tryd.underlying27 (by kernel_rfl) (fun ht => by
    obtain ⟨x, e, _, _⟩ := DataW.trod_string Tryd.underlying9 ht
    exact ⟨x, by rw [e]; rfl⟩) hf with e | ⟨l, ad, cap, e, hc, h2⟩
  · rw [e]; exact ⟨[], .inl ⟨_, _, rfl, rfl⟩⟩
  · rw [e]
    refine ⟨l, ?_⟩
    by_cases h0 : l = []
    · subst h0; exact .inl ⟨_, _, rfl, rfl⟩
    · obtain ⟨x, hx0⟩ : ∃ x, l[0]? = some x := ⟨l[0]'(by cases l; exact absurd rfl h0; simp), List.getElem?_eq_getElem _⟩
      obtain ⟨cs, q0, _, hat⟩ := h2 0 x hx0
      have c0 := hat 0 (by omega)
      have e0 : (ad.add (0 * 1)).add 0 = ad := by simp [Addr.add]
      rw [e0, q0] at c0
      have hsp := spot_none c0
      obtain ⟨bl, of, sp⟩ := ad
      simp only at hsp
      subst hsp
      refine .inr ⟨bl, of, cap, rfl, hc, fun i y hy => ?_⟩
      obtain ⟨cs, q1, _, hat⟩ := h2 i y hy
      have a0 := hat 0 (by omega)
      rw [q1] at a0
      simp only [Addr.add_lit, Nat.add_zero, Nat.mul_one] at a0
      exact a0
/-- v is a slice of numbers of kind k, 0 to m, that reads as l -/
def NR (k : IntKind) (m : Int) (w : World) (v : Value) (l : List Int) : Prop :=
  (∃ a cap, l = [] ∧ v = .slice a 0 cap) ∨ ∃ g off cap, v = .slice (some ⟨g, off, none⟩) l.length cap ∧ l.length ≤ cap ∧ ∀ (i : Nat) (x : Int), l[i]? = some x → (0 ≤ x ∧ x ≤ m) ∧ w.cell? ⟨g, off + i, none⟩ = some (.int k x)
def FitsU8 (W : World) (v : Value) : Prop := ∃ l, NR .u8 255 W v l
theorem openedU8 {base : Nat} {v : Value} {d : DataW H} {p : List MemPlace} (hv : Value.okWide Tryd.prog W .any base 43 v)
    (h : DataW.Trod enc Tryd.prog W 0 (fun _ => true) true 43 v d p) (hz : (DataW.weights Tryd.prog 43 d).all (· ≤ reachBytes) = true) : FitsU8 W v := by
  obtain ⟨a, ln, cp, rfl⟩ := okWide_slice Tryd.underlying43 hv
  obtain ⟨fuel, hf⟩ := h
  rcases slice_any (α := Int) (m := 1) (Q := fun x cs => cs[0]? = some (.int .u8 x) ∧ (0 ≤ x ∧ x ≤ 255)) Tryd.underlying43 (by kernel_rfl) (fun ht => by
    obtain ⟨x, e, _, wx⟩ := DataW.trod_int Tryd.underlying5 ht
    exact ⟨x, by rw [e]; rfl, wf8 _ wx⟩) hf with e | ⟨l, ad, cap, e, hc, h2⟩
  · rw [e]; exact ⟨[], .inl ⟨_, _, rfl, rfl⟩⟩
  · rw [e]
    refine ⟨l, ?_⟩
    by_cases h0 : l = []
    · subst h0; exact .inl ⟨_, _, rfl, rfl⟩
    · obtain ⟨x, hx0⟩ : ∃ x, l[0]? = some x := ⟨l[0]'(by cases l; exact absurd rfl h0; simp), List.getElem?_eq_getElem _⟩
      obtain ⟨cs, ⟨q0, _⟩, _, hat⟩ := h2 0 x hx0
      have c0 := hat 0 (by omega)
      have e0 : (ad.add (0 * 1)).add 0 = ad := by simp [Addr.add]
      rw [e0, q0] at c0
      have hsp := spot_none c0
      obtain ⟨bl, of, sp⟩ := ad
      simp only at hsp
      subst hsp
      refine .inr ⟨bl, of, cap, rfl, hc, fun i y hy => ?_⟩
      obtain ⟨cs, ⟨q1, hb⟩, _, hat⟩ := h2 i y hy
      have a0 := hat 0 (by omega)
      rw [q1] at a0
      simp only [Addr.add_lit, Nat.add_zero, Nat.mul_one] at a0
      exact ⟨hb, a0⟩
end
theorem OpR.below {w w' : World} {v : Value} {l : List Opq} (h : OpR w v l) (hb : Below w.heap.size w w') : OpR w' v l := by
  rcases h with h | ⟨g, off, cap, e, hc, hx⟩
  · exact .inl h
  · exact .inr ⟨g, off, cap, e, hc, fun i x hi => ⟨(hx i x hi).1, fun j u hu => (hb.cell (p := ⟨g, off + i * 4 + j, none⟩) (World.block_lt_of_cell? w _ ((hx i x hi).2 j u hu))).trans ((hx i x hi).2 j u hu)⟩⟩
theorem OpR.form {w : World} {v : Value} {l : List Opq} (h : OpR w v l) : ∃ a cap, v = .slice a l.length cap := by
  rcases h with ⟨a, cap, rfl, rfl⟩ | ⟨g, off, cap, rfl, _⟩
  · exact ⟨_, _, rfl⟩
  · exact ⟨_, _, rfl⟩
theorem OpR.inv {w : World} {v : Value} {l : List Opq} (h : OpR w v l) (hp : 0 < l.length) : ∃ g off cap, v = .slice (some ⟨g, off, none⟩) l.length cap ∧ l.length ≤ cap ∧ ∀ (i : Nat) (o : Opq), l[i]? = some o → opqB o ∧ ∀ j u, (opqC o)[j]? = some u → w.cell? ⟨g, off + i * 4 + j, none⟩ = some u := by
  rcases h with ⟨a, cap, rfl, rfl⟩ | h
  · simp at hp
  · exact h
theorem NR.below {k : IntKind} {m : Int} {w w' : World} {v : Value} {l : List Int} (h : NR k m w v l) (hb : Below w.heap.size w w') : NR k m w' v l := by
  rcases h with h | ⟨g, off, cap, e, hc, hx⟩
  · exact .inl h
  · exact .inr ⟨g, off, cap, e, hc, fun i x hi => ⟨(hx i x hi).1, (hb.cell (World.block_lt_of_cell? w _ (hx i x hi).2)).trans (hx i x hi).2⟩⟩
theorem NR.form {k : IntKind} {m : Int} {w : World} {v : Value} {l : List Int} (h : NR k m w v l) : ∃ a cap, v = .slice a l.length cap := by
  rcases h with ⟨a, cap, rfl, rfl⟩ | ⟨g, off, cap, rfl, _⟩
  · exact ⟨_, _, rfl⟩
  · exact ⟨_, _, rfl⟩
theorem NR.inv {k : IntKind} {m : Int} {w : World} {v : Value} {l : List Int} (h : NR k m w v l) (hp : 0 < l.length) : ∃ g off cap, v = .slice (some ⟨g, off, none⟩) l.length cap ∧ l.length ≤ cap ∧ ∀ (i : Nat) (x : Int), l[i]? = some x → (0 ≤ x ∧ x ≤ m) ∧ w.cell? ⟨g, off + i, none⟩ = some (.int k x) := by
  rcases h with ⟨a, cap, rfl, rfl⟩ | h
  · simp at hp
  · exact h
end Go.Proofs.YtkifmhdceobfhaaDoor.PP
