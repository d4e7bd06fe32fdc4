/- Layer 10's arguments opened: arrays of three and of two small numbers, of three numbers; lists of operations; bytes. Condition: none. -/
import Derived.Test.YtfilmbeoggmglaaSle
import Derived.Deep.Slices
import Derived.Deep.Fields
import Derived.ChangeSame
import Derived.Lib.SmallJoins
import Derived.SizedLaws
import Derived.Deep.RegionHeld3
import Derived.ChangeOld
namespace Go.Proofs.Ytfilmbeoggmglaa.SL
open Go.ChangeShapes Go.WideShapes Go.ChangeAt Go.RowKit Go.Maps Go.Deep
set_option maxRecDepth 100000
set_option linter.unusedVariables false
set_option linter.unusedSimpArgs false

theorem pu1 {α : Type _} {xs : List α} {i : Nat} (h : i < xs.toArray.size) : xs.toArray[i] = xs[i]'(by simpa using h) := by simp
theorem pu2 {α : Type _} (a : α) (l : List α) (i : Nat) (h : i + 1 < (a :: l).length) : (a :: l)[i + 1] = l[i]'(by simpa using h) := rfl
theorem pu3 {α : Type _} (a : α) (l : List α) : (a :: l)[0]'(by simp) = a := rfl
theorem pu4 {α : Type _} (l : List α) (i : Nat) (a : α) : l.toArray.setIfInBounds i a = (l.set i a).toArray := by simp
theorem pu5 {α : Type _} (a b : α) (l : List α) : (a :: l).set 0 b = b :: l := rfl
theorem pu6 {α : Type _} (a b : α) (l : List α) (n : Nat) : (a :: l).set (n + 1) b = a :: l.set n b := rfl
theorem pu.{u} : (∀ (α : Type u) (xs : List α) (i : Nat) (h : i < xs.toArray.size), xs.toArray[i] = xs[i]'(by simpa using h)) ∧ (∀ (α : Type u) (a : α) (l : List α) (i : Nat) (h : i + 1 < (a :: l).length), (a :: l)[i + 1] = l[i]'(by simpa using h)) ∧ (∀ (α : Type u) (a : α) (l : List α), (a :: l)[0]'(by simp) = a) ∧ (∀ (α : Type u) (l : List α) (i : Nat) (a : α), l.toArray.setIfInBounds i a = (l.set i a).toArray) ∧ (∀ (α : Type u) (a b : α) (l : List α), (a :: l).set 0 b = b :: l) ∧ (∀ (α : Type u) (a b : α) (l : List α) (n : Nat), (a :: l).set (n + 1) b = a :: l.set n b) := ⟨fun _ _ _ h => pu1 h, fun _ a l i h => pu2 a l i h, fun _ a l => pu3 a l, fun _ l i a => pu4 l i a, fun _ a b l => pu5 a b l, fun _ a b l n => pu6 a b l n⟩
section
variable {P : Program} {ops : Array Oper} {Q : Exit → Act → World → Prop} {md : Region.Mode} {S : World → Prop} {fuel : Nat} {listed : Array Bool} {a : Act} {w : World}
theorem tkY (i : Nat) (v : Value) {oi : Oper} (hi : ops[i]? = some oi) (hS : S w) (hy : ∀ w, S w → (execOp a.eval oi).run P w = .ok (.value v) w) (h : wpAnyH P md ops Q S fuel (listed.setIfInBounds i true) (a.put oi.dst v) w)
    (hs : Region.noSelect ops = true := by kernel_rfl) (hf : Region.free md ops listed i = true := by kernel_rfl) (hr : (Region.ready md ops listed).contains i = true := by kernel_rfl) (hw : Region.wanted oi (yielded ops a.tmps) = true := by kernel_rfl)
    (hQ : ∀ c a w, Q (.panic c) (a.put oi.dst v) w → Q (.panic c) a w := by exact fun _ _ _ h => h) : wpAnyH P md ops Q S (fuel + 1) listed a w := wpAnyH_take hi hs hf hr hQ (.inl ⟨hw, hy⟩) hS h
theorem tkN (i : Nat) {oi : Oper} (hi : ops[i]? = some oi) (hS : S w) (h : wpAnyH P md ops Q S fuel (listed.setIfInBounds i true) (a.put oi.dst undef) w)
    (hs : Region.noSelect ops = true := by kernel_rfl) (hf : Region.free md ops listed i = true := by kernel_rfl) (hr : (Region.ready md ops listed).contains i = true := by kernel_rfl) (hw : Region.wanted oi (yielded ops a.tmps) = false := by kernel_rfl)
    (hQ : ∀ c a w, Q (.panic c) (a.put oi.dst undef) w → Q (.panic c) a w := by exact fun _ _ _ h => h) : wpAnyH P md ops Q S (fuel + 1) listed a w := wpAnyH_take hi hs hf hr hQ (.inr ⟨hw, rfl⟩) hS h
end
section
variable {H : Type} {enc : TypeId × Value → H} {W : World}
theorem spot_none {ad : Addr} {x : Value} (h : W.cell? ad = some x) : ad.spot = none := by
  unfold World.cell? at h
  cases hs : ad.spot with
  | none => rfl
  | some q => rw [hs] at h; revert h; split <;> simp
/-- a slice, element by element -/
theorem slice_any {α : Type} {ts te : TypeId} {m : Nat} {Q : α → List Value → Prop} (hu : Try.prog.underlying ts = some (.slice te)) (hC : Try.prog.cellsOf te = m)
    (one : ∀ {n : Nat} {cs : List Value} {x : DataW H × List MemPlace}, DataW.trod enc Try.prog W 0 (fun _ => true) true n te cs = some x → ∃ a : α, Q a cs)
    {fuel : Nat} {c : Value} {x : DataW H × List MemPlace} (h : DataW.trod enc Try.prog W 0 (fun _ => true) true fuel ts [c] = some x) :
    c = .slice none 0 0 ∨ ∃ (l : List α) (ad : Addr) (cap : Nat), c = .slice (some ad) l.length cap ∧ l.length ≤ cap ∧ ∀ (i : Nat) (a : α), l[i]? = some a → ∃ cs, Q a cs ∧ cs.length = m ∧ ∀ j, j < m → W.cell? ((ad.add (i * m)).add j) = cs[j]? := by
  rcases open_slice hu h with ⟨e, _⟩ | ⟨ad, len, cap, k, n, D, Pl, hcs, hb, hl, hm, hmm, hx, hi⟩
  · injection e with e _
    exact .inl e
  · injection hcs with hcs _
    subst hcs
    rw [hC] at hi
    have hlm : len ≤ k := by rw [hmm]; simp; exact hl
    have key : ∀ j, j ≤ len → ∃ l : List α, l.length = j ∧ ∀ (i : Nat) (a : α), l[i]? = some a → ∃ cs, Q a cs ∧ cs.length = m ∧ ∀ j, j < m → W.cell? ((ad.add (i * m)).add j) = cs[j]? := by
      intro j
      induction j with
      | zero => intro _; exact ⟨[], rfl, fun i x hi => by simp at hi⟩
      | succ j ih =>
        intro hj
        obtain ⟨l, h1, h2⟩ := ih (by omega)
        obtain ⟨cs', hc, ht⟩ := hi j (by omega)
        obtain ⟨_, hcl, hat⟩ := World.cells?_some hc
        obtain ⟨a, hq⟩ := one ht
        refine ⟨l ++ [a], by simp [h1], fun i x hx' => ?_⟩
        by_cases hij : i < l.length
        · rw [List.getElem?_append_left hij] at hx'
          exact h2 i x hx'
        · have hlt := (List.getElem?_eq_some_iff.1 hx').1
          have hie : i = j := by simp at hlt; omega
          subst hie
          rw [List.getElem?_append_right (by omega), h1, Nat.sub_self] at hx'
          simp at hx'
          subst hx'
          exact ⟨cs', hq, hcl, fun q hq2 => hat q hq2⟩
    obtain ⟨l, h1, h2⟩ := key len (Nat.le_refl _)
    exact .inr ⟨l, ad, cap, by rw [h1], by omega, h2⟩
theorem one_intc : Try.prog.cellsOf 3 = 1 := by kernel_rfl
theorem one_strc : Try.prog.cellsOf 9 = 1 := by kernel_rfl
theorem one_u8c : Try.prog.cellsOf 5 = 1 := by kernel_rfl
theorem wf64 (x : Int) (h : (Lit.int .i64 x).wf = true) : -9223372036854775808 ≤ x ∧ x ≤ 9223372036854775807 := by
  simp [Lit.wf, IntKind.min, IntKind.max, IntKind.signed, IntKind.bits] at h
  omega
theorem wf8 (x : Int) (h : (Lit.int .u8 x).wf = true) : 0 ≤ x ∧ x ≤ 255 := by
  simp [Lit.wf, IntKind.min, IntKind.max, IntKind.signed, IntKind.bits] at h
  omega
/-- an operation: its kind, its key, its size -/
abbrev Opn : Type := Int × ByteArray × Int
def opV (o : Opn) : Array Value := #[.int .i64 o.1, .string o.2.1, .int .i64 o.2.2]
def opB (o : Opn) : Prop := (-9223372036854775808 ≤ o.1 ∧ o.1 ≤ 9223372036854775807) ∧ (-9223372036854775808 ≤ o.2.2 ∧ o.2.2 ≤ 9223372036854775807)
theorem one_op {n : Nat} {cs : List Value} {x : DataW H × List MemPlace} (ht : DataW.trod enc Try.prog W 0 (fun _ => true) true n 32 cs = some x) :
    ∃ o : Opn, cs = (opV o).toList ∧ opB o := by
  obtain ⟨xs, m, _, hx, hl, hxl, hf⟩ := DataW.trod_struct Try.underlying32 ht
  rw [show Try.prog.cellsOf 32 = 3 by kernel_rfl] at hl
  match cs, hl with
  | [c0, c1, c2], _ =>
  match xs, hxl with
  | [y0, y1, y2], _ =>
    have h0 : DataW.trod enc Try.prog W 0 (fun _ => true) true m 3 (List.take (Try.prog.cellsOf 3) (List.drop 0 [c0, c1, c2])) = some y0 := hf 0 _ rfl
    have h1 : DataW.trod enc Try.prog W 0 (fun _ => true) true m 9 (List.take (Try.prog.cellsOf 9) (List.drop 1 [c0, c1, c2])) = some y1 := hf 1 _ rfl
    have h2 : DataW.trod enc Try.prog W 0 (fun _ => true) true m 3 (List.take (Try.prog.cellsOf 3) (List.drop 2 [c0, c1, c2])) = some y2 := hf 2 _ rfl
    rw [one_intc] at h0 h2
    rw [one_strc] at h1
    obtain ⟨x0, e0, _, w0⟩ := DataW.trod_int Try.underlying3 h0
    obtain ⟨x1, e1, _, _⟩ := DataW.trod_string Try.underlying9 h1
    obtain ⟨x2, e2, _, w2⟩ := DataW.trod_int Try.underlying3 h2
    injection e0 with e0 _
    injection e1 with e1 _
    injection e2 with e2 _
    subst e0 e1 e2
    exact ⟨(x0, x1, x2), rfl, wf64 _ w0, wf64 _ w2⟩
/-- v is a slice of operations that reads as l -/
def OpR (w : World) (v : Value) (l : List Opn) : Prop :=
  (∃ a cap, l = [] ∧ v = .slice a 0 cap) ∨ ∃ g off cap, v = .slice (some ⟨g, off, none⟩) l.length cap ∧ l.length ≤ cap ∧ ∀ (i : Nat) (o : Opn), l[i]? = some o → opB o ∧ w.cell? ⟨g, off + i * 3, none⟩ = some (.int .i64 o.1) ∧ w.cell? ⟨g, off + i * 3 + 1, none⟩ = some (.string o.2.1) ∧ w.cell? ⟨g, off + i * 3 + 2, none⟩ = some (.int .i64 o.2.2)
def FitsO (W : World) (v : Value) : Prop := ∃ l, OpR W v l
theorem openedO {base : Nat} {v : Value} {d : DataW H} {p : List MemPlace} (hv : Value.okWide Try.prog W .any base 23 v)
    (h : DataW.Trod enc Try.prog W 0 (fun _ => true) true 23 v d p) (hz : (DataW.weights Try.prog 23 d).all (· ≤ reachBytes) = true) : FitsO W v := by
  obtain ⟨a, ln, cp, rfl⟩ := okWide_slice Try.underlying23 hv
  obtain ⟨fuel, hf⟩ := h
  rcases slice_any (α := Opn) (m := 3) (Q := fun o cs => cs = (opV o).toList ∧ opB o) Try.underlying23 (by kernel_rfl) (fun ht => one_op ht) hf with e | ⟨l, ad, cap, e, hc, h2⟩
  · rw [e]; exact ⟨[], .inl ⟨_, _, rfl, rfl⟩⟩
  · rw [e]
    refine ⟨l, ?_⟩
    by_cases h0 : l = []
    · subst h0; exact .inl ⟨_, _, rfl, rfl⟩
    · obtain ⟨x, hx0⟩ : ∃ x, l[0]? = some x := ⟨l[0]'(by cases l; exact absurd rfl h0; simp), List.getElem?_eq_getElem _⟩
      obtain ⟨cs, ⟨rfl, _⟩, _, hat⟩ := h2 0 x hx0
      have c0 := hat 0 (by omega)
      have e0 : (ad.add (0 * 3)).add 0 = ad := by simp [Addr.add]
      rw [e0] at c0
      have hsp := spot_none (x := .int .i64 x.1) c0
      obtain ⟨bl, of, sp⟩ := ad
      simp only at hsp
      subst hsp
      refine .inr ⟨bl, of, cap, rfl, hc, fun i y hy => ?_⟩
      obtain ⟨cs, ⟨rfl, hb⟩, _, hat⟩ := h2 i y hy
      have a0 := hat 0 (by omega)
      have a1 := hat 1 (by omega)
      have a2 := hat 2 (by omega)
      simp only [Addr.add_lit, Nat.add_zero] at a0 a1 a2
      exact ⟨hb, a0, a1, a2⟩
theorem OpR.below {w w' : World} {v : Value} {l : List Opn} (h : OpR w v l) (hb : Below w.heap.size w w') : OpR w' v l := by
  have hk : ∀ (p : Addr) (u : Value), w.cell? p = some u → w'.cell? p = some u := fun p u hp => (hb.cell (World.block_lt_of_cell? w p hp)).trans hp
  rcases h with h | ⟨g, off, cap, e, hc, hx⟩
  · exact .inl h
  · exact .inr ⟨g, off, cap, e, hc, fun i o hi => by
      obtain ⟨h0, h1, h2, h3⟩ := hx i o hi
      exact ⟨h0, hk _ _ h1, hk _ _ h2, hk _ _ h3⟩⟩
theorem OpR.form {w : World} {v : Value} {l : List Opn} (h : OpR w v l) : ∃ a cap, v = .slice a l.length cap := by
  rcases h with ⟨a, cap, rfl, rfl⟩ | ⟨g, off, cap, rfl, _⟩
  · exact ⟨_, _, rfl⟩
  · exact ⟨_, _, rfl⟩
theorem OpR.inv {w : World} {v : Value} {l : List Opn} (h : OpR w v l) (hp : 0 < l.length) : ∃ g off cap, v = .slice (some ⟨g, off, none⟩) l.length cap ∧ l.length ≤ cap ∧ ∀ (i : Nat) (o : Opn), l[i]? = some o → opB o ∧ w.cell? ⟨g, off + i * 3, none⟩ = some (.int .i64 o.1) ∧ w.cell? ⟨g, off + i * 3 + 1, none⟩ = some (.string o.2.1) ∧ w.cell? ⟨g, off + i * 3 + 2, none⟩ = some (.int .i64 o.2.2) := by
  rcases h with ⟨a, cap, rfl, rfl⟩ | h
  · simp at hp
  · exact h
def Fits38 (v : Value) : Prop := ∃ a b c : Int, v = .agg #[.int .u8 a, .int .u8 b, .int .u8 c] ∧ (0 ≤ a ∧ a ≤ 255) ∧ (0 ≤ b ∧ b ≤ 255) ∧ (0 ≤ c ∧ c ≤ 255)
theorem arr_n {n : Nat} {te ts : TypeId} {q : IntKind} (hu : Try.prog.underlying ts = some (.array n te)) (hte : Try.prog.underlying te = some (.int q)) (hc : Try.prog.cellsOf te = 1) (hn : Try.prog.cellsOf ts = n) {base : Nat} {v : Value} {d : DataW H} {p : List MemPlace} (hv : Value.okWide Try.prog W .any base ts v)
    (h : DataW.Trod enc Try.prog W 0 (fun _ => true) true ts v d p) : ∃ cs : Array Value, v = .agg cs ∧ cs.size = n ∧ ∀ i, i < n → ∃ x : Int, cs[i]? = some (.int q x) ∧ (Lit.int q x).wf = true := by
  obtain ⟨cs, rfl, hsz, _⟩ : ∃ cs, v = .agg cs ∧ cs.size = Try.prog.cellsOf ts ∧ Row.okWide Try.prog W .any base ts cs := by
    simpa [Value.okWide, hu] using hv
  rw [hn] at hsz
  refine ⟨cs, rfl, hsz, fun i hi => ?_⟩
  obtain ⟨fuel, hf⟩ := h
  obtain ⟨xs, m, _, _, _, hl, hel⟩ := DataW.trod_array hu hf
  have e0 := hel i hi
  rw [hc, List.getElem?_eq_getElem (by omega)] at e0
  obtain ⟨x, ex, _, wx⟩ := DataW.trod_int hte e0
  refine ⟨x, ?_, wx⟩
  have := congrArg (·[0]?) ex
  simp [Value.cells] at this
  simpa using this
def Fits28 (v : Value) : Prop := ∃ a b : Int, v = .agg #[.int .u8 a, .int .u8 b] ∧ (0 ≤ a ∧ a ≤ 255) ∧ (0 ≤ b ∧ b ≤ 255)
def Fits3i (v : Value) : Prop := ∃ a b c : Int, v = .agg #[.int .i64 a, .int .i64 b, .int .i64 c]
theorem opened3i {base : Nat} {v : Value} {d : DataW H} {p : List MemPlace} (hv : Value.okWide Try.prog W .any base 22 v)
    (h : DataW.Trod enc Try.prog W 0 (fun _ => true) true 22 v d p) (hz : (DataW.weights Try.prog 22 d).all (· ≤ reachBytes) = true) : Fits3i v := by
  obtain ⟨⟨cs⟩, rfl, hs, hx⟩ := arr_n Try.underlying22 Try.underlying3 one_intc (by kernel_rfl) hv h
  obtain ⟨a, ha, wa⟩ := hx 0 (by omega)
  obtain ⟨b, hb, wb⟩ := hx 1 (by omega)
  obtain ⟨c, hc, wc⟩ := hx 2 (by omega)
  match cs, hs with
  | [c0, c1, c2], _ =>
    simp at ha hb hc
    subst ha hb hc
    exact ⟨a, b, c, rfl⟩
/-- v is a slice of bytes that reads as l -/
def U8R (w : World) (v : Value) (l : List Int) : Prop :=
  (∃ a cap, l = [] ∧ v = .slice a 0 cap) ∨ ∃ g off cap, v = .slice (some ⟨g, off, none⟩) l.length cap ∧ l.length ≤ cap ∧ ∀ (i : Nat) (x : Int), l[i]? = some x → (0 ≤ x ∧ x ≤ 255) ∧ w.cell? ⟨g, off + i, none⟩ = some (.int .u8 x)
def FitsU (W : World) (v : Value) : Prop := ∃ l, U8R W v l
theorem openedU {base : Nat} {v : Value} {d : DataW H} {p : List MemPlace} (hv : Value.okWide Try.prog W .any base 122 v)
    (h : DataW.Trod enc Try.prog W 0 (fun _ => true) true 122 v d p) (hz : (DataW.weights Try.prog 122 d).all (· ≤ reachBytes) = true) : FitsU W v := by
  obtain ⟨a, ln, cp, rfl⟩ := okWide_slice Try.underlying122 hv
  obtain ⟨fuel, hf⟩ := h
  rcases slice_any (α := Int) (m := 1) (Q := fun x cs => cs[0]? = some (.int .u8 x) ∧ (0 ≤ x ∧ x ≤ 255)) Try.underlying122 one_u8c (fun ht => by
    obtain ⟨x, e, _, wx⟩ := DataW.trod_int Try.underlying5 ht
    exact ⟨x, by rw [e]; rfl, wf8 _ wx⟩) hf with e | ⟨l, ad, cap, e, hc, h2⟩
  · rw [e]; exact ⟨[], .inl ⟨_, _, rfl, rfl⟩⟩
  · rw [e]
    refine ⟨l, ?_⟩
    by_cases h0 : l = []
    · subst h0; exact .inl ⟨_, _, rfl, rfl⟩
    · obtain ⟨x, hx0⟩ : ∃ x, l[0]? = some x := ⟨l[0]'(by cases l; exact absurd rfl h0; simp), List.getElem?_eq_getElem _⟩
      obtain ⟨cs, ⟨q0, _⟩, _, hat⟩ := h2 0 x hx0
      have c0 := hat 0 (by omega)
      have e0 : (ad.add (0 * 1)).add 0 = ad := by simp [Addr.add]
      rw [e0, q0] at c0
      have hsp := spot_none c0
      obtain ⟨bl, of, sp⟩ := ad
      simp only at hsp
      subst hsp
      refine .inr ⟨bl, of, cap, rfl, hc, fun i y hy => ?_⟩
      obtain ⟨cs, ⟨q1, hb⟩, _, hat⟩ := h2 i y hy
      have a0 := hat 0 (by omega)
      rw [q1] at a0
      simp only [Addr.add_lit, Nat.add_zero, Nat.mul_one] at a0
      exact ⟨hb, a0⟩
theorem U8R.below {w w' : World} {v : Value} {l : List Int} (h : U8R w v l) (hb : Below w.heap.size w w') : U8R w' v l := by
  rcases h with h | ⟨g, off, cap, e, hc, hx⟩
  · exact .inl h
  · exact .inr ⟨g, off, cap, e, hc, fun i x hi => ⟨(hx i x hi).1, (hb.cell (World.block_lt_of_cell? w _ (hx i x hi).2)).trans (hx i x hi).2⟩⟩
theorem U8R.form {w : World} {v : Value} {l : List Int} (h : U8R w v l) : ∃ a cap, v = .slice a l.length cap := by
  rcases h with ⟨a, cap, rfl, rfl⟩ | ⟨g, off, cap, rfl, _⟩
  · exact ⟨_, _, rfl⟩
  · exact ⟨_, _, rfl⟩
end
end Go.Proofs.Ytfilmbeoggmglaa.SL
