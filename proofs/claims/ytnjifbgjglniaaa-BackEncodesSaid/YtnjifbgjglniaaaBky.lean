/- Arguments that are tells, lists of tells, or messages, opened: what the form hands in reads as tells; their texts are within the form's reach. -/
import Derived.Test.YtnjifbgjglniaaaBkx2
import Derived.Deep.Fields
import Derived.Deep.Slices
import Derived.Lib.SmallJoins
import Derived.SizedLaws
import Derived.ChangeOld
import Derived.Carry
namespace Go.Proofs.Ytnjifbgjglniaaa.BK
open Go.Proofs.Ytnjifbgjglniaaa
open Go.ChangeShapes Go.WideShapes Go.ChangeAt Go.RowKit Go.Deep
set_option linter.unusedVariables false
set_option linter.unusedSimpArgs false
set_option maxRecDepth 100000

theorem weightsAll_in {H : Type} {P : Program} {e : TypeId} : ∀ {l : List (DataW H)} {d : DataW H}, d ∈ l → ∀ n ∈ d.weights P e, n ∈ DataW.weightsAll P e l
  | [], _, h, _, _ => by cases h
  | x :: r, d, h, n, hn => by
    rcases List.mem_cons.1 h with rfl | h
    · simp [DataW.weightsAll, hn]
    · simp [DataW.weightsAll, weightsAll_in h n hn]
theorem u8_is (n : Int) (h : (Lit.int .u8 n).wf = true) : ∃ k : UInt8, Value.int .u8 n = u8 k := by
  have hb : 0 ≤ n ∧ n < 256 := by simp [Lit.wf, IntKind.min, IntKind.max, IntKind.signed, IntKind.bits] at h; omega
  refine ⟨UInt8.ofNat n.toNat, ?_⟩
  unfold u8
  have : (UInt8.ofNat n.toNat).toNat = n.toNat := by simp [UInt8.toNat_ofNat']; omega
  rw [this, Int.toNat_of_nonneg hb.1]
theorem cell_lt {w : World} {a : Addr} {v : Value} (h : w.cell? a = some v) : a.block < w.heap.size := by
  by_cases hl : a.block < w.heap.size
  · exact hl
  · have hn : w.heap[a.block]? = none := Array.getElem?_eq_none (by omega)
    unfold World.cell? at h
    rw [hn] at h
    revert h
    cases a.spot <;> simp
section
variable {H : Type} {enc : TypeId × Value → H} {W : World} {fuel : Nat}
theorem lr_of {ts te : TypeId} {c : Value} {x : DataW H × List MemPlace} (ht : Try.prog.underlying ts = some (.slice te)) (hc : Try.prog.cellsOf te = 1) (h : DataW.trod enc Try.prog W 0 (fun _ => true) true fuel ts [c] = some x) :
    ∃ (xs : List Value), LR (fun b => b < W.heap.size) W c xs ∧ ∀ v ∈ xs, ∃ (n : Nat) (D : DataW H) (p : List MemPlace), DataW.trod enc Try.prog W 0 (fun _ => true) true n te [v] = some (D, p) ∧ ∀ k ∈ D.weights Try.prog te, k ∈ x.1.weights Try.prog ts := by
  rcases open_slice1 ht hc h with ⟨e, _⟩ | ⟨ad, len, cap, m, n, V, D, Pl, e, hb, hl, hm, hmm, hx, hi⟩
  · injection e with e _
    subst e
    exact ⟨[], LR.nil _ _, fun v hv => by cases hv⟩
  · injection e with e _
    subst e
    have hmm' : m = cap := by rw [hmm]; simp
    refine ⟨(List.range len).map V, ?_, fun v hv => ?_⟩
    · by_cases h0 : len = 0
      · subst h0
        exact ⟨_, cap, rfl, by simp, hm, fun hn => absurd rfl hn⟩
      · have c0 := (hi 0 (by omega)).1
        have hsp : ad.spot = none := by
          have hcell : (W.cell? (ad.add 0)).isSome = true := by rw [c0]; rfl
          have e : ad.add 0 = ad := by simp [Addr.add]
          rw [e] at hcell
          unfold World.cell? at hcell
          cases hs : ad.spot with
          | none => rfl
          | some q => rw [hs] at hcell; revert hcell; split <;> simp
        obtain ⟨bl, of, sp⟩ := ad
        simp only at hsp
        subst hsp
        refine ⟨_, cap, by simp, by simpa using hl, hm, fun _ => ⟨bl, of, rfl, ?_, fun j y hy => ?_⟩⟩
        · have := cell_lt c0
          simpa [Addr.add] using this
        · have hj : j < len := by have := (List.getElem?_eq_some_iff.1 hy).1; simpa using this
          have := (hi j (by omega)).1
          rw [Addr.add_lit] at this
          rw [this]
          simp [hj] at hy
          rw [← hy]
    · obtain ⟨i, hi1, rfl⟩ := List.mem_map.1 hv
      have hi2 := List.mem_range.1 hi1
      refine ⟨n, D i, Pl i, (hi i (by omega)).2, fun k hk => ?_⟩
      rw [hx]
      simp only [DataW.weights, ht]
      exact List.mem_cons_of_mem _ (List.mem_append_left _ (weightsAll_in (List.mem_map.2 ⟨i, hi1, rfl⟩) _ hk))
theorem strs_of {Z : Tx → Prop} : ∀ (xs : List Value), (∀ v ∈ xs, ∃ t : Tx, v = .string (ba t) ∧ Z t) → ∃ l : List Tx, xs = strs l ∧ ∀ t ∈ l, Z t
  | [], _ => ⟨[], rfl, fun t ht => by cases ht⟩
  | v :: xs, h => by
    obtain ⟨l, e, hl⟩ := strs_of xs (fun v hv => h v (List.mem_cons_of_mem _ hv))
    obtain ⟨t, e2, hz⟩ := h v (by simp)
    refine ⟨t :: l, by rw [e, e2]; rfl, fun u hu => ?_⟩
    rcases List.mem_cons.1 hu with rfl | hu
    · exact hz
    · exact hl u hu
theorem bools_of : ∀ (xs : List Value), (∀ v ∈ xs, ∃ t : Bool, v = .bool t) → ∃ l : List Bool, xs = bools l
  | [], _ => ⟨[], rfl⟩
  | v :: xs, h => by
    obtain ⟨l, e⟩ := bools_of xs (fun v hv => h v (List.mem_cons_of_mem _ hv))
    obtain ⟨t, e2⟩ := h v (by simp)
    exact ⟨t :: l, by rw [e, e2]; rfl⟩
theorem one9 : Try.prog.cellsOf 9 = 1 := by kernel_rfl
theorem one5 : Try.prog.cellsOf 5 = 1 := by kernel_rfl
theorem one4 : Try.prog.cellsOf 4 = 1 := by kernel_rfl
theorem one3 : Try.prog.cellsOf 3 = 1 := by kernel_rfl
theorem one25 : Try.prog.cellsOf 25 = 1 := by kernel_rfl
theorem one26 : Try.prog.cellsOf 26 = 1 := by kernel_rfl
theorem text_of {c : Value} {x : DataW H × List MemPlace} (h : DataW.trod enc Try.prog W 0 (fun _ => true) true fuel 9 [c] = some x) : ∃ t : Tx, c = .string (ba t) ∧ t.length ∈ x.1.weights Try.prog 9 := by
  obtain ⟨b, e, d, _⟩ := DataW.trod_string Try.underlying9 h
  injection e with e _
  refine ⟨b.data.toList, by rw [ba_of]; exact e, ?_⟩
  rw [d]; simp [DataW.weights]
theorem texts_of {c : Value} {x : DataW H × List MemPlace} (h : DataW.trod enc Try.prog W 0 (fun _ => true) true fuel 25 [c] = some x) : ∃ l : List Tx, LR (fun b => b < W.heap.size) W c (strs l) ∧ ∀ t ∈ l, t.length ∈ x.1.weights Try.prog 25 := by
  obtain ⟨xs, h1, h2⟩ := lr_of Try.underlying25 one9 h
  obtain ⟨l, rfl, hl⟩ := strs_of (Z := fun t => t.length ∈ x.1.weights Try.prog 25) xs (fun v hv => by
    obtain ⟨n, D, p, h3, h4⟩ := h2 v hv
    obtain ⟨t, e, ht⟩ := text_of h3
    exact ⟨t, e, h4 _ ht⟩)
  exact ⟨l, h1, hl⟩
theorem truths_of {c : Value} {x : DataW H × List MemPlace} (h : DataW.trod enc Try.prog W 0 (fun _ => true) true fuel 26 [c] = some x) : ∃ l : List Bool, LR (fun b => b < W.heap.size) W c (bools l) := by
  obtain ⟨xs, h1, h2⟩ := lr_of Try.underlying26 one4 h
  obtain ⟨l, rfl⟩ := bools_of xs (fun v hv => by
    obtain ⟨n, D, p, h3, h4⟩ := h2 v hv
    obtain ⟨b, e, _⟩ := DataW.trod_bool Try.underlying4 h3
    injection e with e _
    exact ⟨b, e⟩)
  exact ⟨l, h1⟩
end
section
variable {H : Type} {enc : TypeId × Value → H} {W : World}
theorem spot_none {ad : Addr} {x : Value} (h : W.cell? ad = some x) : ad.spot = none := by
  unfold World.cell? at h
  cases hs : ad.spot with
  | none => rfl
  | some q => rw [hs] at h; revert h; split <;> simp
/-- a slice, element by element -/
theorem slice_any {α : Type} {ts te : TypeId} {m : Nat} {Q : α → List Value → Prop} {N : Nat} (hu : Try.prog.underlying ts = some (.slice te)) (hC : Try.prog.cellsOf te = m)
    (one : ∀ {n : Nat} {cs : List Value} {x : DataW H × List MemPlace}, DataW.trod enc Try.prog W 0 (fun _ => true) true n te cs = some x → (∀ k ∈ x.1.weights Try.prog te, k ≤ N) → ∃ a : α, Q a cs)
    {fuel : Nat} {c : Value} {x : DataW H × List MemPlace} (h : DataW.trod enc Try.prog W 0 (fun _ => true) true fuel ts [c] = some x) (hN : ∀ k ∈ x.1.weights Try.prog ts, k ≤ N) :
    c = .slice none 0 0 ∨ ∃ (l : List α) (ad : Addr) (cap : Nat), c = .slice (some ad) l.length cap ∧ l.length ≤ cap ∧ cap ≤ maxLen ∧ ∀ (i : Nat) (a : α), l[i]? = some a → ∃ cs, Q a cs ∧ cs.length = m ∧ ∀ j, j < m → W.cell? ((ad.add (i * m)).add j) = cs[j]? := by
  rcases open_slice hu h with ⟨e, _⟩ | ⟨ad, len, cap, k, n, D, Pl, hcs, hb, hl, hm, hmm, hx, hi⟩
  · injection e with e _
    exact .inl e
  · injection hcs with hcs _
    subst hcs
    rw [hC] at hi
    have hlm : len ≤ k := by rw [hmm]; simp; exact hl
    have key : ∀ j, j ≤ len → ∃ l : List α, l.length = j ∧ ∀ (i : Nat) (a : α), l[i]? = some a → ∃ cs, Q a cs ∧ cs.length = m ∧ ∀ j, j < m → W.cell? ((ad.add (i * m)).add j) = cs[j]? := by
      intro j
      induction j with
      | zero => intro _; exact ⟨[], rfl, fun i x hi => by simp at hi⟩
      | succ j ih =>
        intro hj
        obtain ⟨l, h1, h2⟩ := ih (by omega)
        obtain ⟨cs', hc, ht⟩ := hi j (by omega)
        obtain ⟨_, hcl, hat⟩ := World.cells?_some hc
        obtain ⟨a, hq⟩ := one ht (fun k hk => hN k (by
          rw [hx]
          simp only [DataW.weights, hu]
          exact List.mem_cons_of_mem _ (List.mem_append_left _ (weightsAll_in (List.mem_map.2 ⟨j, List.mem_range.2 (by omega), rfl⟩) _ hk))))
        refine ⟨l ++ [a], by simp [h1], fun i x hx' => ?_⟩
        by_cases hij : i < l.length
        · rw [List.getElem?_append_left hij] at hx'
          exact h2 i x hx'
        · have hlt := (List.getElem?_eq_some_iff.1 hx').1
          have hie : i = j := by simp at hlt; omega
          subst hie
          rw [List.getElem?_append_right (by omega), h1, Nat.sub_self] at hx'
          simp at hx'
          subst hx'
          exact ⟨cs', hq, hcl, fun q hq2 => hat q hq2⟩
    obtain ⟨l, h1, h2⟩ := key len (Nat.le_refl _)
    exact .inr ⟨l, ad, cap, by rw [h1], by omega, hm, h2⟩
/-- a slice's block -/
theorem slice_at {α : Type} {m : Nat} {Q : α → List Value → Prop} {l : List α} {ad : Addr} (hp : 0 < m) (h0 : l ≠ []) (h2 : ∀ (i : Nat) (a : α), l[i]? = some a → ∃ cs, Q a cs ∧ cs.length = m ∧ ∀ j, j < m → W.cell? ((ad.add (i * m)).add j) = cs[j]?) : ∃ g off, ad = ⟨g, off, none⟩ := by
  obtain ⟨x, hx0⟩ : ∃ x, l[0]? = some x := ⟨l[0]'(by cases l; exact absurd rfl h0; simp), List.getElem?_eq_getElem _⟩
  obtain ⟨cs, _, hl, hat⟩ := h2 0 x hx0
  have c0 := hat 0 hp
  have e0 : (ad.add (0 * m)).add 0 = ad := by simp [Addr.add]
  rw [e0] at c0
  have hsp := spot_none (c0.trans (List.getElem?_eq_getElem (by omega)))
  obtain ⟨bl, of, sp⟩ := ad
  simp only at hsp
  subst hsp
  exact ⟨bl, of, rfl⟩

set_option maxHeartbeats 1000000 in
theorem one_tell {n : Nat} {cs : List Value} {x : DataW H × List MemPlace} (ht : DataW.trod enc Try.prog W 0 (fun _ => true) true n 28 cs = some x) (hN : ∀ k ∈ x.1.weights Try.prog 28, k ≤ 140737488351232) :
    ∃ (a : Tell) (kv vv nv : Value), cs = (tellV a kv vv nv).toList ∧ AR (fun b => b < W.heap.size) W (.agg (tellV a kv vv nv)) a ∧ Sz a := by
  obtain ⟨xs, m, _, hx, hl, hxl, hf⟩ := DataW.trod_struct Try.underlying28 ht
  rw [show Try.prog.cellsOf 28 = 8 by kernel_rfl] at hl
  match cs, hl with
  | [c0, c1, c2, c3, c4, c5, c6, c7], _ =>
  match xs, hxl with
  | [y0, y1, y2, y3, y4, y5, y6, y7], _ =>
    have hW : ∀ (j : Nat) (t : TypeId) (D : DataW H), [5, 5, 9, 25, 25, 26, 3, 3][j]? = some t → [y0.1, y1.1, y2.1, y3.1, y4.1, y5.1, y6.1, y7.1][j]? = some D → ∀ k ∈ D.weights Try.prog t, k ≤ 140737488351232 := by
      intro j t D h1 h2 k hk
      refine hN k ?_
      have e1 := congrArg Prod.fst hx
      rw [e1]
      simp only [DataW.weights, Try.underlying28]
      exact DataW.weights_mem_each h1 h2 k hk
    have h0 : DataW.trod enc Try.prog W 0 (fun _ => true) true m 5 (List.take (Try.prog.cellsOf 5) (List.drop 0 [c0, c1, c2, c3, c4, c5, c6, c7])) = some y0 := hf 0 _ rfl
    have h1 : DataW.trod enc Try.prog W 0 (fun _ => true) true m 5 (List.take (Try.prog.cellsOf 5) (List.drop 1 [c0, c1, c2, c3, c4, c5, c6, c7])) = some y1 := hf 1 _ rfl
    have h2 : DataW.trod enc Try.prog W 0 (fun _ => true) true m 9 (List.take (Try.prog.cellsOf 9) (List.drop 2 [c0, c1, c2, c3, c4, c5, c6, c7])) = some y2 := hf 2 _ rfl
    have h3 : DataW.trod enc Try.prog W 0 (fun _ => true) true m 25 (List.take (Try.prog.cellsOf 25) (List.drop 3 [c0, c1, c2, c3, c4, c5, c6, c7])) = some y3 := hf 3 _ rfl
    have h4 : DataW.trod enc Try.prog W 0 (fun _ => true) true m 25 (List.take (Try.prog.cellsOf 25) (List.drop 4 [c0, c1, c2, c3, c4, c5, c6, c7])) = some y4 := hf 4 _ rfl
    have h5 : DataW.trod enc Try.prog W 0 (fun _ => true) true m 26 (List.take (Try.prog.cellsOf 26) (List.drop 5 [c0, c1, c2, c3, c4, c5, c6, c7])) = some y5 := hf 5 _ rfl
    have h6 : DataW.trod enc Try.prog W 0 (fun _ => true) true m 3 (List.take (Try.prog.cellsOf 3) (List.drop 6 [c0, c1, c2, c3, c4, c5, c6, c7])) = some y6 := hf 6 _ rfl
    have h7 : DataW.trod enc Try.prog W 0 (fun _ => true) true m 3 (List.take (Try.prog.cellsOf 3) (List.drop 7 [c0, c1, c2, c3, c4, c5, c6, c7])) = some y7 := hf 7 _ rfl
    rw [one5] at h0
    rw [one5] at h1
    rw [one9] at h2
    rw [one25] at h3
    rw [one25] at h4
    rw [one26] at h5
    rw [one3] at h6
    rw [one3] at h7
    obtain ⟨x0, e0, _, w0⟩ := DataW.trod_int Try.underlying5 h0
    obtain ⟨x1, e1, _, w1⟩ := DataW.trod_int Try.underlying5 h1
    obtain ⟨t2, e2, z2⟩ := text_of (c := c2) h2
    obtain ⟨l3, k3, z3⟩ := texts_of (c := c3) h3
    obtain ⟨l4, k4, z4⟩ := texts_of (c := c4) h4
    obtain ⟨l5, k5⟩ := truths_of (c := c5) h5
    obtain ⟨x6, e6, _, _⟩ := DataW.trod_int Try.underlying3 h6
    obtain ⟨x7, e7, _, _⟩ := DataW.trod_int Try.underlying3 h7
    obtain ⟨q0, hq0⟩ := u8_is x0 w0
    obtain ⟨q1, hq1⟩ := u8_is x1 w1
    have e0' : c0 = u8 q0 := by injection e0 with e _; rw [← hq0]; exact e
    have e1' : c1 = u8 q1 := by injection e1 with e _; rw [← hq1]; exact e
    have e6' : c6 = .int .i64 x6 := by injection e6 with e _
    have e7' : c7 = .int .i64 x7 := by injection e7 with e _
    subst e0' e1' e2 e6' e7'
    refine ⟨{ kind := q0, status := q1, text := t2, keys := l3, vals := l4, null := l5, n := x6, m := x7 }, c3, c4, c5, rfl, ⟨c3, c4, c5, rfl, k3, k4, k5⟩, ?_⟩
    refine ⟨fun t ht => ?_, fun t ht => ?_⟩
    · have := hW 3 _ _ rfl rfl _ (z3 t ht); omega
    · have := hW 4 _ _ rfl rfl _ (z4 t ht); omega
end
/-- v reads as a tell -/
def FitsT (W : World) (v : Value) : Prop := ∃ a : Tell, AR (fun b => b < W.heap.size) W v a ∧ Sz a
theorem openedT {H : Type} {enc : TypeId × Value → H} {W : World} {base : Nat} {v : Value} {d : DataW H} {p : List MemPlace} (hv : Value.okWide Try.prog W .any base 28 v)
    (h : DataW.Trod enc Try.prog W 0 (fun _ => true) true 28 v d p) (hz : (DataW.weights Try.prog 28 d).all (· ≤ reachBytes) = true) : FitsT W v := by
  obtain ⟨cs, rfl, hsz⟩ := okWide_struct Try.underlying28 hv
  obtain ⟨cs⟩ := cs
  obtain ⟨fuel, hf⟩ := h
  obtain ⟨a, kv, vv, nv, e, har, hs⟩ := one_tell (cs := cs) hf (fun k hk => of_decide_eq_true (List.all_eq_true.1 hz k hk))
  subst e
  exact ⟨a, har, hs⟩
/-- v is a list of tells -/
def FitsL (W : World) (v : Value) : Prop := ∃ l : List Tell, TL W v l ∧ ∀ t ∈ l, Sz t
theorem openedL {H : Type} {enc : TypeId × Value → H} {W : World} {base : Nat} {v : Value} {d : DataW H} {p : List MemPlace} (hv : Value.okWide Try.prog W .any base 34 v)
    (h : DataW.Trod enc Try.prog W 0 (fun _ => true) true 34 v d p) (hz : (DataW.weights Try.prog 34 d).all (· ≤ reachBytes) = true) : FitsL W v := by
  obtain ⟨a, ln, cp, rfl⟩ := okWide_slice Try.underlying34 hv
  obtain ⟨fuel, hf⟩ := h
  rcases slice_any (α := Tell) (m := 8) (Q := fun a cs => ∃ kv vv nv, cs = (tellV a kv vv nv).toList ∧ AR (fun b => b < W.heap.size) W (.agg (tellV a kv vv nv)) a ∧ Sz a) (N := 140737488351232) Try.underlying34 (by kernel_rfl) (fun ht hk => one_tell ht hk) hf (fun k hk => of_decide_eq_true (List.all_eq_true.1 hz k hk)) with e | ⟨l, ad, cap, e, hc, hm, h2⟩
  · rw [e]; exact ⟨[], ⟨none, 0, rfl, Nat.le_refl _, Nat.zero_le _, fun h => absurd rfl h⟩, fun t h => by cases h⟩
  · rw [e]
    refine ⟨l, ⟨_, cap, rfl, hc, hm, fun h0 => ?_⟩, fun t ht => ?_⟩
    · obtain ⟨bl, of, rfl⟩ := slice_at (by omega) h0 h2
      refine ⟨bl, of, rfl, ?_, fun k a ha => ?_⟩
      · obtain ⟨x, hx0⟩ : ∃ x, l[0]? = some x := ⟨l[0]'(by cases l; exact absurd rfl h0; simp), List.getElem?_eq_getElem _⟩
        obtain ⟨cs, ⟨kv, vv, nv, e1, _, _⟩, hl, hat⟩ := h2 0 x hx0
        have c0 := hat 0 (by omega)
        have := cell_lt (c0.trans (List.getElem?_eq_getElem (by omega)))
        simpa [Addr.add] using this
      · obtain ⟨cs, ⟨kv, vv, nv, e1, har, _⟩, hl, hat⟩ := h2 k a ha
        refine ⟨kv, vv, nv, fun i x hx => ?_, har⟩
        have hi : i < 8 := by have := (Array.getElem?_eq_some_iff.1 hx).1; simpa [tellV] using this
        have a0 := hat i hi
        rw [e1] at a0
        simp only [Addr.add_lit] at a0
        rw [a0]
        simpa using hx
    · obtain ⟨i, hi⟩ := List.mem_iff_getElem?.1 ht
      obtain ⟨cs, ⟨kv, vv, nv, _, _, q⟩, _⟩ := h2 i t hi
      exact q
/-- v is a message -/
def FitsM (W : World) (v : Value) : Prop := ∃ (k : UInt8) (b : ByteArray), v = .agg #[u8 k, .string b] ∧ b.size ≤ 140737488351232
theorem openedM {H : Type} {enc : TypeId × Value → H} {W : World} {base : Nat} {v : Value} {d : DataW H} {p : List MemPlace} (hv : Value.okWide Try.prog W .any base 23 v)
    (h : DataW.Trod enc Try.prog W 0 (fun _ => true) true 23 v d p) (hz : (DataW.weights Try.prog 23 d).all (· ≤ reachBytes) = true) : FitsM W v := by
  obtain ⟨v0, v1, y0, y1, n, rfl, rfl, _, h0, h1⟩ := Go.Joins.open_agg2 Try.underlying23 (by kernel_rfl) (by kernel_rfl) hv h
  obtain ⟨x, e0, _, w0⟩ := DataW.trod_int Try.underlying5 h0
  obtain ⟨b, e1, e2, _⟩ := DataW.trod_string Try.underlying9 h1
  injection e0 with e0; injection e1 with e1
  subst e0 e1
  obtain ⟨k, hk⟩ := u8_is x w0
  refine ⟨k, b, by rw [hk], ?_⟩
  have := List.all_eq_true.1 hz b.data.toList.length (by
    simp only [DataW.weights, Try.underlying23]
    rw [e2]
    simp [DataW.weights, DataW.weightsEach])
  have := of_decide_eq_true this
  rw [← Lib.size_eq] at this
  exact this
end Go.Proofs.Ytnjifbgjglniaaa.BK
