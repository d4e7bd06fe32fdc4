/- Keys, lists of keys, lists of operations among the arguments of layer 14's laws; short. No condition. -/
import Derived.Test.YtldpamlmnganmaaFlr
import Derived.Deep.Slices
import Derived.Deep.Fields
import Derived.SizedLaws
namespace Go.Proofs.Ytldpamlmnganmaa.FL
open Go.ChangeShapes Go.WideShapes Go.ChangeAt Go.RowKit Go.Maps Go.ChangeMaps Go.Deep
open Go.Proofs.Ytldpamlmnganmaa.SL
set_option maxRecDepth 100000
set_option linter.unusedVariables false
set_option linter.unusedSimpArgs false

theorem wf64 (x : Int) (h : (Lit.int .i64 x).wf = true) : -9223372036854775808 ≤ x ∧ x ≤ 9223372036854775807 := by
  simp [Lit.wf, IntKind.min, IntKind.max, IntKind.signed, IntKind.bits] at h
  omega
theorem spot_none {W : World} {ad : Addr} {x : Value} (h : W.cell? ad = some x) : ad.spot = none := by
  unfold World.cell? at h
  cases hs : ad.spot with
  | none => rfl
  | some q => rw [hs] at h; revert h; split <;> simp
theorem weightsAll_in {H : Type} {P : Program} {e : TypeId} : ∀ {l : List (DataW H)} {d : DataW H}, d ∈ l → ∀ n ∈ d.weights P e, n ∈ DataW.weightsAll P e l
  | [], _, h, _, _ => by cases h
  | x :: r, d, h, n, hn => by
    rcases List.mem_cons.1 h with rfl | h
    · simp [DataW.weightsAll, hn]
    · simp [DataW.weightsAll, weightsAll_in h n hn]
def kyB (k : Ky) : Prop := (-9223372036854775808 ≤ k.2.2.1 ∧ k.2.2.1 ≤ 9223372036854775807) ∧ k.1.size ≤ 140737488351232 ∧ k.2.1.size ≤ 140737488351232 ∧ k.2.2.2.size ≤ 140737488351232
def FitsK (W : World) (v : Value) : Prop := ∃ k : Ky, v = kyV k ∧ kyB k
theorem cellsO : Try.prog.cellsOf 32 = 6 := by kernel_rfl
section
variable {H : Type} {enc : TypeId × Value → H} {W : World}
theorem str_w {n : Nat} {c : Value} {x : DataW H × List MemPlace} (h : DataW.trod enc Try.prog W 0 (fun _ => true) true n 9 [c] = some x) : ∃ s : ByteArray, c = .string s ∧ s.size ∈ x.1.weights Try.prog 9 := by
  obtain ⟨s, e, d, _⟩ := DataW.trod_string Try.underlying9 h
  injection e with e _
  refine ⟨s, e, ?_⟩
  rw [d, Lib.size_eq]
  simp [DataW.weights]
theorem one_ky {n : Nat} {cs : List Value} {x : DataW H × List MemPlace} (ht : DataW.trod enc Try.prog W 0 (fun _ => true) true n 30 cs = some x) (hw : ∀ m ∈ x.1.weights Try.prog 30, m ≤ reachBytes) :
    ∃ k : Ky, cs = (kC k).toList ∧ kyB k := by
  obtain ⟨xs, m, _, hx, hl, hxl, hf⟩ := DataW.trod_struct Try.underlying30 ht
  rw [cellsK] at hl
  match cs, hl with
  | [c0, c1, c2, c3], _ =>
  match xs, hxl with
  | [y0, y1, y2, y3], _ =>
    have h0 : DataW.trod enc Try.prog W 0 (fun _ => true) true m 9 (List.take (Try.prog.cellsOf 9) (List.drop 0 [c0, c1, c2, c3])) = some y0 := hf 0 _ rfl
    have h1 : DataW.trod enc Try.prog W 0 (fun _ => true) true m 9 (List.take (Try.prog.cellsOf 9) (List.drop 1 [c0, c1, c2, c3])) = some y1 := hf 1 _ rfl
    have h2 : DataW.trod enc Try.prog W 0 (fun _ => true) true m 3 (List.take (Try.prog.cellsOf 3) (List.drop 2 [c0, c1, c2, c3])) = some y2 := hf 2 _ rfl
    have h3 : DataW.trod enc Try.prog W 0 (fun _ => true) true m 9 (List.take (Try.prog.cellsOf 9) (List.drop 3 [c0, c1, c2, c3])) = some y3 := hf 3 _ rfl
    have hW : ∀ (j : Nat) (t : TypeId) (D : DataW H), [9, 9, 3, 9][j]? = some t → [y0.1, y1.1, y2.1, y3.1][j]? = some D → ∀ q ∈ D.weights Try.prog t, q ≤ reachBytes := by
      intro j t D e1 e2 q hq
      refine hw q ?_
      rw [hx]
      simp only [DataW.weights, Try.underlying30]
      exact DataW.weights_mem_each e1 e2 q hq
    rw [cellsS] at h0 h1 h3
    rw [cellsI] at h2
    obtain ⟨x0, rfl, e0⟩ := str_w h0
    obtain ⟨x1, rfl, e1⟩ := str_w h1
    obtain ⟨x2, e2, _, w2⟩ := DataW.trod_int Try.underlying3 h2
    obtain ⟨x3, rfl, e3⟩ := str_w h3
    injection e2 with e2 _
    subst e2
    have r : reachBytes = 140737488351232 := rfl
    refine ⟨(x0, x1, x2, x3), rfl, wf64 _ w2, ?_, ?_, ?_⟩
    · exact hW 0 _ _ rfl rfl _ e0
    · exact hW 1 _ _ rfl rfl _ e1
    · exact hW 3 _ _ rfl rfl _ e3
theorem openedK {base : Nat} {v : Value} {d : DataW H} {p : List MemPlace} (hv : Value.okWide Try.prog W .any base 30 v)
    (h : DataW.Trod enc Try.prog W 0 (fun _ => true) true 30 v d p) (hz : (DataW.weights Try.prog 30 d).all (· ≤ reachBytes) = true) : FitsK W v := by
  obtain ⟨cs, rfl, hsz, _⟩ : ∃ cs, v = .agg cs ∧ cs.size = Try.prog.cellsOf 30 ∧ Row.okWide Try.prog W .any base 30 cs := by
    simpa [Value.okWide, Try.underlying30] using hv
  obtain ⟨fuel, hf⟩ := h
  obtain ⟨k, hk, hb⟩ := one_ky hf fun m hm => of_decide_eq_true (List.all_eq_true.1 hz m hm)
  refine ⟨k, ?_, hb⟩
  have : cs.toList = (kC k).toList := by simpa [Value.cells] using hk
  show Value.agg cs = Value.agg (kC k)
  rw [Array.toList_inj.1 this]
/-- an operation: its kind, its key, its client -/
abbrev Opc : Type := Int × Ky × Int
def opcC (o : Opc) : List Value := .int .i64 o.1 :: ((kC o.2.1).toList ++ [.int .i64 o.2.2])
def opcB (o : Opc) : Prop := (-9223372036854775808 ≤ o.1 ∧ o.1 ≤ 9223372036854775807) ∧ kyB o.2.1 ∧ (-9223372036854775808 ≤ o.2.2 ∧ o.2.2 ≤ 9223372036854775807)
theorem one_opc {n : Nat} {cs : List Value} {x : DataW H × List MemPlace} (ht : DataW.trod enc Try.prog W 0 (fun _ => true) true n 32 cs = some x) (hw : ∀ m ∈ x.1.weights Try.prog 32, m ≤ reachBytes) :
    ∃ o : Opc, cs = opcC o ∧ opcB o := by
  obtain ⟨xs, m, _, hx, hl, hxl, hf⟩ := DataW.trod_struct Try.underlying32 ht
  rw [cellsO] at hl
  match cs, hl with
  | [c0, c1, c2, c3, c4, c5], _ =>
  match xs, hxl with
  | [y0, y1, y2], _ =>
    have h0 : DataW.trod enc Try.prog W 0 (fun _ => true) true m 3 (List.take (Try.prog.cellsOf 3) (List.drop 0 [c0, c1, c2, c3, c4, c5])) = some y0 := hf 0 _ rfl
    have h1 : DataW.trod enc Try.prog W 0 (fun _ => true) true m 30 (List.take (Try.prog.cellsOf 30) (List.drop 1 [c0, c1, c2, c3, c4, c5])) = some y1 := hf 1 _ rfl
    have h2 : DataW.trod enc Try.prog W 0 (fun _ => true) true m 3 (List.take (Try.prog.cellsOf 3) (List.drop 5 [c0, c1, c2, c3, c4, c5])) = some y2 := hf 2 _ rfl
    have hW : ∀ (j : Nat) (t : TypeId) (D : DataW H), [3, 30, 3][j]? = some t → [y0.1, y1.1, y2.1][j]? = some D → ∀ q ∈ D.weights Try.prog t, q ≤ reachBytes := by
      intro j t D e1 e2 q hq
      refine hw q ?_
      rw [hx]
      simp only [DataW.weights, Try.underlying32]
      exact DataW.weights_mem_each e1 e2 q hq
    rw [cellsI] at h0 h2
    rw [cellsK] at h1
    obtain ⟨x0, e0, _, w0⟩ := DataW.trod_int Try.underlying3 h0
    obtain ⟨x1, e1, b1⟩ := one_ky h1 (hW 1 _ _ rfl rfl)
    obtain ⟨x2, e2, _, w2⟩ := DataW.trod_int Try.underlying3 h2
    injection e0 with e0 _
    injection e2 with e2 _
    subst e0 e2
    have e1 : [c1, c2, c3, c4] = (kC x1).toList := e1
    refine ⟨(x0, x1, x2), ?_, wf64 _ w0, b1, wf64 _ w2⟩
    show [_, c1, c2, c3, c4, _] = _ :: ((kC x1).toList ++ _)
    rw [← e1]; rfl
/-- v is a slice of operations that reads as l -/
def OpP (w : World) (v : Value) (l : List Opc) : Prop :=
  (∃ a cap, l = [] ∧ v = .slice a 0 cap) ∨ ∃ g off cap, v = .slice (some ⟨g, off, none⟩) l.length cap ∧ l.length ≤ cap ∧ ∀ (i : Nat) (o : Opc), l[i]? = some o → opcB o ∧ ∀ j u, (opcC o)[j]? = some u → w.cell? ⟨g, off + i * 6 + j, none⟩ = some u
def FitsP (W : World) (v : Value) : Prop := ∃ l, OpP W v l
theorem openedP {base : Nat} {v : Value} {d : DataW H} {p : List MemPlace} (hv : Value.okWide Try.prog W .any base 22 v)
    (h : DataW.Trod enc Try.prog W 0 (fun _ => true) true 22 v d p) (hz : (DataW.weights Try.prog 22 d).all (· ≤ reachBytes) = true) : FitsP W v := by
  obtain ⟨a, ln, cp, rfl⟩ := okWide_slice Try.underlying22 hv
  obtain ⟨fuel, hf⟩ := h
  have key : Value.slice a ln cp = .slice none 0 0 ∨ ∃ (l : List Opc) (ad : Addr) (cap : Nat), Value.slice a ln cp = .slice (some ad) l.length cap ∧ l.length ≤ cap ∧ ∀ (i : Nat) (o : Opc), l[i]? = some o → ∃ cs, (cs = opcC o ∧ opcB o) ∧ cs.length = 6 ∧ ∀ j, j < 6 → W.cell? ((ad.add (i * 6)).add j) = cs[j]? := by
    rcases open_slice Try.underlying22 hf with ⟨e, _⟩ | ⟨ad, len, cap, k, n, D, Pl, hcs, hb, hl, hm, hmm, hx, hi⟩
    · injection e with e _
      exact .inl e
    · injection hcs with hcs _
      rw [cellsO] at hi
      have hlm : len ≤ k := by rw [hmm]; simp; exact hl
      have key : ∀ j, j ≤ len → ∃ l : List Opc, l.length = j ∧ ∀ (i : Nat) (a : Opc), l[i]? = some a → ∃ cs, (cs = opcC a ∧ opcB a) ∧ cs.length = 6 ∧ ∀ j, j < 6 → W.cell? ((ad.add (i * 6)).add j) = cs[j]? := by
        intro j
        induction j with
        | zero => intro _; exact ⟨[], rfl, fun i x hi => by simp at hi⟩
        | succ j ih =>
          intro hj
          obtain ⟨l, h1, h2⟩ := ih (by omega)
          obtain ⟨cs', hc, ht⟩ := hi j (by omega)
          obtain ⟨_, hcl, hat⟩ := World.cells?_some hc
          obtain ⟨a, hq⟩ := one_opc ht (fun q hq => of_decide_eq_true (List.all_eq_true.1 hz q (by
            have : d = _ := congrArg Prod.fst hx
            rw [this]
            simp only [DataW.weights, Try.underlying22]
            exact List.mem_cons_of_mem _ (List.mem_append_left _ (weightsAll_in (List.mem_map.2 ⟨j, List.mem_range.2 (by omega), rfl⟩) _ hq)))))
          refine ⟨l ++ [a], by simp [h1], fun i x hx' => ?_⟩
          by_cases hij : i < l.length
          · rw [List.getElem?_append_left hij] at hx'
            exact h2 i x hx'
          · have hlt := (List.getElem?_eq_some_iff.1 hx').1
            have hie : i = j := by simp at hlt; omega
            subst hie
            rw [List.getElem?_append_right (by omega), h1, Nat.sub_self] at hx'
            simp at hx'
            subst hx'
            exact ⟨cs', hq, hcl, fun q hq2 => hat q hq2⟩
      obtain ⟨l, h1, h2⟩ := key len (Nat.le_refl _)
      exact .inr ⟨l, ad, cap, by rw [hcs, h1], by omega, h2⟩
  rcases key with e | ⟨l, ad, cap, e, hc, h2⟩
  · rw [e]; exact ⟨[], .inl ⟨_, _, rfl, rfl⟩⟩
  · rw [e]
    refine ⟨l, ?_⟩
    by_cases h0 : l = []
    · subst h0; exact .inl ⟨_, _, rfl, rfl⟩
    · obtain ⟨x, hx0⟩ : ∃ x, l[0]? = some x := ⟨l[0]'(by cases l; exact absurd rfl h0; simp), List.getElem?_eq_getElem _⟩
      obtain ⟨cs, ⟨rfl, _⟩, _, hat⟩ := h2 0 x hx0
      have c0 := hat 0 (by omega)
      have e0 : (ad.add (0 * 6)).add 0 = ad := by simp [Addr.add]
      rw [e0] at c0
      have hsp := spot_none (x := .int .i64 x.1) c0
      obtain ⟨bl, of, sp⟩ := ad
      simp only at hsp
      subst hsp
      refine .inr ⟨bl, of, cap, rfl, hc, fun i y hy => ?_⟩
      obtain ⟨cs, ⟨rfl, hb⟩, hl7, hat⟩ := h2 i y hy
      refine ⟨hb, fun j u hu => ?_⟩
      have hj : j < 6 := by have := (List.getElem?_eq_some_iff.1 hu).1; omega
      have := hat j hj
      rw [hu] at this
      simpa only [Addr.add_lit] using this
def kyCs (k : Ky) : List Value := (kC k).toList
/-- v is a slice of operations that reads as l -/
def KeP (w : World) (v : Value) (l : List Ky) : Prop :=
  (∃ a cap, l = [] ∧ v = .slice a 0 cap) ∨ ∃ g off cap, v = .slice (some ⟨g, off, none⟩) l.length cap ∧ l.length ≤ cap ∧ ∀ (i : Nat) (o : Ky), l[i]? = some o → kyB o ∧ ∀ j u, (kyCs o)[j]? = some u → w.cell? ⟨g, off + i * 4 + j, none⟩ = some u
def FitsKs (W : World) (v : Value) : Prop := ∃ l, KeP W v l
theorem openedKs {base : Nat} {v : Value} {d : DataW H} {p : List MemPlace} (hv : Value.okWide Try.prog W .any base 57 v)
    (h : DataW.Trod enc Try.prog W 0 (fun _ => true) true 57 v d p) (hz : (DataW.weights Try.prog 57 d).all (· ≤ reachBytes) = true) : FitsKs W v := by
  obtain ⟨a, ln, cp, rfl⟩ := okWide_slice Try.underlying57 hv
  obtain ⟨fuel, hf⟩ := h
  have key : Value.slice a ln cp = .slice none 0 0 ∨ ∃ (l : List Ky) (ad : Addr) (cap : Nat), Value.slice a ln cp = .slice (some ad) l.length cap ∧ l.length ≤ cap ∧ ∀ (i : Nat) (o : Ky), l[i]? = some o → ∃ cs, (cs = kyCs o ∧ kyB o) ∧ cs.length = 4 ∧ ∀ j, j < 4 → W.cell? ((ad.add (i * 4)).add j) = cs[j]? := by
    rcases open_slice Try.underlying57 hf with ⟨e, _⟩ | ⟨ad, len, cap, k, n, D, Pl, hcs, hb, hl, hm, hmm, hx, hi⟩
    · injection e with e _
      exact .inl e
    · injection hcs with hcs _
      rw [cellsK] at hi
      have hlm : len ≤ k := by rw [hmm]; simp; exact hl
      have key : ∀ j, j ≤ len → ∃ l : List Ky, l.length = j ∧ ∀ (i : Nat) (a : Ky), l[i]? = some a → ∃ cs, (cs = kyCs a ∧ kyB a) ∧ cs.length = 4 ∧ ∀ j, j < 4 → W.cell? ((ad.add (i * 4)).add j) = cs[j]? := by
        intro j
        induction j with
        | zero => intro _; exact ⟨[], rfl, fun i x hi => by simp at hi⟩
        | succ j ih =>
          intro hj
          obtain ⟨l, h1, h2⟩ := ih (by omega)
          obtain ⟨cs', hc, ht⟩ := hi j (by omega)
          obtain ⟨_, hcl, hat⟩ := World.cells?_some hc
          obtain ⟨a, hq⟩ := one_ky ht (fun q hq => of_decide_eq_true (List.all_eq_true.1 hz q (by
            have : d = _ := congrArg Prod.fst hx
            rw [this]
            simp only [DataW.weights, Try.underlying57]
            exact List.mem_cons_of_mem _ (List.mem_append_left _ (weightsAll_in (List.mem_map.2 ⟨j, List.mem_range.2 (by omega), rfl⟩) _ hq)))))
          refine ⟨l ++ [a], by simp [h1], fun i x hx' => ?_⟩
          by_cases hij : i < l.length
          · rw [List.getElem?_append_left hij] at hx'
            exact h2 i x hx'
          · have hlt := (List.getElem?_eq_some_iff.1 hx').1
            have hie : i = j := by simp at hlt; omega
            subst hie
            rw [List.getElem?_append_right (by omega), h1, Nat.sub_self] at hx'
            simp at hx'
            subst hx'
            exact ⟨cs', hq, hcl, fun q hq2 => hat q hq2⟩
      obtain ⟨l, h1, h2⟩ := key len (Nat.le_refl _)
      exact .inr ⟨l, ad, cap, by rw [hcs, h1], by omega, h2⟩
  rcases key with e | ⟨l, ad, cap, e, hc, h2⟩
  · rw [e]; exact ⟨[], .inl ⟨_, _, rfl, rfl⟩⟩
  · rw [e]
    refine ⟨l, ?_⟩
    by_cases h0 : l = []
    · subst h0; exact .inl ⟨_, _, rfl, rfl⟩
    · obtain ⟨x, hx0⟩ : ∃ x, l[0]? = some x := ⟨l[0]'(by cases l; exact absurd rfl h0; simp), List.getElem?_eq_getElem _⟩
      obtain ⟨cs, ⟨rfl, _⟩, _, hat⟩ := h2 0 x hx0
      have c0 := hat 0 (by omega)
      have e0 : (ad.add (0 * 4)).add 0 = ad := by simp [Addr.add]
      rw [e0] at c0
      have hsp := spot_none (x := .string x.1) c0
      obtain ⟨bl, of, sp⟩ := ad
      simp only at hsp
      subst hsp
      refine .inr ⟨bl, of, cap, rfl, hc, fun i y hy => ?_⟩
      obtain ⟨cs, ⟨rfl, hb⟩, hl7, hat⟩ := h2 i y hy
      refine ⟨hb, fun j u hu => ?_⟩
      have hj : j < 4 := by have := (List.getElem?_eq_some_iff.1 hu).1; omega
      have := hat j hj
      rw [hu] at this
      simpa only [Addr.add_lit] using this
end
theorem OpP.below {w w' : World} {v : Value} {l : List Opc} (h : OpP w v l) (hb : Below w.heap.size w w') : OpP w' v l := by
  rcases h with h | ⟨g, off, cap, e, hc, hx⟩
  · exact .inl h
  · refine .inr ⟨g, off, cap, e, hc, fun i o hi => ⟨(hx i o hi).1, fun j u hu => ?_⟩⟩
    have := (hx i o hi).2 j u hu
    exact (hb.cell (p := ⟨g, off + i * 6 + j, none⟩) (World.block_lt_of_cell? _ _ this)).trans this
theorem OpP.belowB {B : Nat} {w w' : World} {v : Value} {l : List Opc} (h : OpP w v l) (hB : w.heap.size ≤ B) (hb : Below B w w') : OpP w' v l := h.below (hb.mono hB)
theorem OpP.form {w : World} {v : Value} {l : List Opc} (h : OpP w v l) : ∃ a cap, v = .slice a l.length cap := by
  rcases h with ⟨a, cap, rfl, rfl⟩ | ⟨g, off, cap, rfl, _⟩
  · exact ⟨_, _, rfl⟩
  · exact ⟨_, _, rfl⟩
theorem OpP.inv {w : World} {v : Value} {l : List Opc} (h : OpP w v l) (hp : 0 < l.length) : ∃ g off cap, v = .slice (some ⟨g, off, none⟩) l.length cap ∧ l.length ≤ cap ∧ ∀ (i : Nat) (o : Opc), l[i]? = some o → opcB o ∧ ∀ j u, (opcC o)[j]? = some u → w.cell? ⟨g, off + i * 6 + j, none⟩ = some u := by
  rcases h with ⟨_, _, rfl, _⟩ | h
  · simp at hp
  · exact h
theorem KeP.below {w w' : World} {v : Value} {l : List Ky} (h : KeP w v l) (hb : Below w.heap.size w w') : KeP w' v l := by
  rcases h with h | ⟨g, off, cap, e, hc, hx⟩
  · exact .inl h
  · refine .inr ⟨g, off, cap, e, hc, fun i o hi => ⟨(hx i o hi).1, fun j u hu => ?_⟩⟩
    have := (hx i o hi).2 j u hu
    exact (hb.cell (p := ⟨g, off + i * 4 + j, none⟩) (World.block_lt_of_cell? _ _ this)).trans this
theorem KeP.form {w : World} {v : Value} {l : List Ky} (h : KeP w v l) : ∃ a cap, v = .slice a l.length cap := by
  rcases h with ⟨a, cap, rfl, rfl⟩ | ⟨g, off, cap, rfl, _⟩
  · exact ⟨_, _, rfl⟩
  · exact ⟨_, _, rfl⟩
theorem KeP.inv {w : World} {v : Value} {l : List Ky} (h : KeP w v l) (hp : 0 < l.length) : ∃ g off cap, v = .slice (some ⟨g, off, none⟩) l.length cap ∧ l.length ≤ cap ∧ ∀ (i : Nat) (o : Ky), l[i]? = some o → kyB o ∧ ∀ j u, (kyCs o)[j]? = some u → w.cell? ⟨g, off + i * 4 + j, none⟩ = some u := by
  rcases h with ⟨_, _, rfl, _⟩ | h
  · simp at hp
  · exact h
/-- is a key short? -/
def shK (k : Ky) : Bool := decide (k.1.size + k.2.1.size + k.2.2.2.size ≤ 300)
theorem kyB.fit {k : Ky} (h : kyB k) (hs : shK k = true) : FitK k := by
  have h1 := of_decide_eq_true hs
  exact ⟨by omega, by omega, by omega, h.1⟩
set_option maxHeartbeats 2000000 in
theorem short_any (k : Ky) (hk : kyB k) (w : World) :
    Calls Try.prog 9 #[kyV k] w (RdP (.bool (shK k)) w) := by
  obtain ⟨db, ro, fm, no⟩ := k
  obtain ⟨_, h1, h2, h3⟩ := hk
  simp only at h1 h2 h3
  obtain ⟨R, hR⟩ : ∃ R, shK (db, ro, fm, no) = R := ⟨_, rfl⟩
  have HR : R = decide (db.size + ro.size + no.size ≤ 300) := by rw [← hR]; rfl
  rw [hR]
  obtain ⟨a, ha⟩ : ∃ a, db.size = a := ⟨_, rfl⟩
  obtain ⟨b, hb⟩ : ∃ a, ro.size = a := ⟨_, rfl⟩
  obtain ⟨c, hc⟩ : ∃ a, no.size = a := ⟨_, rfl⟩
  have ea := Lib.hid ha
  rw [ha, hb, hc] at HR
  have w1 : IntKind.i64.wrap ((db.size : Int) + (ro.size : Int)) = (db.size : Int) + (ro.size : Int) := IntWalk.i64_in _ (by omega)
  have w2 : IntKind.i64.wrap ((db.size : Int) + (ro.size : Int) + (no.size : Int)) = (db.size : Int) + (ro.size : Int) + (no.size : Int) := IntWalk.i64_in _ (by omega)
  have hd : decide ((db.size : Int) + (ro.size : Int) + (no.size : Int) ≤ 300) = R := by
    rw [HR, Bool.eq_iff_iff, decide_eq_true_iff, decide_eq_true_iff]; omega
  clear h1 h2 h3 hR HR ha hb hc ea
  go_enter Try.func9, Try.ntmps9
  go_wp2
  go_ret
  refine ⟨?_, (Below.refl _ _).alloc (Nat.le_refl _) _⟩
  rw [← hd]; rfl
def eqK (a b : Ky) : Bool := (a.1.toList == b.1.toList) && (a.2.1.toList == b.2.1.toList) && (a.2.2.1 == b.2.2.1) && (a.2.2.2.toList == b.2.2.2.toList)
theorem eqK_iff {a b : Ky} : eqK a b = true ↔ a = b := by
  unfold eqK
  rw [tl_dec, tl_dec, tl_dec]
  simp only [Bool.and_eq_true, decide_eq_true_iff, beq_iff_eq]
  obtain ⟨a1, a2, a3, a4⟩ := a
  obtain ⟨b1, b2, b3, b4⟩ := b
  simp only [Prod.mk.injEq]
  exact ⟨fun h => ⟨h.1.1.1, h.1.1.2, h.1.2, h.2⟩, fun h => ⟨⟨⟨h.1, h.2.1⟩, h.2.2.1⟩, h.2.2.2⟩⟩
theorem eql_ky (a b : Ky) (w : World) : (binOp .eql 30 (kyV a) (kyV b)).run Try.prog w = .ok (.bool (eqK a b)) w := by
  obtain ⟨a1, a2, a3, a4⟩ := a
  obtain ⟨b1, b2, b3, b4⟩ := b
  unfold eqK
  cases h1 : (a1.toList == b1.toList) <;> cases h2 : (a2.toList == b2.toList) <;> cases h3 : (a3 == b3) <;> cases h4 : (a4.toList == b4.toList) <;> go_simp
theorem neq_ky (a b : Ky) (w : World) : (binOp .neq 30 (kyV a) (kyV b)).run Try.prog w = .ok (.bool (!eqK a b)) w := by
  obtain ⟨a1, a2, a3, a4⟩ := a
  obtain ⟨b1, b2, b3, b4⟩ := b
  unfold eqK
  cases h1 : (a1.toList == b1.toList) <;> cases h2 : (a2.toList == b2.toList) <;> cases h3 : (a3 == b3) <;> cases h4 : (a4.toList == b4.toList) <;> go_simp
end Go.Proofs.Ytldpamlmnganmaa.FL
