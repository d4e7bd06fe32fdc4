/- Asks, lists of operations, lists of small numbers among the arguments of layer 19's laws. No condition. -/
import Derived.Test.YtpnjjllkbnmakaaDoorSyf
import Derived.Deep.Slices
import Derived.Deep.Fields
import Derived.SizedLaws
namespace Go.Proofs.YtpnjjllkbnmakaaDoor.SE
open Go.ChangeShapes Go.WideShapes Go.ChangeAt Go.RowKit
open Go.Deep
open Go.Proofs.YtpnjjllkbnmakaaDoor.SL
set_option maxRecDepth 100000
set_option linter.unusedVariables false
set_option linter.unusedSimpArgs false

theorem wf8 (x : Int) (h : (Lit.int .u8 x).wf = true) : 0 ≤ x ∧ x ≤ 255 := by
  simp [Lit.wf, IntKind.min, IntKind.max, IntKind.signed, IntKind.bits] at h
  omega
theorem weightsAll_in {H : Type} {P : Program} {e : TypeId} : ∀ {l : List (DataW H)} {d : DataW H}, d ∈ l → ∀ n ∈ d.weights P e, n ∈ DataW.weightsAll P e l
  | [], _, h, _, _ => by cases h
  | x :: r, d, h, n, hn => by
    rcases List.mem_cons.1 h with rfl | h
    · simp [DataW.weightsAll, hn]
    · simp [DataW.weightsAll, weightsAll_in h n hn]
section
variable {H : Type} {enc : TypeId × Value → H} {W : World}
/-- a slice, element by element -/
theorem slice_any {α : Type} {ts te : TypeId} {m : Nat} {Q : α → List Value → Prop} {N : Nat} (hu : Tryd.prog.underlying ts = some (.slice te)) (hC : Tryd.prog.cellsOf te = m)
    (one : ∀ {n : Nat} {cs : List Value} {x : DataW H × List MemPlace}, DataW.trod enc Tryd.prog W 0 (fun _ => true) true n te cs = some x → (∀ k ∈ x.1.weights Tryd.prog te, k ≤ N) → ∃ a : α, Q a cs)
    {fuel : Nat} {c : Value} {x : DataW H × List MemPlace} (h : DataW.trod enc Tryd.prog W 0 (fun _ => true) true fuel ts [c] = some x) (hN : ∀ k ∈ x.1.weights Tryd.prog ts, k ≤ N) :
    c = .slice none 0 0 ∨ ∃ (l : List α) (ad : Addr) (cap : Nat), c = .slice (some ad) l.length cap ∧ l.length ≤ cap ∧ cap ≤ maxLen ∧ ∀ (i : Nat) (a : α), l[i]? = some a → ∃ cs, Q a cs ∧ cs.length = m ∧ ∀ j, j < m → W.cell? ((ad.add (i * m)).add j) = cs[j]? := by
  rcases open_slice hu h with ⟨e, _⟩ | ⟨ad, len, cap, k, n, D, Pl, hcs, hb, hl, hm, hmm, hx, hi⟩
  · injection e with e _
    exact .inl e
  · injection hcs with hcs _
    subst hcs
    rw [hC] at hi
    have hlm : len ≤ k := by rw [hmm]; simp; exact hl
    have key : ∀ j, j ≤ len → ∃ l : List α, l.length = j ∧ ∀ (i : Nat) (a : α), l[i]? = some a → ∃ cs, Q a cs ∧ cs.length = m ∧ ∀ j, j < m → W.cell? ((ad.add (i * m)).add j) = cs[j]? := by
      intro j
      induction j with
      | zero => intro _; exact ⟨[], rfl, fun i x hi => by simp at hi⟩
      | succ j ih =>
        intro hj
        obtain ⟨l, h1, h2⟩ := ih (by omega)
        obtain ⟨cs', hc, ht⟩ := hi j (by omega)
        obtain ⟨_, hcl, hat⟩ := World.cells?_some hc
        obtain ⟨a, hq⟩ := one ht (fun k hk => hN k (by
          rw [hx]
          simp only [DataW.weights, hu]
          exact List.mem_cons_of_mem _ (List.mem_append_left _ (weightsAll_in (List.mem_map.2 ⟨j, List.mem_range.2 (by omega), rfl⟩) _ hk))))
        refine ⟨l ++ [a], by simp [h1], fun i x hx' => ?_⟩
        by_cases hij : i < l.length
        · rw [List.getElem?_append_left hij] at hx'
          exact h2 i x hx'
        · have hlt := (List.getElem?_eq_some_iff.1 hx').1
          have hie : i = j := by simp at hlt; omega
          subst hie
          rw [List.getElem?_append_right (by omega), h1, Nat.sub_self] at hx'
          simp at hx'
          subst hx'
          exact ⟨cs', hq, hcl, fun q hq2 => hat q hq2⟩
    obtain ⟨l, h1, h2⟩ := key len (Nat.le_refl _)
    exact .inr ⟨l, ad, cap, by rw [h1], by omega, hm, h2⟩
/-- a slice's block -/
theorem slice_at {α : Type} {m : Nat} {Q : α → List Value → Prop} {l : List α} {ad : Addr} (hp : 0 < m) (h0 : l ≠ []) (h2 : ∀ (i : Nat) (a : α), l[i]? = some a → ∃ cs, Q a cs ∧ cs.length = m ∧ ∀ j, j < m → W.cell? ((ad.add (i * m)).add j) = cs[j]?) : ∃ g off, ad = ⟨g, off, none⟩ := by
  obtain ⟨x, hx0⟩ : ∃ x, l[0]? = some x := ⟨l[0]'(by cases l; exact absurd rfl h0; simp), List.getElem?_eq_getElem _⟩
  obtain ⟨cs, _, hl, hat⟩ := h2 0 x hx0
  have c0 := hat 0 hp
  have e0 : (ad.add (0 * m)).add 0 = ad := by simp [Addr.add]
  rw [e0] at c0
  have hsp := spot_none (c0.trans (List.getElem?_eq_getElem (by omega)))
  obtain ⟨bl, of, sp⟩ := ad
  simp only at hsp
  subst hsp
  exact ⟨bl, of, rfl⟩
theorem texts_of {N fuel : Nat} {c : Value} {x : DataW H × List MemPlace} (h : DataW.trod enc Tryd.prog W 0 (fun _ => true) true fuel 28 [c] = some x) (hN : ∀ k ∈ x.1.weights Tryd.prog 28, k ≤ N) :
    ∃ l : List Tx, TS W c l ∧ l.length ≤ maxLen ∧ ∀ t ∈ l, t.size ≤ N := by
  rcases slice_any (α := ByteArray) (m := 1) (Q := fun x cs => cs[0]? = some (.string x) ∧ x.size ≤ N) Tryd.underlying28 (by kernel_rfl) (fun ht hk => by
    obtain ⟨x, e, d, _⟩ := DataW.trod_string Tryd.underlying9 ht
    refine ⟨x, by rw [e]; rfl, ?_⟩
    rw [Lib.size_eq]
    exact hk _ (by rw [d]; simp [DataW.weights])) h hN with e | ⟨l, ad, cap, e, hc, hm, h2⟩
  · rw [e]; exact ⟨[], .inl ⟨_, _, rfl, rfl⟩, Nat.zero_le _, fun t h => (by cases h)⟩
  · rw [e]
    refine ⟨l, ?_, Nat.le_trans hc hm, fun t ht => ?_⟩
    · by_cases h0 : l = []
      · subst h0; exact .inl ⟨_, _, rfl, rfl⟩
      · obtain ⟨bl, of, rfl⟩ := slice_at (by omega) h0 h2
        refine .inr ⟨bl, of, cap, rfl, hc, fun i y hy => ?_⟩
        obtain ⟨cs, ⟨q1, _⟩, _, hat⟩ := h2 i y hy
        have a0 := hat 0 (by omega)
        rw [q1] at a0
        simp only [Addr.add_lit, Nat.add_zero, Nat.mul_one] at a0
        exact a0
    · obtain ⟨i, hi⟩ := List.mem_iff_getElem?.1 ht
      obtain ⟨cs, ⟨_, q2⟩, _⟩ := h2 i t hi
      exact q2
theorem slice_of {fuel : Nat} {ts te : TypeId} {c : Value} {x : DataW H × List MemPlace} (hu : Tryd.prog.underlying ts = some (.slice te)) (h : DataW.trod enc Tryd.prog W 0 (fun _ => true) true fuel ts [c] = some x) : IsSl c := by
  rcases open_slice hu h with ⟨e, _⟩ | ⟨ad, len, cap, k, n, D, Pl, hcs, _⟩
  · injection e with e _; exact ⟨_, _, _, e⟩
  · injection hcs with e _; exact ⟨_, _, _, e⟩
/-- an ask's other parts -/
structure Re where
  n : Tx
  po : Tx
  sq : Tx
  kv : Value
  vv : Value
  av : Value
  nv : Value
  fv : Value
  m : Int
  wh : Int
  pid : Int
  sec : Int
def askC (a : Ak) (r : Re) : List Value := [.int .u8 a.k, .string r.n, .string r.po, .string r.sq, r.kv, r.vv, r.av, r.nv, r.fv, nV r.m, .int .u8 r.wh, .bool a.c, nV r.pid, nV r.sec]
def askV (a : Ak) (r : Re) : Value := .agg (askC a r).toArray
/-- what an ask among the arguments is -/
def AkB (W : World) (a : Ak) (r : Re) : Prop := TS W r.kv a.ks ∧ TS W r.vv a.vs ∧ (∀ t ∈ a.vs, t.size ≤ 140737488351232) ∧ (IsSl r.av ∧ IsSl r.nv ∧ IsSl r.fv) ∧ a.ks.length ≤ 9223372036854775807 ∧ a.vs.length ≤ 9223372036854775807
theorem AkB.akr {W w : World} {a : Ak} {r : Re} (h : AkB W a r) (hb : Below W.heap.size W w) {z : Nat} (hz : W.heap.size ≤ z) : AkR z w (askV a r) a :=
  ⟨_, _, _, _, _, _, _, _, _, _, _, _, rfl, (TQ.of_ts h.1 z hz).below hb, (TQ.of_ts h.2.1 z hz).below hb, h.2.2.1, h.2.2.2.1⟩
set_option maxHeartbeats 1000000 in
theorem one_ask {n : Nat} {cs : List Value} {x : DataW H × List MemPlace} (ht : DataW.trod enc Tryd.prog W 0 (fun _ => true) true n 32 cs = some x) (hN : ∀ k ∈ x.1.weights Tryd.prog 32, k ≤ 140737488351232) :
    ∃ (a : Ak) (r : Re), cs = askC a r ∧ AkB W a r := by
  obtain ⟨xs, m, _, hx, hl, hxl, hf⟩ := DataW.trod_struct Tryd.underlying32 ht
  rw [show Tryd.prog.cellsOf 32 = 14 by kernel_rfl] at hl
  match cs, hl with
  | [c0, c1, c2, c3, c4, c5, c6, c7, c8, c9, c10, c11, c12, c13], _ =>
  match xs, hxl with
  | [y0, y1, y2, y3, y4, y5, y6, y7, y8, y9, y10, y11, y12, y13], _ =>
    have hW : ∀ (j : Nat) (t : TypeId) (D : DataW H), [5, 9, 9, 9, 28, 28, 28, 29, 30, 3, 5, 4, 3, 3][j]? = some t → [y0.1, y1.1, y2.1, y3.1, y4.1, y5.1, y6.1, y7.1, y8.1, y9.1, y10.1, y11.1, y12.1, y13.1][j]? = some D → ∀ k ∈ D.weights Tryd.prog t, k ≤ 140737488351232 := by
      intro j t D h1 h2 k hk
      refine hN k ?_
      have e1 := congrArg Prod.fst hx
      rw [e1]
      simp only [DataW.weights, Tryd.underlying32]
      exact DataW.weights_mem_each h1 h2 k hk
    have h0 : DataW.trod enc Tryd.prog W 0 (fun _ => true) true m 5 (List.take (Tryd.prog.cellsOf 5) (List.drop 0 [c0, c1, c2, c3, c4, c5, c6, c7, c8, c9, c10, c11, c12, c13])) = some y0 := hf 0 _ rfl
    have h1 : DataW.trod enc Tryd.prog W 0 (fun _ => true) true m 9 (List.take (Tryd.prog.cellsOf 9) (List.drop 1 [c0, c1, c2, c3, c4, c5, c6, c7, c8, c9, c10, c11, c12, c13])) = some y1 := hf 1 _ rfl
    have h2 : DataW.trod enc Tryd.prog W 0 (fun _ => true) true m 9 (List.take (Tryd.prog.cellsOf 9) (List.drop 2 [c0, c1, c2, c3, c4, c5, c6, c7, c8, c9, c10, c11, c12, c13])) = some y2 := hf 2 _ rfl
    have h3 : DataW.trod enc Tryd.prog W 0 (fun _ => true) true m 9 (List.take (Tryd.prog.cellsOf 9) (List.drop 3 [c0, c1, c2, c3, c4, c5, c6, c7, c8, c9, c10, c11, c12, c13])) = some y3 := hf 3 _ rfl
    have h4 : DataW.trod enc Tryd.prog W 0 (fun _ => true) true m 28 (List.take (Tryd.prog.cellsOf 28) (List.drop 4 [c0, c1, c2, c3, c4, c5, c6, c7, c8, c9, c10, c11, c12, c13])) = some y4 := hf 4 _ rfl
    have h5 : DataW.trod enc Tryd.prog W 0 (fun _ => true) true m 28 (List.take (Tryd.prog.cellsOf 28) (List.drop 5 [c0, c1, c2, c3, c4, c5, c6, c7, c8, c9, c10, c11, c12, c13])) = some y5 := hf 5 _ rfl
    have h6 : DataW.trod enc Tryd.prog W 0 (fun _ => true) true m 28 (List.take (Tryd.prog.cellsOf 28) (List.drop 6 [c0, c1, c2, c3, c4, c5, c6, c7, c8, c9, c10, c11, c12, c13])) = some y6 := hf 6 _ rfl
    have h7 : DataW.trod enc Tryd.prog W 0 (fun _ => true) true m 29 (List.take (Tryd.prog.cellsOf 29) (List.drop 7 [c0, c1, c2, c3, c4, c5, c6, c7, c8, c9, c10, c11, c12, c13])) = some y7 := hf 7 _ rfl
    have h8 : DataW.trod enc Tryd.prog W 0 (fun _ => true) true m 30 (List.take (Tryd.prog.cellsOf 30) (List.drop 8 [c0, c1, c2, c3, c4, c5, c6, c7, c8, c9, c10, c11, c12, c13])) = some y8 := hf 8 _ rfl
    have h9 : DataW.trod enc Tryd.prog W 0 (fun _ => true) true m 3 (List.take (Tryd.prog.cellsOf 3) (List.drop 9 [c0, c1, c2, c3, c4, c5, c6, c7, c8, c9, c10, c11, c12, c13])) = some y9 := hf 9 _ rfl
    have h10 : DataW.trod enc Tryd.prog W 0 (fun _ => true) true m 5 (List.take (Tryd.prog.cellsOf 5) (List.drop 10 [c0, c1, c2, c3, c4, c5, c6, c7, c8, c9, c10, c11, c12, c13])) = some y10 := hf 10 _ rfl
    have h11 : DataW.trod enc Tryd.prog W 0 (fun _ => true) true m 4 (List.take (Tryd.prog.cellsOf 4) (List.drop 11 [c0, c1, c2, c3, c4, c5, c6, c7, c8, c9, c10, c11, c12, c13])) = some y11 := hf 11 _ rfl
    have h12 : DataW.trod enc Tryd.prog W 0 (fun _ => true) true m 3 (List.take (Tryd.prog.cellsOf 3) (List.drop 12 [c0, c1, c2, c3, c4, c5, c6, c7, c8, c9, c10, c11, c12, c13])) = some y12 := hf 12 _ rfl
    have h13 : DataW.trod enc Tryd.prog W 0 (fun _ => true) true m 3 (List.take (Tryd.prog.cellsOf 3) (List.drop 13 [c0, c1, c2, c3, c4, c5, c6, c7, c8, c9, c10, c11, c12, c13])) = some y13 := hf 13 _ rfl
    rw [show Tryd.prog.cellsOf 5 = 1 by kernel_rfl] at h0 h10
    rw [show Tryd.prog.cellsOf 9 = 1 by kernel_rfl] at h1 h2 h3
    rw [show Tryd.prog.cellsOf 28 = 1 by kernel_rfl] at h4 h5 h6
    rw [show Tryd.prog.cellsOf 29 = 1 by kernel_rfl] at h7
    rw [show Tryd.prog.cellsOf 30 = 1 by kernel_rfl] at h8
    rw [show Tryd.prog.cellsOf 3 = 1 by kernel_rfl] at h9 h12 h13
    rw [show Tryd.prog.cellsOf 4 = 1 by kernel_rfl] at h11
    clear hf ht
    obtain ⟨x0, e0, _, _⟩ := DataW.trod_int Tryd.underlying5 h0
    injection e0 with e0 _
    obtain ⟨x1, e1, _, _⟩ := DataW.trod_string Tryd.underlying9 h1
    injection e1 with e1 _
    obtain ⟨x2, e2, _, _⟩ := DataW.trod_string Tryd.underlying9 h2
    injection e2 with e2 _
    obtain ⟨x3, e3, _, _⟩ := DataW.trod_string Tryd.underlying9 h3
    injection e3 with e3 _
    obtain ⟨x9, e9, _, _⟩ := DataW.trod_int Tryd.underlying3 h9
    injection e9 with e9 _
    obtain ⟨x10, e10, _, _⟩ := DataW.trod_int Tryd.underlying5 h10
    injection e10 with e10 _
    obtain ⟨x11, e11, _⟩ := DataW.trod_bool Tryd.underlying4 h11
    injection e11 with e11 _
    obtain ⟨x12, e12, _, _⟩ := DataW.trod_int Tryd.underlying3 h12
    injection e12 with e12 _
    obtain ⟨x13, e13, _, _⟩ := DataW.trod_int Tryd.underlying3 h13
    injection e13 with e13 _
    obtain ⟨l4, k4, m4, _⟩ := texts_of (N := 140737488351232) (c := c4) h4 (hW 4 _ _ rfl rfl)
    obtain ⟨l5, k5, m5, z5⟩ := texts_of (N := 140737488351232) (c := c5) h5 (hW 5 _ _ rfl rfl)
    have k6 := slice_of (c := c6) Tryd.underlying28 h6
    have k7 := slice_of (c := c7) Tryd.underlying29 h7
    have k8 := slice_of (c := c8) Tryd.underlying30 h8
    subst e0 e1 e2 e3 e9 e10 e11 e12 e13
    exact ⟨⟨x0, l4, l5, x11⟩, ⟨x1, x2, x3, c4, c5, c6, c7, c8, x9, x10, x12, x13⟩, rfl, k4, k5, z5, ⟨k6, k7, k8⟩, Nat.le_trans m4 (by unfold maxLen; omega), Nat.le_trans m5 (by unfold maxLen; omega)⟩
/-- an operation: its kind, its ask, does it go well -/
structure Opk where
  k : Int
  a : Ak
  r : Re
  g : Bool
def opC (o : Opk) : List Value := nV o.k :: (askC o.a o.r ++ [.bool o.g])
theorem one_op {n : Nat} {cs : List Value} {x : DataW H × List MemPlace} (ht : DataW.trod enc Tryd.prog W 0 (fun _ => true) true n 34 cs = some x) (hN : ∀ k ∈ x.1.weights Tryd.prog 34, k ≤ 140737488351232) :
    ∃ o : Opk, cs = opC o ∧ AkB W o.a o.r := by
  obtain ⟨xs, m, _, hx, hl, hxl, hf⟩ := DataW.trod_struct Tryd.underlying34 ht
  rw [show Tryd.prog.cellsOf 34 = 16 by kernel_rfl] at hl
  match cs, hl with
  | [c0, c1, c2, c3, c4, c5, c6, c7, c8, c9, c10, c11, c12, c13, c14, c15], _ =>
  match xs, hxl with
  | [y0, y1, y2], _ =>
    have hW : ∀ (j : Nat) (t : TypeId) (D : DataW H), [3, 32, 4][j]? = some t → [y0.1, y1.1, y2.1][j]? = some D → ∀ k ∈ D.weights Tryd.prog t, k ≤ 140737488351232 := by
      intro j t D h1 h2 k hk
      refine hN k ?_
      have e1 := congrArg Prod.fst hx
      rw [e1]
      simp only [DataW.weights, Tryd.underlying34]
      exact DataW.weights_mem_each h1 h2 k hk
    have h0 : DataW.trod enc Tryd.prog W 0 (fun _ => true) true m 3 (List.take (Tryd.prog.cellsOf 3) (List.drop 0 [c0, c1, c2, c3, c4, c5, c6, c7, c8, c9, c10, c11, c12, c13, c14, c15])) = some y0 := hf 0 _ rfl
    have h1 : DataW.trod enc Tryd.prog W 0 (fun _ => true) true m 32 (List.take (Tryd.prog.cellsOf 32) (List.drop 1 [c0, c1, c2, c3, c4, c5, c6, c7, c8, c9, c10, c11, c12, c13, c14, c15])) = some y1 := hf 1 _ rfl
    have h2 : DataW.trod enc Tryd.prog W 0 (fun _ => true) true m 4 (List.take (Tryd.prog.cellsOf 4) (List.drop 15 [c0, c1, c2, c3, c4, c5, c6, c7, c8, c9, c10, c11, c12, c13, c14, c15])) = some y2 := hf 2 _ rfl
    rw [show Tryd.prog.cellsOf 3 = 1 by kernel_rfl] at h0
    rw [show Tryd.prog.cellsOf 32 = 14 by kernel_rfl] at h1
    rw [show Tryd.prog.cellsOf 4 = 1 by kernel_rfl] at h2
    obtain ⟨x0, e0, _, _⟩ := DataW.trod_int Tryd.underlying3 h0
    injection e0 with e0 _
    obtain ⟨x2, e2, _⟩ := DataW.trod_bool Tryd.underlying4 h2
    injection e2 with e2 _
    obtain ⟨a, r, e1, hB⟩ := one_ask h1 (hW 1 _ _ rfl rfl)
    refine ⟨⟨x0, a, r, x2⟩, ?_, hB⟩
    have e3 : [c1, c2, c3, c4, c5, c6, c7, c8, c9, c10, c11, c12, c13, c14] = askC a r := e1
    subst e0 e2
    unfold opC
    rw [← e3]
    rfl
/-- v is an ask -/
def FitsA (W : World) (v : Value) : Prop := ∃ a r, v = askV a r ∧ AkB W a r
theorem openedA {base : Nat} {v : Value} {d : DataW H} {p : List MemPlace} (hv : Value.okWide Tryd.prog W .any base 32 v)
    (h : DataW.Trod enc Tryd.prog W 0 (fun _ => true) true 32 v d p) (hz : (DataW.weights Tryd.prog 32 d).all (· ≤ reachBytes) = true) : FitsA W v := by
  obtain ⟨cs, rfl, hsz⟩ := okWide_struct Tryd.underlying32 hv
  obtain ⟨fuel, hf⟩ := h
  obtain ⟨a, r, e, hB⟩ := one_ask hf (fun k hk => of_decide_eq_true (List.all_eq_true.1 hz k hk))
  refine ⟨a, r, ?_, hB⟩
  unfold askV
  rw [← e]
  show Value.agg cs = Value.agg cs.toList.toArray
  simp
/-- v is a slice of operations that reads as l -/
def OpR (w : World) (v : Value) (l : List Opk) : Prop :=
  (∃ a cap, l = [] ∧ v = .slice a 0 cap) ∨ ∃ g off cap, v = .slice (some ⟨g, off, none⟩) l.length cap ∧ l.length ≤ cap ∧ ∀ (i : Nat) (o : Opk), l[i]? = some o → AkB w o.a o.r ∧ ∀ j u, (opC o)[j]? = some u → w.cell? ⟨g, off + i * 16 + j, none⟩ = some u
def FitsOp (W : World) (v : Value) : Prop := ∃ l, OpR W v l
theorem openedOp {base : Nat} {v : Value} {d : DataW H} {p : List MemPlace} (hv : Value.okWide Tryd.prog W .any base 22 v)
    (h : DataW.Trod enc Tryd.prog W 0 (fun _ => true) true 22 v d p) (hz : (DataW.weights Tryd.prog 22 d).all (· ≤ reachBytes) = true) : FitsOp W v := by
  obtain ⟨a, ln, cp, rfl⟩ := okWide_slice Tryd.underlying22 hv
  obtain ⟨fuel, hf⟩ := h
  rcases slice_any (α := Opk) (m := 16) (Q := fun o cs => cs = opC o ∧ AkB W o.a o.r) Tryd.underlying22 (by kernel_rfl) (fun ht hk => one_op ht hk) hf (fun k hk => of_decide_eq_true (List.all_eq_true.1 hz k hk)) with e | ⟨l, ad, cap, e, hc, hm, h2⟩
  · rw [e]; exact ⟨[], .inl ⟨_, _, rfl, rfl⟩⟩
  · rw [e]
    refine ⟨l, ?_⟩
    by_cases h0 : l = []
    · subst h0; exact .inl ⟨_, _, rfl, rfl⟩
    · obtain ⟨bl, of, rfl⟩ := slice_at (by omega) h0 h2
      refine .inr ⟨bl, of, cap, rfl, hc, fun i y hy => ?_⟩
      obtain ⟨cs, ⟨rfl, hb⟩, hln, hat⟩ := h2 i y hy
      refine ⟨hb, fun j u hu => ?_⟩
      have hj : j < 16 := by have := (List.getElem?_eq_some_iff.1 hu).1; rw [hln] at this; exact this
      have a0 := hat j hj
      rw [hu] at a0
      simpa only [Addr.add_lit] using a0
/-- v is a slice of numbers 0 to 255 that reads as l -/
def NR (w : World) (v : Value) (l : List Int) : Prop :=
  (∃ a cap, l = [] ∧ v = .slice a 0 cap) ∨ ∃ g off cap, v = .slice (some ⟨g, off, none⟩) l.length cap ∧ l.length ≤ cap ∧ ∀ (i : Nat) (x : Int), l[i]? = some x → (0 ≤ x ∧ x ≤ 255) ∧ w.cell? ⟨g, off + i, none⟩ = some (.int .u8 x)
def FitsU8 (W : World) (v : Value) : Prop := ∃ l, NR W v l
theorem openedU8 {base : Nat} {v : Value} {d : DataW H} {p : List MemPlace} (hv : Value.okWide Tryd.prog W .any base 46 v)
    (h : DataW.Trod enc Tryd.prog W 0 (fun _ => true) true 46 v d p) (hz : (DataW.weights Tryd.prog 46 d).all (· ≤ reachBytes) = true) : FitsU8 W v := by
  obtain ⟨a, ln, cp, rfl⟩ := okWide_slice Tryd.underlying46 hv
  obtain ⟨fuel, hf⟩ := h
  rcases slice_any (α := Int) (m := 1) (Q := fun x cs => cs[0]? = some (.int .u8 x) ∧ (0 ≤ x ∧ x ≤ 255)) Tryd.underlying46 (by kernel_rfl) (fun ht _ => by
    obtain ⟨x, e, _, wx⟩ := DataW.trod_int Tryd.underlying5 ht
    exact ⟨x, by rw [e]; rfl, wf8 _ wx⟩) hf (fun k hk => of_decide_eq_true (List.all_eq_true.1 hz k hk)) with e | ⟨l, ad, cap, e, hc, hm, h2⟩
  · rw [e]; exact ⟨[], .inl ⟨_, _, rfl, rfl⟩⟩
  · rw [e]
    refine ⟨l, ?_⟩
    by_cases h0 : l = []
    · subst h0; exact .inl ⟨_, _, rfl, rfl⟩
    · obtain ⟨bl, of, rfl⟩ := slice_at (by omega) h0 h2
      refine .inr ⟨bl, of, cap, rfl, hc, fun i y hy => ?_⟩
      obtain ⟨cs, ⟨q1, hb⟩, _, hat⟩ := h2 i y hy
      have a0 := hat 0 (by omega)
      rw [q1] at a0
      simp only [Addr.add_lit, Nat.add_zero, Nat.mul_one] at a0
      exact ⟨hb, a0⟩
end
theorem OpR.form {w : World} {v : Value} {l : List Opk} (h : OpR w v l) : ∃ a cap, v = .slice a l.length cap := by
  rcases h with ⟨a, cap, rfl, rfl⟩ | ⟨g, off, cap, rfl, _⟩
  · exact ⟨_, _, rfl⟩
  · exact ⟨_, _, rfl⟩
theorem OpR.inv {w : World} {v : Value} {l : List Opk} (h : OpR w v l) (hp : 0 < l.length) : ∃ g off cap, v = .slice (some ⟨g, off, none⟩) l.length cap ∧ l.length ≤ cap ∧ ∀ (i : Nat) (o : Opk), l[i]? = some o → AkB w o.a o.r ∧ ∀ j u, (opC o)[j]? = some u → w.cell? ⟨g, off + i * 16 + j, none⟩ = some u := by
  rcases h with ⟨a, cap, rfl, rfl⟩ | h
  · simp at hp
  · exact h
theorem NR.form {w : World} {v : Value} {l : List Int} (h : NR w v l) : ∃ a cap, v = .slice a l.length cap := by
  rcases h with ⟨a, cap, rfl, rfl⟩ | ⟨g, off, cap, rfl, _⟩
  · exact ⟨_, _, rfl⟩
  · exact ⟨_, _, rfl⟩
theorem NR.inv {w : World} {v : Value} {l : List Int} (h : NR w v l) (hp : 0 < l.length) : ∃ g off cap, v = .slice (some ⟨g, off, none⟩) l.length cap ∧ l.length ≤ cap ∧ ∀ (i : Nat) (x : Int), l[i]? = some x → (0 ≤ x ∧ x ≤ 255) ∧ w.cell? ⟨g, off + i, none⟩ = some (.int .u8 x) := by
  rcases h with ⟨a, cap, rfl, rfl⟩ | h
  · simp at hp
  · exact h
end Go.Proofs.YtpnjjllkbnmakaaDoor.SE
