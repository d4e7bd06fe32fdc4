/- Package pool in a law: lists of operations among the arguments; what a round of PoolLimit wants. Conditions: as each. -/
import Derived.Test.YtochjbmighijgaaPqb
import Derived.Deep.Slices
import Derived.Deep.Fields
import Derived.SizedLaws
namespace Go.Proofs.Ytochjbmighijgaa.PO
open Go.ChangeShapes Go.WideShapes Go.ChangeAt Go.RowKit Go.Maps Go.ChangeMaps
open Go.Deep
open Go.Proofs.Ytochjbmighijgaa.SL Go.Proofs.Ytochjbmighijgaa.RW
open Go.Proofs.Ytochjbmighijgaa.LN (tkY tkN pu OI IS RdP)
set_option maxRecDepth 100000
set_option linter.unusedVariables false
set_option linter.unusedSimpArgs false

section
variable {H : Type} {enc : TypeId × Value → H} {W : World}
theorem spot_none {ad : Addr} {x : Value} (h : W.cell? ad = some x) : ad.spot = none := by
  unfold World.cell? at h
  cases hs : ad.spot with
  | none => rfl
  | some q => rw [hs] at h; revert h; split <;> simp
/-- a slice, element by element -/
theorem slice_any {α : Type} {ts te : TypeId} {m : Nat} {Q : α → List Value → Prop} (hu : Try.prog.underlying ts = some (.slice te)) (hC : Try.prog.cellsOf te = m)
    (one : ∀ {n : Nat} {cs : List Value} {x : DataW H × List MemPlace}, DataW.trod enc Try.prog W 0 (fun _ => true) true n te cs = some x → ∃ a : α, Q a cs)
    {fuel : Nat} {c : Value} {x : DataW H × List MemPlace} (h : DataW.trod enc Try.prog W 0 (fun _ => true) true fuel ts [c] = some x) :
    c = .slice none 0 0 ∨ ∃ (l : List α) (ad : Addr) (cap : Nat), c = .slice (some ad) l.length cap ∧ l.length ≤ cap ∧ ∀ (i : Nat) (a : α), l[i]? = some a → ∃ cs, Q a cs ∧ cs.length = m ∧ ∀ j, j < m → W.cell? ((ad.add (i * m)).add j) = cs[j]? := by
  rcases open_slice hu h with ⟨e, _⟩ | ⟨ad, len, cap, k, n, D, Pl, hcs, hb, hl, hm, hmm, hx, hi⟩
  · injection e with e _
    exact .inl e
  · injection hcs with hcs _
    subst hcs
    rw [hC] at hi
    have hlm : len ≤ k := by rw [hmm]; simp; exact hl
    have key : ∀ j, j ≤ len → ∃ l : List α, l.length = j ∧ ∀ (i : Nat) (a : α), l[i]? = some a → ∃ cs, Q a cs ∧ cs.length = m ∧ ∀ j, j < m → W.cell? ((ad.add (i * m)).add j) = cs[j]? := by
      intro j
      induction j with
      | zero => intro _; exact ⟨[], rfl, fun i x hi => by simp at hi⟩
      | succ j ih =>
        intro hj
        obtain ⟨l, h1, h2⟩ := ih (by omega)
        obtain ⟨cs', hc, ht⟩ := hi j (by omega)
        obtain ⟨_, hcl, hat⟩ := World.cells?_some hc
        obtain ⟨a, hq⟩ := one ht
        refine ⟨l ++ [a], by simp [h1], fun i x hx' => ?_⟩
        by_cases hij : i < l.length
        · rw [List.getElem?_append_left hij] at hx'
          exact h2 i x hx'
        · have hlt := (List.getElem?_eq_some_iff.1 hx').1
          have hie : i = j := by simp at hlt; omega
          subst hie
          rw [List.getElem?_append_right (by omega), h1, Nat.sub_self] at hx'
          simp at hx'
          subst hx'
          exact ⟨cs', hq, hcl, fun q hq2 => hat q hq2⟩
    obtain ⟨l, h1, h2⟩ := key len (Nat.le_refl _)
    exact .inr ⟨l, ad, cap, by rw [h1], by omega, h2⟩
abbrev Opq : Type := Int × ByteArray × Int × Int
def opqC (o : Opq) : List Value := [nV o.1, .string o.2.1, nV o.2.2.1, nV o.2.2.2]
def opqB (o : Opq) : Prop := I9 o.2.2.1 ∧ I9 o.2.2.2
theorem one_opq {n : Nat} {cs : List Value} {x : DataW H × List MemPlace} (ht : DataW.trod enc Try.prog W 0 (fun _ => true) true n 28 cs = some x) : ∃ o : Opq, cs = opqC o ∧ opqB o := by
  obtain ⟨xs, m, _, hx, hl, hxl, hf⟩ := DataW.trod_struct Try.underlying28 ht
  rw [show Try.prog.cellsOf 28 = 4 by kernel_rfl] at hl
  match cs, hl with
  | [c0, c1, c2, c3], _ =>
  match xs, hxl with
  | [y0, y1, y2, y3], _ =>
    have h0 : DataW.trod enc Try.prog W 0 (fun _ => true) true m 3 (List.take (Try.prog.cellsOf 3) (List.drop 0 [c0, c1, c2, c3])) = some y0 := hf 0 _ rfl
    have h1 : DataW.trod enc Try.prog W 0 (fun _ => true) true m 9 (List.take (Try.prog.cellsOf 9) (List.drop 1 [c0, c1, c2, c3])) = some y1 := hf 1 _ rfl
    have h2 : DataW.trod enc Try.prog W 0 (fun _ => true) true m 3 (List.take (Try.prog.cellsOf 3) (List.drop 2 [c0, c1, c2, c3])) = some y2 := hf 2 _ rfl
    have h3 : DataW.trod enc Try.prog W 0 (fun _ => true) true m 3 (List.take (Try.prog.cellsOf 3) (List.drop 3 [c0, c1, c2, c3])) = some y3 := hf 3 _ rfl
    rw [show Try.prog.cellsOf 3 = 1 by kernel_rfl] at h0 h2 h3
    rw [show Try.prog.cellsOf 9 = 1 by kernel_rfl] at h1
    obtain ⟨x0, e0, _, _⟩ := DataW.trod_int Try.underlying3 h0
    obtain ⟨x1, e1, _, _⟩ := DataW.trod_string Try.underlying9 h1
    obtain ⟨x2, e2, _, w2⟩ := DataW.trod_int Try.underlying3 h2
    obtain ⟨x3, e3, _, w3⟩ := DataW.trod_int Try.underlying3 h3
    injection e0 with e0 _
    injection e1 with e1 _
    injection e2 with e2 _
    injection e3 with e3 _
    subst e0 e1 e2 e3
    exact ⟨(x0, x1, x2, x3), rfl, wf64 _ w2, wf64 _ w3⟩
/-- v is a slice of operations that reads as l -/
def OpR (w : World) (v : Value) (l : List Opq) : Prop :=
  (∃ a cap, l = [] ∧ v = .slice a 0 cap) ∨ ∃ g off cap, v = .slice (some ⟨g, off, none⟩) l.length cap ∧ l.length ≤ cap ∧ ∀ (i : Nat) (o : Opq), l[i]? = some o → opqB o ∧ ∀ j u, (opqC o)[j]? = some u → w.cell? ⟨g, off + i * 4 + j, none⟩ = some u
def FitsOp (W : World) (v : Value) : Prop := ∃ l, OpR W v l
theorem openedOp {base : Nat} {v : Value} {d : DataW H} {p : List MemPlace} (hv : Value.okWide Try.prog W .any base 22 v)
    (h : DataW.Trod enc Try.prog W 0 (fun _ => true) true 22 v d p) (hz : (DataW.weights Try.prog 22 d).all (· ≤ reachBytes) = true) : FitsOp W v := by
  obtain ⟨a, ln, cp, rfl⟩ := okWide_slice Try.underlying22 hv
  obtain ⟨fuel, hf⟩ := h
  rcases slice_any (α := Opq) (m := 4) (Q := fun o cs => cs = opqC o ∧ opqB o) Try.underlying22 (by kernel_rfl) (fun ht => one_opq ht) hf with e | ⟨l, ad, cap, e, hc, h2⟩
  · rw [e]; exact ⟨[], .inl ⟨_, _, rfl, rfl⟩⟩
  · rw [e]
    refine ⟨l, ?_⟩
    by_cases h0 : l = []
    · subst h0; exact .inl ⟨_, _, rfl, rfl⟩
    · obtain ⟨x, hx0⟩ : ∃ x, l[0]? = some x := ⟨l[0]'(by cases l; exact absurd rfl h0; simp), List.getElem?_eq_getElem _⟩
      obtain ⟨cs, ⟨rfl, _⟩, _, hat⟩ := h2 0 x hx0
      have c0 := hat 0 (by omega)
      have e0 : (ad.add (0 * 4)).add 0 = ad := by simp [Addr.add]
      rw [e0] at c0
      have hsp := spot_none (x := nV x.1) c0
      obtain ⟨bl, of, sp⟩ := ad
      simp only at hsp
      subst hsp
      refine .inr ⟨bl, of, cap, rfl, hc, fun i y hy => ?_⟩
      obtain ⟨cs, ⟨rfl, hb⟩, _, hat⟩ := h2 i y hy
      refine ⟨hb, fun j u hu => ?_⟩
      have hj : j < 4 := by have := (List.getElem?_eq_some_iff.1 hu).1; exact this
      have a0 := hat j hj
      rw [hu] at a0
      simpa only [Addr.add_lit] using a0
end
theorem OpR.below {w w' : World} {v : Value} {l : List Opq} (h : OpR w v l) (hb : Below w.heap.size w w') : OpR w' v l := by
  rcases h with h | ⟨g, off, cap, e, hc, hx⟩
  · exact .inl h
  · exact .inr ⟨g, off, cap, e, hc, fun i x hi => ⟨(hx i x hi).1, fun j u hu => (hb.cell (p := ⟨g, off + i * 4 + j, none⟩) (World.block_lt_of_cell? w _ ((hx i x hi).2 j u hu))).trans ((hx i x hi).2 j u hu)⟩⟩
theorem OpR.form {w : World} {v : Value} {l : List Opq} (h : OpR w v l) : ∃ a cap, v = .slice a l.length cap := by
  rcases h with ⟨a, cap, rfl, rfl⟩ | ⟨g, off, cap, rfl, _⟩
  · exact ⟨_, _, rfl⟩
  · exact ⟨_, _, rfl⟩
theorem OpR.inv {w : World} {v : Value} {l : List Opq} (h : OpR w v l) (hp : 0 < l.length) : ∃ g off cap, v = .slice (some ⟨g, off, none⟩) l.length cap ∧ l.length ≤ cap ∧ ∀ (i : Nat) (o : Opq), l[i]? = some o → opqB o ∧ ∀ j u, (opqC o)[j]? = some u → w.cell? ⟨g, off + i * 4 + j, none⟩ = some u := by
  rcases h with ⟨a, cap, rfl, rfl⟩ | h
  · simp at hp
  · exact h
/-- a pool behind i steps -/
def LimR (B : Nat) (w : World) (a i : Nat) (C : Cf) : Prop := ∃ N R, PL B w a N C R ∧ Inv C R [] ∧ N ≤ 3 * i ∧ R.last ≤ i
section
variable {B : Nat} {w w' : World} {a i : Nat} {C : Cf}
theorem LimR.below (h : LimR B w a i C) (hb : Below w.heap.size w w') : LimR B w' a i C := by
  obtain ⟨N, R, h1, h2⟩ := h
  exact ⟨N, R, h1.below hb, h2⟩
theorem LimR.up (h : LimR B w a i C) : LimR B w a (i + 1) C := by
  obtain ⟨N, R, h1, h2, h3, h4⟩ := h
  exact ⟨N, R, h1, h2, by omega, by omega⟩
def LimP (B : Nat) (w : World) (a i : Nat) (C : Cf) (e : Ending) (w' : World) : Prop := ∃ r, e = .returned r ∧ LimR B w' a i C ∧ Fr B w w'
theorem LimR.step (h : LimR B w a i C) (hi : i ≤ 60) {f : FuncId} {vs : Array Value} (hs : ∀ N R, PL B w a N C R → Inv C R [] → N ≤ 900000 → R.last ≤ 90000 → Calls Try.prog f vs w (StepP B w a N C R)) : Calls Try.prog f vs w (LimP B w a (i + 1) C) := by
  obtain ⟨N, R, h1, h2, h3, h4⟩ := h
  refine (hs N R h1 h2 (by omega) (by omega)).mono ?_
  rintro e w' ⟨R', r, rfl, hp, hv, hl, hf⟩
  exact ⟨r, rfl, ⟨N + 3, R', hp, hv, by omega, by omega⟩, hf⟩
theorem lim_count (h : LimR B w a i C) (hi : i ≤ 60) (k : ByteArray) (hk : k.size ≤ 281474976710656) :
    Calls Try.prog 15 #[ptr a, .string k] w fun e w' => ∃ x y z : Nat, e = .returned (.tuple #[nV (x : Int), nV (y : Int), nV (z : Int)]) ∧ x ≤ C.lim ∧ y ≤ x ∧ (z = 0 ∨ (y = 0 ∧ x = C.lim)) ∧ Below w.heap.size w w' := by
  obtain ⟨N, R, h1, h2, h3, h4⟩ := h
  cases hg : R.gm k with
  | none =>
    refine (count_none h1 k hk hg).mono ?_
    rintro e w' ⟨rfl, hb⟩
    exact ⟨0, 0, 0, rfl, Nat.zero_le _, Nat.le_refl _, .inl rfl, hb⟩
  | some g =>
    obtain ⟨q, hq, hn, hl⟩ := h2.live hg
    refine (count_some h1 k hk hg hq).mono ?_
    rintro e w' ⟨rfl, hb⟩
    have hbq := h2.b g q hl hq
    rw [dn_nil'] at hbq
    refine ⟨_, _, _, rfl, by omega, idle_le h2 hl hq, ?_, hb⟩
    by_cases e : q.line = []
    · exact .inl (by rw [e]; rfl)
    · obtain ⟨e1, e2⟩ := hbq.2 e
      exact .inr ⟨by rw [e1]; rfl, by omega⟩
theorem hold_one {R : Raw} {N : Nat} (h : PL B w a N C R) (c : Int) (hc : I9 c) : ∃ (x : Int) (is : Bool), (is = true → x ≠ 0 ∧ ∃ g p, R.sm c = some (g, x, p)) ∧ Calls Try.prog 16 #[ptr a, nV c] w (RdP (.tuple #[nV x, .bool is]) w) := by
  have := holds_any h c hc
  cases hs : R.sm c with
  | none => rw [hs] at this; exact ⟨0, false, by simp, this⟩
  | some s => rw [hs] at this; exact ⟨s.2.1, decide (0 < s.2.1), fun e => ⟨by have := of_decide_eq_true e; omega, s.1, s.2.2, rfl⟩, this⟩
theorem hold_apart {R : Raw} (h : Inv C R []) {c d x y : Int} (hcd : c ≠ d) (hx : x ≠ 0 ∧ ∃ g p, R.sm c = some (g, x, p)) (hy : y ≠ 0 ∧ ∃ g p, R.sm d = some (g, y, p)) : x ≠ y := by
  obtain ⟨hx0, g, p, hx⟩ := hx
  obtain ⟨hy0, g', p', hy⟩ := hy
  rintro rfl
  have e1 := (h.s2 c g x p hx hx0).2
  have e2 := (h.s2 d g' x p' hy hy0).2
  rw [e1] at e2
  have e3 := Option.some.inj e2
  exact hcd (Prod.mk.inj (Prod.mk.inj e3).2).1
end
end Go.Proofs.Ytochjbmighijgaa.PO
