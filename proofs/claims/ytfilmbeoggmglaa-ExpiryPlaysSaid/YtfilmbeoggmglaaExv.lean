/- Layer 11's lists of operations opened; a queue's copy beside it; two queues side by side. No condition. -/
import Derived.Test.YtfilmbeoggmglaaExw
namespace Go.Proofs.Ytfilmbeoggmglaa.EX
open Go.ChangeShapes Go.WideShapes Go.ChangeAt Go.RowKit Go.Maps Go.ChangeMaps
open Go.Proofs.Ytfilmbeoggmglaa.SL Go.Proofs.Ytfilmbeoggmglaa.RW
set_option maxRecDepth 100000
set_option linter.unusedVariables false
set_option linter.unusedSimpArgs false

section
variable {H : Type} {enc : TypeId × Value → H} {W : World}
theorem one_op {n : Nat} {cs : List Value} {x : DataW H × List MemPlace} (ht : DataW.trod enc Try.prog W 0 (fun _ => true) true n 60 cs = some x) :
    ∃ o : Opn, cs = (opV o).toList ∧ opB o := by
  obtain ⟨xs, m, _, hx, hl, hxl, hf⟩ := DataW.trod_struct Try.underlying60 ht
  rw [show Try.prog.cellsOf 60 = 3 by kernel_rfl] at hl
  match cs, hl with
  | [c0, c1, c2], _ =>
  match xs, hxl with
  | [y0, y1, y2], _ =>
    have h0 : DataW.trod enc Try.prog W 0 (fun _ => true) true m 3 (List.take (Try.prog.cellsOf 3) (List.drop 0 [c0, c1, c2])) = some y0 := hf 0 _ rfl
    have h1 : DataW.trod enc Try.prog W 0 (fun _ => true) true m 9 (List.take (Try.prog.cellsOf 9) (List.drop 1 [c0, c1, c2])) = some y1 := hf 1 _ rfl
    have h2 : DataW.trod enc Try.prog W 0 (fun _ => true) true m 3 (List.take (Try.prog.cellsOf 3) (List.drop 2 [c0, c1, c2])) = some y2 := hf 2 _ rfl
    rw [one_intc] at h0 h2
    rw [one_strc] at h1
    obtain ⟨x0, e0, _, w0⟩ := DataW.trod_int Try.underlying3 h0
    obtain ⟨x1, e1, _, _⟩ := DataW.trod_string Try.underlying9 h1
    obtain ⟨x2, e2, _, w2⟩ := DataW.trod_int Try.underlying3 h2
    injection e0 with e0 _
    injection e1 with e1 _
    injection e2 with e2 _
    subst e0 e1 e2
    exact ⟨(x0, x1, x2), rfl, wf64 _ w0, wf64 _ w2⟩
theorem openedO {base : Nat} {v : Value} {d : DataW H} {p : List MemPlace} (hv : Value.okWide Try.prog W .any base 52 v)
    (h : DataW.Trod enc Try.prog W 0 (fun _ => true) true 52 v d p) (hz : (DataW.weights Try.prog 52 d).all (· ≤ reachBytes) = true) : FitsO W v := by
  obtain ⟨a, ln, cp, rfl⟩ := okWide_slice Try.underlying52 hv
  obtain ⟨fuel, hf⟩ := h
  rcases slice_any (α := Opn) (m := 3) (Q := fun o cs => cs = (opV o).toList ∧ opB o) Try.underlying52 (by kernel_rfl) (fun ht => one_op ht) hf with e | ⟨l, ad, cap, e, hc, h2⟩
  · rw [e]; exact ⟨[], .inl ⟨_, _, rfl, rfl⟩⟩
  · rw [e]
    refine ⟨l, ?_⟩
    by_cases h0 : l = []
    · subst h0; exact .inl ⟨_, _, rfl, rfl⟩
    · obtain ⟨x, hx0⟩ : ∃ x, l[0]? = some x := ⟨l[0]'(by cases l; exact absurd rfl h0; simp), List.getElem?_eq_getElem _⟩
      obtain ⟨cs, ⟨rfl, _⟩, _, hat⟩ := h2 0 x hx0
      have c0 := hat 0 (by omega)
      have e0 : (ad.add (0 * 3)).add 0 = ad := by simp [Addr.add]
      rw [e0] at c0
      have hsp := spot_none (x := .int .i64 x.1) c0
      obtain ⟨bl, of, sp⟩ := ad
      simp only at hsp
      subst hsp
      refine .inr ⟨bl, of, cap, rfl, hc, fun i y hy => ?_⟩
      obtain ⟨cs, ⟨rfl, hb⟩, _, hat⟩ := h2 i y hy
      have a0 := hat 0 (by omega)
      have a1 := hat 1 (by omega)
      have a2 := hat 2 (by omega)
      simp only [Addr.add_lit, Nat.add_zero] at a0 a1 a2
      exact ⟨hb, a0, a1, a2⟩
end
def Kq (B g n : Nat) (y : Qx) : Kp := .keep (fun w => QT B w g n y) (y.own g)
section
variable {w0 w w' : World} {g n : Nat} {I : List It} {O : List Kp}
theorem lq_copy (h : LQ w0 w g n I O) (hn : n ≤ 1000000) :
    Calls Try.prog 33 #[ptr g] w fun e w' => ∃ gc y, e = .returned (ptr gc) ∧ y.L.map it = I ∧ LQ w0 w' g n I (Kq w0.heap.size gc n y :: O) := by
  obtain ⟨x, h1, rfl, h3, h4⟩ := h
  refine (copy_any w w0.heap.size g n x h1 hn h3.size).mono ?_
  rintro e w' ⟨gc, y, rfl, s1, s2, s3, s4⟩
  refine ⟨gc, y, rfl, by rw [s2], x, h1.below s4, rfl, h3.trans (s4.mono h3.size), fun p hp => ?_⟩
  rcases List.mem_cons.1 hp with rfl | hp
  · exact ⟨s1, fun b hb => ⟨s1.lt hb, fun ho => by have := s3 b hb; have := h1.lt ho; omega⟩, fun w1 w2 p1 hk => p1.keep hk⟩
  · exact (h4 p hp).below s4
theorem LQ.turn {g2 n2 : Nat} {y : Qx} {J : List It} (h : LQ w0 w g n I O) (hm : Kq w0.heap.size g2 n2 y ∈ O) (hJ : y.L.map it = J) : ∃ x, x.L.map it = I ∧ LQ w0 w g2 n2 J [Kq w0.heap.size g n x] := by
  obtain ⟨x, h1, rfl, h3, h4⟩ := h
  obtain ⟨qy, hlt, _⟩ := h4 _ hm
  refine ⟨x, rfl, y, qy, hJ, h3, fun p hp => ?_⟩
  rw [List.mem_singleton] at hp
  subst hp
  exact ⟨h1, fun b hb => ⟨h1.lt hb, fun ho => (hlt b ho).2 hb⟩, fun w1 w2 p1 hk => p1.keep hk⟩
theorem LQ.other {g2 n2 : Nat} {y : Qx} {J : List It} (h : LQ w0 w g n I O) (hm : Kq w0.heap.size g2 n2 y ∈ O) (hJ : y.L.map it = J) : LQ w0 w g2 n2 J [] := by
  obtain ⟨x, _, h⟩ := h.turn hm hJ
  exact h.nil
open Classical in
noncomputable def setA (k : ByteArray) (t : Int) (I : List It) : List It := if 0 ≤ t ∧ t ≤ 1099511627776 then setI k t I else I
open Classical in
noncomputable def setC (t : Int) : Int := if 0 ≤ t ∧ t ≤ 1099511627776 then 0 else 1
def SetP (w0 : World) (g n : Nat) (k : ByteArray) (t : Int) (I : List It) (O : List Kp) (e : Ending) (w' : World) : Prop := e = .returned (.int .i64 (setC t)) ∧ ∃ n', n' ≤ n + 1 ∧ LQ w0 w' g n' (setA k t I) O
theorem lq_seta (h : LQ w0 w g n I O) (k : ByteArray) (hk : k.size ≤ 281474976710656) (t : Int) (hn : n ≤ 490) :
    Calls Try.prog 27 #[ptr g, .string k, .int .i64 t] w (SetP w0 g n k t I O) := by
  by_cases ht : 0 ≤ t ∧ t ≤ 1099511627776
  · refine (lq_set h k hk t ht hn _ rfl).mono ?_
    rintro e w' ⟨rfl, h2⟩
    exact ⟨by unfold setC; rw [if_pos ht], n + 1, Nat.le_refl _, by unfold setA; rw [if_pos ht]; exact h2⟩
  · refine (lq_err h k t ht).mono ?_
    rintro e w' ⟨rfl, rfl⟩
    exact ⟨by unfold setC; rw [if_neg ht], n, Nat.le_succ _, by unfold setA; rw [if_neg ht]; exact h⟩
end
theorem mem_setI {k : ByteArray} {t : Int} {I : List It} {e : It} (h : e ∈ setI k t I) : e = (k, t) ∨ e ∈ I := by
  unfold setI at h
  rcases List.mem_append.1 h with h | h
  · exact .inr (List.mem_filter.1 (List.mem_filter.1 h).1).1
  · rcases List.mem_cons.1 h with h | h
    · exact .inl h
    · exact .inr (List.mem_filter.1 (List.mem_filter.1 h).1).1
theorem mem_setA {k : ByteArray} {t : Int} {I : List It} {e : It} (h : e ∈ setA k t I) : e = (k, t) ∨ e ∈ I := by
  unfold setA at h
  split at h
  · exact mem_setI h
  · exact .inr h
def Short (I : List It) : Prop := ∀ y ∈ I, y.1.size ≤ 100
theorem Short.setA {k : ByteArray} {I : List It} (h : Short I) (hk : k.size ≤ 100) (t : Int) : Short (setA k t I) := fun y hy => by
  rcases mem_setA hy with rfl | hy
  · exact hk
  · exact h y hy
theorem Short.setI {k : ByteArray} {I : List It} (h : Short I) (hk : k.size ≤ 100) (t : Int) : Short (setI k t I) := fun y hy => by
  rcases mem_setI hy with rfl | hy
  · exact hk
  · exact h y hy
theorem Short.sub {I J : List It} (h : Short I) (hs : ∀ y ∈ J, y ∈ I) : Short J := fun y hy => h y (hs y hy)
theorem Short.dropI {I : List It} (h : Short I) (k : ByteArray) : Short (dropI k I) := h.sub fun y hy => (List.mem_filter.1 hy).1
theorem Short.gtI {I : List It} (h : Short I) (t : Int) : Short (gtI t I) := h.sub fun y hy => (List.mem_filter.1 hy).1
theorem Short.le {I : List It} (h : Short I) : ∀ y ∈ I, y.1.size ≤ 281474976710656 := fun y hy => by have := h y hy; omega
theorem atI_none {k : ByteArray} {I : List It} (h : ∀ e ∈ I, e.1 ≠ k) : atI k I = none := by
  unfold atI
  rw [List.find?_eq_none.2 (fun e he => by simpa using h e he)]; rfl
theorem no_drop {k : ByteArray} {I : List It} : ∀ e ∈ dropI k I, e.1 ≠ k := fun e he => by simpa using (List.mem_filter.1 he).2
theorem no_sub {k : ByteArray} {I J : List It} (h : ∀ e ∈ I, e.1 ≠ k) (hs : ∀ y ∈ J, y ∈ I) : ∀ e ∈ J, e.1 ≠ k := fun e he => h e (hs e he)
theorem atI_mid {k : ByteArray} {t : Int} {A B : List It} (h : ∀ e ∈ A, e.1 ≠ k) : atI k (A ++ (k, t) :: B) = some t := by
  unfold atI
  rw [List.find?_append, List.find?_eq_none.2 (fun e he => by simpa using h e he)]
  simp
theorem at_early (k : ByteArray) (t : Int) (I : List It) : atI k (gtI (t - 1) (setI k t I)) = some t := by
  unfold setI
  have e : gtI (t - 1) (leI t (dropI k I) ++ (k, t) :: gtI t (dropI k I)) = gtI (t - 1) (leI t (dropI k I)) ++ (k, t) :: gtI (t - 1) (gtI t (dropI k I)) := by
    unfold gtI
    rw [List.filter_append, List.filter_cons, if_pos (by simp; omega)]
  rw [e]
  exact atI_mid (no_sub no_drop fun y hy => (List.mem_filter.1 (List.mem_filter.1 hy).1).1)
theorem at_gone (k : ByteArray) (t : Int) (I : List It) : atI k (gtI t (setI k t I)) = none := by
  refine atI_none fun e he => ?_
  obtain ⟨h1, h2⟩ := List.mem_filter.1 he
  unfold setI at h1
  rcases List.mem_append.1 h1 with h1 | h1
  · exact no_drop e (List.mem_filter.1 h1).1
  · rcases List.mem_cons.1 h1 with h1 | h1
    · subst h1; simp at h2
    · exact no_drop e (List.mem_filter.1 h1).1
end Go.Proofs.Ytfilmbeoggmglaa.EX
