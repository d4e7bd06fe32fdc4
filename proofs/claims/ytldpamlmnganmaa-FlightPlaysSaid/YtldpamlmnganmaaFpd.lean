/- Rows and numbers put behind one's own; what a slice of rows reads as. Conditions: how many. -/
import Derived.Test.YtldpamlmnganmaaFpc
namespace Go.Proofs.Ytldpamlmnganmaa.FL
open Go.ChangeShapes Go.WideShapes Go.ChangeAt Go.RowKit Go.Maps Go.ChangeMaps
open Go.Proofs.Ytldpamlmnganmaa.SL
set_option maxRecDepth 100000
set_option linter.unusedVariables false
set_option linter.unusedSimpArgs false

theorem run_app_nothing {P : Program} {w : World} (base : Nat) (t ty e : TypeId) (i : TypeInfo) (size : Nat) (ht : P.underlying t = some (.slice e)) (hi : P.info? e = some i)
    (v : Value) (n : Nat) (xs : List Value) (hown : w.ownsRow base e size v n xs) (p : Option Addr) (c : Nat) : (Builtin.append_ #[t, t] ty #[v, .slice p 0 c]).run P w = .ok v w := by
  have hf : (Builtin.firstCells i.size 0 (.slice p 0 c)).run P w = .ok #[] w := by
    cases p with
    | none => exact run_firstCells_none w i.size 0 0 c
    | some ad => exact run_firstCells_some w i.size 0 ad 0 c [] (by simp) (fun j v hj => by simp at hj)
  rcases hown.2 with ⟨rfl, rfl⟩ | ⟨g, cap, cur, rfl, _, _, hnc, _⟩
  · simp [Builtin.append_, run_underlying ht, sizeOf, typeInfo, hi, Builtin.lenOf, hf]
  · simp [Builtin.append_, run_underlying ht, sizeOf, typeInfo, hi, Builtin.lenOf, hf, hnc, storeCells]
/-- v is a slice of rows that reads as these -/
def RX (w : World) (v : Value) (e : List Xr) : Prop :=
  (∃ a c, v = .slice a 0 c ∧ e = []) ∨ ∃ b off cap, v = .slice (some ⟨b, off, none⟩) e.length cap ∧ e.length ≤ cap ∧ ∀ (i : Nat) (x : Xr), e[i]? = some x → ∀ (j : Nat) u, (rC x)[j]? = some u → w.cell? ⟨b, off + i * 5 + j, none⟩ = some u
abbrev OX (B : Nat) (w : World) (v : Value) (d : List Xr) : Prop := w.ownsRow B 76 5 v d.length (rCs d)
theorem OX.rx {B : Nat} {w : World} {v : Value} {d : List Xr} (h : OX B w v d) : RX w v d := by
  rcases h.2 with ⟨rfl, hz⟩ | ⟨g, cap, cur, rfl, hb, hh, hc, hm, hs, ht⟩
  · exact .inl ⟨none, 0, rfl, List.eq_nil_of_length_eq_zero hz⟩
  · refine .inr ⟨g, 0, cap, rfl, hc, fun i x hi j u hu => ?_⟩
    have hj : j < 5 := (List.getElem?_eq_some_iff.1 hu).1
    have := World.ownsRow.cells h (g := g) rfl (i * 5 + j) u (by rw [rCs_at hi j hj]; exact hu)
    rw [Addr.add_lit] at this
    rw [show (0 : Nat) + i * 5 + j = 0 + (i * 5 + j) by omega]; exact this
theorem RX.below {w w' : World} {v : Value} {e : List Xr} (h : RX w v e) (hb : Below w.heap.size w w') : RX w' v e := by
  rcases h with h | ⟨b, off, cap, h1, h2, h3⟩
  · exact .inl h
  · refine .inr ⟨b, off, cap, h1, h2, fun i x hi j u hu => ?_⟩
    have := h3 i x hi j u hu
    exact (hb.cell (p := ⟨b, off + i * 5 + j, none⟩) (World.block_lt_of_cell? _ _ this)).trans this
/-- a part of a slice of rows -/
theorem RX.take {w : World} {b off cap n : Nat} {e : List Xr} (h : RX w (.slice (some ⟨b, off, none⟩) n cap) e) (i : Nat) (hi : i ≤ e.length) : RX w (.slice (some ⟨b, off, none⟩) i cap) (e.take i) := by
  rcases h with ⟨a, c, h1, h2⟩ | ⟨b', off', cap', h1, h2, h3⟩
  · subst h2
    have : i = 0 := by simpa using hi
    subst this
    exact .inl ⟨_, _, rfl, rfl⟩
  · injection h1 with e1 e2 e3
    injection e1 with e1
    injection e1 with e4 e5 _
    subst e4 e5 e3
    refine .inr ⟨b, off, cap, by rw [List.length_take, Nat.min_eq_left hi], by rw [List.length_take]; omega, fun j x hj => ?_⟩
    rw [List.getElem?_take] at hj
    split at hj
    · exact h3 j x hj
    · cases hj
theorem RX.drop {w : World} {b off cap n : Nat} {e : List Xr} (h : RX w (.slice (some ⟨b, off, none⟩) n cap) e) (i : Nat) (hi : i < e.length) : RX w (.slice (some ⟨b, off + i * 5, none⟩) (n - i) (cap - i)) (e.drop i) := by
  rcases h with ⟨a, c, h1, h2⟩ | ⟨b', off', cap', h1, h2, h3⟩
  · subst h2
    simp at hi
  · injection h1 with e1 e2 e3
    injection e1 with e1
    injection e1 with e4 e5 _
    subst e4 e5 e3 e2
    refine .inr ⟨b, off + i * 5, cap - i, by rw [List.length_drop], by rw [List.length_drop]; omega, fun j x hj q u hu => ?_⟩
    rw [List.getElem?_drop] at hj
    have := h3 (i + j) x hj q u hu
    rw [show off + i * 5 + j * 5 + q = off + (i + j) * 5 + q by rw [Nat.add_mul]; omega]
    exact this
theorem rCs_inv (e : List Xr) (j : Nat) (u : Value) (h : (rCs e)[j]? = some u) : ∃ q x p, e[q]? = some x ∧ (rC x)[p]? = some u ∧ j = q * 5 + p := by
  have hj : j < e.length * 5 := by
    have := (List.getElem?_eq_some_iff.1 h).1
    rw [rCs_len] at this
    exact this
  have hq : j / 5 < e.length := by omega
  refine ⟨j / 5, e[j / 5], j % 5, List.getElem?_eq_getElem hq, ?_, by omega⟩
  rw [← rCs_at (List.getElem?_eq_getElem hq) (j % 5) (by omega), show j / 5 * 5 + j % 5 = j by omega]
  exact h
theorem iFl : ∃ i, Try.prog.info? 76 = some i ∧ i.zero = some (.agg #[.string ByteArray.empty, .string ByteArray.empty, .int .i64 0, .string ByteArray.empty, .slice none 0 0]) ∧ i.size = 5 ∧ i.bytes = 80 := by
  have h : (Try.prog.info? 76).bind (fun i => if i.size = 5 ∧ i.bytes = 80 then i.zero else none) = some (.agg #[.string ByteArray.empty, .string ByteArray.empty, .int .i64 0, .string ByteArray.empty, .slice none 0 0]) := by kernel_rfl
  cases hi : Try.prog.info? 76 with
  | none => rw [hi] at h; cases h
  | some j =>
    rw [hi] at h
    by_cases hc : j.size = 5 ∧ j.bytes = 80
    · simp [hc] at h
      exact ⟨j, rfl, h, hc.1, hc.2⟩
    · simp [hc] at h
section
variable {w : World} {ops : Array Oper} {rest : List Oper} {o : Oper} {a : Act} {Q : Exit → Act → World → Prop}
/-- a list of rows put behind a list that the call owns -/
theorem wpList_app_rows (B : Nat) (v : Value) (d : List Xr) (v2 : Value) (e : List Xr) (L : List Xr) (hL : d ++ e = L) (hgd : o.guard = none) (s x : Operand)
    (ho : o.op = .call { callee := .builtin .append, args := #[s, x], argTypes := #[26, 26] }) (hs : a.eval s = v) (hown : OX B w v d) (hx : a.eval x = v2) (h2 : RX w v2 e) (hone : ∀ x ∈ e, x.2.1.oneCell' = true)
    (hd : d.length + e.length ≤ 1000000000) (hB : B ≤ w.heap.size)
    (hk : ∀ va c w', OX B w' (.slice va L.length c) L → w.grownBy w' v.ownBlock ∨ w = w' → wpList Try.prog ops Q rest (a.put o.dst (.slice va L.length c)) w') : wpList Try.prog ops Q (o :: rest) a w := by
  subst hL
  obtain ⟨i, hi, hz, hsz, hby⟩ := iFl
  have none_ : ∀ p c, v2 = .slice p 0 c → e = [] → wpList Try.prog ops Q (o :: rest) a w := by
    rintro p c rfl rfl
    have hown0 := hown
    obtain ⟨va, vc, rfl⟩ : ∃ a c, v = .slice a d.length c := by
      rcases hown.2 with ⟨rfl, h0⟩ | ⟨g, cap, cur, rfl, _⟩
      · exact ⟨none, 0, by rw [h0]⟩
      · exact ⟨_, _, rfl⟩
    refine wpList_plain hgd fun K' hK => ?_
    have hrun := run_app_nothing (P := Try.prog) (w := w) B 26 o.type 76 i 5 Try.underlying26 hi _ _ _ hown p c
    unfold Oper.wp
    simp [execOp, ho, resolve, invoke, builtin, hs, hx, hrun, Result.andThen]
    refine hK _ _ ?_
    have := hk va vc w (by rw [List.append_nil]; exact hown0) (.inr rfl)
    rw [List.append_nil] at this
    exact this
  rcases h2 with ⟨A, cap, e1, e2⟩ | ⟨b, off, cap, e1, hcap, hx2⟩
  · exact none_ A cap e1 e2
  · by_cases h0 : e.length = 0
    · exact none_ _ cap (by rw [e1, h0]) (List.eq_nil_of_length_eq_zero h0)
    · subst e1
      refine wpList_append_lies _ hgd s x 26 ho B 76 i _ 5 80 Try.underlying26 hi hz hsz hby rfl (by decide) v d.length (rCs d) hs hown ⟨b, off, none⟩ e.length cap (rCs e) hx (rCs_len e) ?_ (rC_one e hone) (by omega) (by unfold maxLen; omega) (by omega) hB _ rfl ?_
      · intro j u hu
        obtain ⟨q, y, p, hq, hp, rfl⟩ := rCs_inv e j u hu
        rw [Addr.add_lit, ← Nat.add_assoc]; exact hx2 q y hq p u hp
      · intro g' cap' w' o1 o2 o3 o4
        have e1 : d.length + e.length = (d ++ e).length := by rw [List.length_append]
        rw [e1] at o1 ⊢
        exact hk _ _ _ (by unfold OX; rw [rCs_app]; exact o1) (.inl o2)
/-- a list of numbers put behind a list that the call owns -/
theorem wpList_app_ints (B : Nat) (v : Value) (d : List Int) (v2 : Value) (e : List Int) (L : List Int) (hL : d ++ e = L) (hgd : o.guard = none) (s x : Operand)
    (ho : o.op = .call { callee := .builtin .append, args := #[s, x], argTypes := #[40, 40] }) (hs : a.eval s = v) (hown : OI B w v d) (hx : a.eval x = v2) (h2 : IS w v2 e)
    (hd : d.length + e.length ≤ 1000000000) (hB : B ≤ w.heap.size)
    (hk : ∀ va c w', OI B w' (.slice va L.length c) L → w.grownBy w' v.ownBlock ∨ w = w' → wpList Try.prog ops Q rest (a.put o.dst (.slice va L.length c)) w') : wpList Try.prog ops Q (o :: rest) a w := by
  subst hL
  obtain ⟨i, hi, hz, hsz, hby⟩ := iInt
  have none_ : ∀ p c, v2 = .slice p 0 c → e = [] → wpList Try.prog ops Q (o :: rest) a w := by
    rintro p c rfl rfl
    have hown0 := hown
    obtain ⟨va, vc, rfl⟩ := hown.form
    refine wpList_plain hgd fun K' hK => ?_
    have hrun := run_app_nothing (P := Try.prog) (w := w) B 40 o.type 3 i 1 Try.underlying40 hi _ _ _ hown p c
    unfold Oper.wp
    simp [execOp, ho, resolve, invoke, builtin, hs, hx, hrun, Result.andThen]
    refine hK _ _ ?_
    have := hk va vc w (by rw [List.append_nil]; exact hown0) (.inr rfl)
    rw [List.append_nil] at this
    exact this
  rcases h2 with ⟨A, cap, e1, e2⟩ | ⟨b, off, cap, cs, fr, e1, hcap, hb, hx2⟩
  · exact none_ A cap e1 e2
  · by_cases h0 : e.length = 0
    · exact none_ _ cap (by rw [e1, h0]) (List.eq_nil_of_length_eq_zero h0)
    · subst e1
      refine wpList_append_lies _ hgd s x 40 ho B 3 i (nV 0) 1 8 Try.underlying40 hi hz hsz hby rfl (by decide) v d.length (d.map nV) hs hown ⟨b, off, none⟩ e.length cap (e.map nV) hx (by simp) ?_ ?_ (by omega) (by unfold maxLen; omega) (by omega) hB _ rfl ?_
      · intro j u hu
        rw [List.getElem?_map] at hu
        cases hj : e[j]? with
        | none => rw [hj] at hu; cases hu
        | some y =>
          rw [hj] at hu
          injection hu with hu
          subst hu
          rw [Addr.add_lit, cell_of_row w b (off + j) cs _ fr hb]; exact hx2 j y hj
      · intro u hu
        obtain ⟨y, _, rfl⟩ := List.mem_map.1 hu
        rfl
      · intro g' cap' w' o1 o2 o3 o4
        have e1 : d.length + e.length = (d ++ e).length := by rw [List.length_append]
        rw [e1] at o1 ⊢
        exact hk _ _ _ (by unfold OI; rw [List.map_append]; exact o1) (.inl o2)
end
/-- a part of a slice of numbers -/
theorem IS.take {w : World} {b off cap n : Nat} {e : List Int} (h : IS w (.slice (some ⟨b, off, none⟩) n cap) e) (i : Nat) (hi : i ≤ e.length) : IS w (.slice (some ⟨b, off, none⟩) i cap) (e.take i) := by
  rcases h with ⟨a, c, h1, h2⟩ | ⟨b', off', cap', cs, fr, h1, h2, hb, h3⟩
  · subst h2
    have : i = 0 := by simpa using hi
    subst this
    exact .inl ⟨_, _, rfl, rfl⟩
  · injection h1 with e1 e2 e3
    injection e1 with e1
    injection e1 with e4 e5 _
    subst e4 e5 e3
    refine .inr ⟨b, off, cap, cs, fr, by rw [List.length_take, Nat.min_eq_left hi], by rw [List.length_take]; omega, hb, fun j x hj => ?_⟩
    rw [List.getElem?_take] at hj
    split at hj
    · exact h3 j x hj
    · cases hj
theorem IS.drop {w : World} {b off cap n : Nat} {e : List Int} (h : IS w (.slice (some ⟨b, off, none⟩) n cap) e) (i : Nat) (hi : i < e.length) : IS w (.slice (some ⟨b, off + i, none⟩) (n - i) (cap - i)) (e.drop i) := by
  rcases h with ⟨a, c, h1, h2⟩ | ⟨b', off', cap', cs, fr, h1, h2, hb, h3⟩
  · subst h2
    simp at hi
  · injection h1 with e1 e2 e3
    injection e1 with e1
    injection e1 with e4 e5 _
    subst e4 e5 e3 e2
    refine .inr ⟨b, off + i, cap - i, cs, fr, by rw [List.length_drop], by rw [List.length_drop]; omega, hb, fun j x hj => ?_⟩
    rw [List.getElem?_drop] at hj
    rw [show off + i + j = off + (i + j) by omega]
    exact h3 _ _ hj
end Go.Proofs.Ytldpamlmnganmaa.FL
