/- Names of texts, plain; a text put behind a list of texts. Conditions: how many. -/
import Derived.Test.YtkifmhdceobfhaaDoorPpq
namespace Go.Proofs.YtkifmhdceobfhaaDoor.PP
open Go.ChangeShapes Go.WideShapes Go.ChangeAt Go.RowKit Go.Maps Go.ChangeMaps
open Go.Proofs.YtkifmhdceobfhaaDoor.SL
set_option maxRecDepth 100000
set_option linter.unusedVariables false
set_option linter.unusedSimpArgs false

section
variable {S : St} {c c' : Int} {t x : Tx}
theorem nee_T (c : Int) (x : Tx) (S : St) : (neeS c x S).T = if (ixT S.T x).isSome = true then S.T else S.T ++ [x] := rfl
theorem nee_D (c : Int) (x : Tx) (S : St) : (neeS c x S).D = if hasA c x S = true then S.D else S.D ++ [(c, numA x S)] := rfl
theorem nee_same (h : (ixT S.T x).isSome = true) : (neeS c x S).T = S.T := by rw [nee_T, if_pos h]
theorem ix_stay (h : (ixT S.T t).isSome = true) : ixT (neeS c x S).T t = ixT S.T t := by
  rw [nee_T]
  split
  · rfl
  · rename_i hx
    have hx : ixT S.T x = none := by cases e : ixT S.T x with | none => rfl | some i => rw [e] at hx; simp at hx
    rw [ixT_app _ _ hx, if_neg]
    intro e
    rw [e, hx] at h
    cases h
theorem num_stay (h : (ixT S.T t).isSome = true) : numA t (neeS c x S) = numA t S := by
  unfold numA
  rw [ix_stay h]
  obtain ⟨i, hi⟩ := Option.isSome_iff_exists.1 h
  rw [hi]; rfl
theorem ix_own (c : Int) (t : Tx) (S : St) : (ixT (neeS c t S).T t).isSome = true := by
  rw [nee_T]
  split
  · rename_i h; exact h
  · rename_i hx
    have hx : ixT S.T t = none := by cases e : ixT S.T t with | none => rfl | some i => rw [e] at hx; simp at hx
    rw [ixT_app _ _ hx, if_pos rfl]; rfl
theorem num_own (c : Int) (t : Tx) (S : St) : numA t (neeS c t S) = numA t S := by
  by_cases h : (ixT S.T t).isSome = true
  · exact num_stay h
  · have hx : ixT S.T t = none := by cases e : ixT S.T t with | none => rfl | some i => rw [e] at h; simp at h
    unfold numA
    rw [nee_T, if_neg h, ixT_app _ _ hx, if_pos rfl, hx]; rfl
theorem has_own (c : Int) (t : Tx) (S : St) : hasA c t (neeS c t S) = true := by
  have hn := num_own c t S
  unfold hasA
  rw [hn, nee_D]
  by_cases h : hasA c t S = true
  · rw [if_pos h]; exact h
  · rw [if_neg h, nms_app, if_pos rfl]
    exact ixN_isSome.2 (List.mem_append_right _ List.mem_cons_self)
theorem has_stay (h : hasA c t S = true) (ht : (ixT S.T t).isSome = true) : hasA c t (neeS c' x S) = true := by
  unfold hasA at *
  rw [num_stay ht, nee_D]
  have h1 := ixN_isSome.1 h
  split
  · exact h
  · rw [nms_app]
    split
    · exact ixN_isSome.2 (List.mem_append_left _ h1)
    · exact h
theorem num_inj (ht : (ixT S.T t).isSome = true) (hx : (ixT S.T x).isSome = true) (h : numA t S = numA x S) : t = x := by
  obtain ⟨i, hi⟩ := Option.isSome_iff_exists.1 ht
  obtain ⟨j, hj⟩ := Option.isSome_iff_exists.1 hx
  unfold numA at h
  rw [hi, hj] at h
  simp at h
  subst h
  have e1 := ixT_some hi
  have e2 := ixT_some hj
  rw [e1] at e2
  injection e2
theorem nee_id (h : hasA c t S = true) (ht : (ixT S.T t).isSome = true) : neeS c t S = S := by
  unfold neeS numS
  rw [if_pos h, if_pos ht]
theorem nee_len (c : Int) (x : Tx) (S : St) : (nms (neeS c x S).D c).length ≤ (nms S.D c).length + 1 := by
  rw [nee_D]
  split
  · omega
  · rw [nms_app, if_pos rfl, List.length_append]; exact Nat.le_refl _
end
/-- a text's name, by all texts -/
def nmT (T : List Tx) (t : Tx) : Tx := nm ((ixT T t).getD T.length + 1)
theorem nmT_num (t : Tx) (S : St) : nm (numA t S) = nmT S.T t := rfl
theorem nm_nonempty (k : Nat) : (nm k).toList.isEmpty = false := by
  have h1 : ((nm k).toList == ByteArray.empty.toList) = decide (nm k = ByteArray.empty) := tl_dec _ _
  have h2 : ByteArray.empty.toList = [] := by kernel_rfl
  rw [h2] at h1
  rw [show (nm k).toList.isEmpty = ((nm k).toList == []) by cases (nm k).toList <;> rfl, h1, decide_eq_false (nm_ne k)]
section
variable {B : Nat} {w w' : World} {a N : Nat} {S : St}
theorem lc_need (h : LB B w a N S) (hN : N ≤ 60000) (c : Int) (hI : I9 c) (t : Tx) (ht : t.size ≤ 281474976710656) (hk : S.T.length ≤ 98) :
    Calls Tryd.prog 15 #[ptr a, nV c, .string t] w (Ret B a (N + 2) (neeS c t S) (.tuple #[.string (nm (numA t S)), .bool (!hasA c t S)]) w) := by
  obtain ⟨C, h⟩ := h
  refine (need_any h (by omega) c hI t ht hk).mono ?_
  rintro e w' ⟨rfl, hst⟩
  exact ⟨rfl, hst.lb h rfl⟩
theorem lc_has (h : LB B w a N S) (hN : N ≤ 60000) (c : Int) (hI : I9 c) (hk : S.T.length ≤ 99) :
    Calls Tryd.prog 23 #[ptr a, nV c] w fun e w' => ∃ v, e = .returned v ∧ OT w.heap.size w' v ((nms S.D c).map nm) ∧ Below w.heap.size w w' := by
  obtain ⟨C, h⟩ := h
  exact has_any h (by omega) c hI hk
/-- cells of texts turned -/
theorem LB.row (h : LB B w a N S) {v : Value} {d : List ByteArray} {B' : Nat} (ho : OT B' w v d) (hg : w.grownBy w' v.ownBlock) : LB B w' a N S := by
  obtain ⟨C, h⟩ := h
  have ty : ∀ b, v.ownBlock = some b → ∃ cur, w.heap[b]? = some (.cells cur 9 (0, 0)) := fun b hb => by
    rcases ho.2 with ⟨rfl, _⟩ | ⟨q, cap, cur, rfl, _, hh, _⟩
    · cases hb
    · injection hb with hb
      subst hb
      exact ⟨cur, hh⟩
  refine ⟨C, h.keep (hg.block _ h.bk.lt fun e => ?_) fun b hb => hg.block b (h.lt hb) fun e => ?_⟩
  · obtain ⟨cur, hc⟩ := ty a e.symm
    have := h.bk
    unfold Bk at this
    rw [this] at hc
    injection hc with hc
    injection hc with _ hc
    exact absurd hc (by decide)
  · obtain ⟨cur, hc⟩ := ty b e.symm
    obtain ⟨es, cl, he⟩ := h.obj hb
    rw [hc] at he
    cases he
end
theorem sl_one {W : World} {b : Nat} {k : ByteArray} (h : Bk W b 9 #[.string k]) : ∀ (i : Nat) (v : Value), [Value.string k][i]? = some v → W.cell? ((⟨b, 0, none⟩ : Addr).add i) = some v := by
  intro i v hi
  rw [Addr.add_lit, Nat.zero_add]
  rw [h.cell i]
  simpa using hi
/-- one text more -/
theorem wpList_app_text {w : World} {ops : Array Oper} {rest : List Oper} {o : Oper} {a : Act} {Q : Exit → Act → World → Prop} (B : Nat) (v : Value) (d : List ByteArray) (k : ByteArray) (b : Nat) (hgd : o.guard = none) (s x : Operand)
    (ho : o.op = .call { callee := .builtin .append, args := #[s, x], argTypes := #[27, 27] }) (hs : a.eval s = v) (hown : OT B w v d) (hx : a.eval x = .slice (some ⟨b, 0, none⟩) 1 1) (hb : Bk w b 9 #[.string k])
    (hd : d.length ≤ 1099511627776) (hB : B ≤ w.heap.size)
    (hk : ∀ g cap w', OT B w' (.slice (some ⟨g, 0, none⟩) (d.length + 1) cap) (d ++ [k]) → w.grownBy w' v.ownBlock → wpList Tryd.prog ops Q rest (a.put o.dst (.slice (some ⟨g, 0, none⟩) (d.length + 1) cap)) w') : wpList Tryd.prog ops Q (o :: rest) a w := by
  obtain ⟨i, hi, hz, hsz, hby⟩ := iTx
  refine wpList_append_lies _ hgd s x 27 ho B 9 i (.string ByteArray.empty) 1 16 Tryd.underlying27 hi hz hsz hby rfl (by decide) v d.length (d.map bV) hs hown ⟨b, 0, none⟩ 1 1 [.string k] hx rfl (sl_one hb) (by intro u hu; simp at hu; subst hu; rfl) (by decide) (by unfold maxLen; omega) (by omega) hB _ rfl ?_
  intro g cap w' h1 h2 h3 h4
  refine hk g cap w' ?_ h2
  unfold OT
  rw [List.length_append, List.map_append]
  exact h1
end Go.Proofs.YtkifmhdceobfhaaDoor.PP
