/- What is due and what stays, as plain lists: how many, each once. No program. -/
import Derived.Test.YtfilmbeoggmglaaExv
namespace Go.Proofs.Ytfilmbeoggmglaa.EX
open Go.ChangeShapes Go.WideShapes Go.ChangeAt Go.RowKit Go.Maps Go.ChangeMaps
open Go.Proofs.Ytfilmbeoggmglaa.SL Go.Proofs.Ytfilmbeoggmglaa.RW
set_option maxRecDepth 100000
set_option linter.unusedVariables false
set_option linter.unusedSimpArgs false

def Rng (I : List It) : Prop := ∀ e ∈ I, 0 ≤ e.2 ∧ e.2 ≤ 1099511627776
theorem Rng.setI {k : ByteArray} {t : Int} {I : List It} (h : Rng I) (ht : 0 ≤ t ∧ t ≤ 1099511627776) : Rng (setI k t I) := fun y hy => by
  rcases mem_setI hy with rfl | hy
  · exact ht
  · exact h y hy
theorem drop_len (k : ByteArray) : ∀ I : List It, (keysI I).Nodup → (dropI k I).length + (if (atI k I).isSome then 1 else 0) = I.length
  | [], _ => rfl
  | e :: I, h => by
    obtain ⟨h1, h2⟩ := List.nodup_cons.1 h
    have ih := drop_len k I h2
    by_cases hk : e.1 = k
    · have e1 : dropI k (e :: I) = I := by
        unfold dropI
        rw [List.filter_cons, if_neg (by simp [hk]), List.filter_eq_self]
        intro y hy
        exact decide_eq_true fun hy2 => h1 (by show e.1 ∈ _; rw [hk, ← hy2]; exact List.mem_map_of_mem (f := (·.1)) hy)
      have e2 : atI k (e :: I) = some e.2 := by unfold atI; simp [hk]
      rw [e1, e2]; rfl
    · have e1 : dropI k (e :: I) = e :: dropI k I := by unfold dropI; rw [List.filter_cons, if_pos (by simp [hk])]
      have e2 : atI k (e :: I) = atI k I := by unfold atI; rw [List.find?_cons, decide_eq_false hk]
      rw [e1, e2, List.length_cons, List.length_cons]; omega
theorem le_gt_len (t : Int) : ∀ I : List It, (leI t I).length + (gtI t I).length = I.length
  | [] => rfl
  | e :: I => by
    have ih := le_gt_len t I
    unfold leI gtI at ih ⊢
    rw [List.filter_cons, List.filter_cons]
    by_cases hx : t < e.2 <;> simp [hx] <;> omega
theorem set_len {k : ByteArray} {I : List It} (h : (keysI I).Nodup) (t : Int) : (setI k t I).length + (if (atI k I).isSome then 1 else 0) = I.length + 1 := by
  have h1 := drop_len k I h
  have h2 := le_gt_len t (dropI k I)
  unfold setI
  rw [List.length_append, List.length_cons]; omega
theorem atI_of : ∀ {I : List It}, (keysI I).Nodup → ∀ {e : It}, e ∈ I → atI e.1 I = some e.2
  | f :: I, h, e, he => by
    obtain ⟨h1, h2⟩ := List.nodup_cons.1 h
    rcases List.mem_cons.1 he with rfl | he
    · unfold atI; simp
    · have hne : f.1 ≠ e.1 := fun hy2 => h1 (by show f.1 ∈ _; rw [hy2]; exact List.mem_map_of_mem (f := (·.1)) he)
      have e2 : atI e.1 (f :: I) = atI e.1 I := by unfold atI; rw [List.find?_cons, decide_eq_false hne]
      rw [e2]; exact atI_of h2 he
theorem at_le_gt {I : List It} (h : (keysI I).Nodup) {now : Int} {e : It} (he : e ∈ leI now I) : atI e.1 I = some e.2 ∧ atI e.1 (gtI now I) = none ∧ ¬ now < e.2 := by
  obtain ⟨h1, h2⟩ := List.mem_filter.1 he
  have h3 : ¬ now < e.2 := by simpa using h2
  refine ⟨atI_of h h1, atI_none fun f hf hfe => ?_, h3⟩
  obtain ⟨f1, f2⟩ := List.mem_filter.1 hf
  have a1 := atI_of h h1
  have a2 := atI_of h f1
  rw [hfe, a1] at a2
  injection a2 with a2
  have f3 : now < f.2 := by simpa using f2
  omega
theorem gt_gt (now : Int) (I : List It) : gtI now (gtI now I) = gtI now I := by unfold gtI; rw [List.filter_filter]; simp
theorem le_gt (now : Int) (I : List It) : leI now (gtI now I) = [] := by
  unfold leI; rw [List.filter_eq_nil_iff]; intro y hy
  have := (List.mem_filter.1 hy).2
  simpa using this
theorem Rng.le {I : List It} (h : Rng I) : leI 1099511627776 I = I := by
  unfold leI; rw [List.filter_eq_self]; intro y hy
  have := h y hy
  simp; omega
theorem Rng.gt {I : List It} (h : Rng I) : gtI 1099511627776 I = [] := by
  unfold gtI; rw [List.filter_eq_nil_iff]; intro y hy
  have := h y hy
  simp; omega
theorem lq_keysN {w0 w : World} {g n : Nat} {I : List It} {O : List Kp} (h : LQ w0 w g n I O) (hn : n ≤ 1000000) (d : List ByteArray) (hd : keysI I = d) (N : Nat) (hN : d.length = N) :
    Calls Try.prog 38 #[ptr g] w fun e w' => ∃ v c, e = .returned (.slice v N c) ∧ Below w.heap.size w w' ∧ LQ w0 w' g n I (.txt (.slice v N c) d :: O) := by
  subst hN; exact lq_keys h hn d hd
end Go.Proofs.Ytfilmbeoggmglaa.EX
