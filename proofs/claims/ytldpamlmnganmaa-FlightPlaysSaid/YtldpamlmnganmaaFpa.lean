/- Places in lists, and what the document's board makes of its list, as plain data. No program; no condition. -/
import Derived.Test.YtldpamlmnganmaaFlw
namespace Go.Proofs.Ytldpamlmnganmaa.FL
set_option maxRecDepth 100000
set_option linter.unusedVariables false
set_option linter.unusedSimpArgs false

/-- the first place at which p holds -/
def pos {α : Type} (p : α → Bool) : List α → Option Nat
  | [] => none
  | a :: l => if p a = true then some 0 else (pos p l).map (· + 1)
def posI (o : Option Nat) : Int := match o with
  | some i => (i : Int)
  | none => -1
section
variable {α : Type} {p : α → Bool} {l : List α}
theorem pos_at {i : Nat} {a : α} (h : l[i]? = some a) (ha : p a = true) (hn : ∀ e ∈ l.take i, p e = false) : pos p l = some i := by
  induction l generalizing i with
  | nil => simp at h
  | cons b l ih =>
    unfold pos
    cases i with
    | zero =>
      simp at h
      subst h
      rw [if_pos ha]
    | succ i =>
      rw [if_neg (by rw [hn b (by simp)]; simp), ih (by simpa using h) (fun e he => hn e (by rw [List.take_succ_cons]; exact List.mem_cons_of_mem _ he))]
      rfl
theorem pos_no (hn : ∀ e ∈ l, p e = false) : pos p l = none := by
  induction l with
  | nil => rfl
  | cons b l ih =>
    unfold pos
    rw [if_neg (by rw [hn b List.mem_cons_self]; simp), ih fun e he => hn e (List.mem_cons_of_mem _ he)]
    rfl
theorem pos_inv {i : Nat} (h : pos p l = some i) : ∃ a, l[i]? = some a ∧ p a = true ∧ ∀ e ∈ l.take i, p e = false := by
  induction l generalizing i with
  | nil => cases h
  | cons b l ih =>
    unfold pos at h
    by_cases hb : p b = true
    · rw [if_pos hb] at h
      injection h with h
      subst h
      exact ⟨b, rfl, hb, fun e he => by simp at he⟩
    · rw [if_neg hb] at h
      cases hp : pos p l with
      | none => rw [hp] at h; cases h
      | some j =>
        rw [hp] at h
        have h1 : j + 1 = i := by injection h
        subst h1
        obtain ⟨a, h1, h2, h3⟩ := ih hp
        refine ⟨a, by simpa using h1, h2, fun e he => ?_⟩
        rw [List.take_succ_cons] at he
        rcases List.mem_cons.1 he with rfl | he
        · simpa using hb
        · exact h3 e he
theorem pos_none (h : pos p l = none) : ∀ e ∈ l, p e = false := by
  induction l with
  | nil => intro e he; cases he
  | cons b l ih =>
    unfold pos at h
    by_cases hb : p b = true
    · rw [if_pos hb] at h; cases h
    · rw [if_neg hb, Option.map_eq_none_iff] at h
      intro e he
      rcases List.mem_cons.1 he with rfl | he
      · simpa using hb
      · exact ih h e he
theorem pos_find : (pos p l).bind (fun i => l[i]?) = l.find? p := by
  induction l with
  | nil => rfl
  | cons b l ih =>
    unfold pos
    rw [List.find?_cons]
    by_cases hb : p b = true
    · rw [if_pos hb, hb]; rfl
    · rw [if_neg hb, show p b = false by simpa using hb]
      rw [← ih]
      cases pos p l <;> simp
end
def isK (k : Ky) (t : Fl) : Bool := decide (t.1 = k)
def hasC (c : Int) (t : Fl) : Bool := decide (c ∈ t.2)
section
variable {S : List Fl} {k : Ky} {c : Int} {i : Nat} {t : Fl}
theorem findF_pos (h : pos (isK k) S = some i) : ∃ l, S[i]? = some (k, l) ∧ findF S k = some l := by
  obtain ⟨a, h1, h2, _⟩ := pos_inv h
  have he : a.1 = k := of_decide_eq_true h2
  obtain ⟨a1, a2⟩ := a
  simp only at he
  subst he
  refine ⟨a2, h1, ?_⟩
  have := pos_find (p := isK a1) (l := S)
  rw [h] at this
  simp only [Option.bind_some, h1] at this
  unfold findF
  rw [show (fun t : Fl => decide (t.1 = a1)) = isK a1 from rfl, ← this]
  rfl
theorem findF_npos (h : pos (isK k) S = none) : findF S k = none := by
  have := pos_find (p := isK k) (l := S)
  rw [h] at this
  unfold findF
  rw [show (fun t : Fl => decide (t.1 = k)) = isK k from rfl, ← this]
  rfl
theorem ofF_pos (h : pos (hasC c) S = some i) : ∃ t, S[i]? = some t ∧ ofF S c = some t ∧ c ∈ t.2 := by
  obtain ⟨a, h1, h2, _⟩ := pos_inv h
  refine ⟨a, h1, ?_, of_decide_eq_true h2⟩
  have := pos_find (p := hasC c) (l := S)
  rw [h] at this
  simp only [Option.bind_some, h1] at this
  exact this.symm
theorem ofF_npos (h : pos (hasC c) S = none) : ofF S c = none := by
  have := pos_find (p := hasC c) (l := S)
  rw [h] at this
  exact this.symm
/-- a flight is where its key is, alone -/
theorem close_at (hn : (S.map (·.1)).Nodup) (h : S[i]? = some t) : closeS S t.1 = S.take i ++ S.drop (i + 1) := by
  induction S generalizing i with
  | nil => simp at h
  | cons u S ih =>
    rw [List.map_cons, List.nodup_cons] at hn
    unfold closeS at *
    cases i with
    | zero =>
      simp at h
      subst h
      rw [List.filter_cons_of_neg (by simp)]
      have hS : (S.filter fun t => decide (t.1 ≠ u.1)) = S := List.filter_eq_self.2 fun x hx => decide_eq_true fun e => hn.1 (List.mem_map.2 ⟨x, hx, e⟩)
      rw [hS]
      rfl
    | succ i =>
      have h2 : S[i]? = some t := by simpa using h
      have hne : u.1 ≠ t.1 := fun e => hn.1 (List.mem_map.2 ⟨t, List.mem_of_getElem? h2, e.symm⟩)
      rw [List.filter_cons_of_pos (by simpa using hne), ih hn.2 h2]
      rfl
theorem map_at (hn : (S.map (·.1)).Nodup) (h : S[i]? = some t) (f : List Int → List Int) : (S.map fun u => if u.1 = t.1 then (u.1, f u.2) else u) = S.set i (t.1, f t.2) := by
  induction S generalizing i with
  | nil => simp at h
  | cons u S ih =>
    rw [List.map_cons, List.nodup_cons] at hn
    rw [List.map_cons]
    cases i with
    | zero =>
      simp at h
      subst h
      rw [if_pos rfl, List.set_cons_zero]
      congr 1
      conv => rhs; rw [← List.map_id S]
      refine List.map_congr_left fun x hx => ?_
      rw [if_neg fun e => hn.1 (List.mem_map.2 ⟨x, hx, e⟩)]
      rfl
    | succ i =>
      have h2 : S[i]? = some t := by simpa using h
      have hne : u.1 ≠ t.1 := fun e => hn.1 (List.mem_map.2 ⟨t, List.mem_of_getElem? h2, e.symm⟩)
      rw [if_neg hne, ih hn.2 h2, List.set_cons_succ]
theorem join_at (hn : (S.map (·.1)).Nodup) (h : S[i]? = some t) : joinS S t.1 c = S.set i (t.1, t.2 ++ [c]) := map_at hn h fun l => l ++ [c]
theorem quit_at (hn : (S.map (·.1)).Nodup) (h : S[i]? = some t) : quitS S t.1 c = S.set i (t.1, t.2.filter fun x => decide (x ≠ c)) := map_at hn h fun l => l.filter fun x => decide (x ≠ c)
/-- one of several that differ is left out at its place -/
theorem filter_at {l : List Int} (hn : l.Nodup) {j : Nat} (h : l[j]? = some c) : (l.filter fun x => decide (x ≠ c)) = l.take j ++ l.drop (j + 1) := by
  induction l generalizing j with
  | nil => simp at h
  | cons b l ih =>
    rw [List.nodup_cons] at hn
    cases j with
    | zero =>
      simp at h
      subst h
      have hS : (l.filter fun x => decide (x ≠ b)) = l := List.filter_eq_self.2 fun x hx => decide_eq_true fun e => hn.1 (by rw [← e]; exact hx)
      rw [List.filter_cons_of_neg (by simp), hS]
      rfl
    | succ j =>
      have h2 : l[j]? = some c := by simpa using h
      have hne : b ≠ c := fun e => hn.1 (by rw [e]; exact List.mem_of_getElem? h2)
      rw [List.filter_cons_of_pos (by simpa using hne), ih hn.2 h2]
      rfl
end
end Go.Proofs.Ytldpamlmnganmaa.FL
