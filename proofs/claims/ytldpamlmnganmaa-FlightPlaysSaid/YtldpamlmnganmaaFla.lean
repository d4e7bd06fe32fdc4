/- Flights as plain data: keys with their clients, the leader first. No program; no condition. -/
import Derived.Test.YtldpamlmnganmaaSla
namespace Go.Proofs.Ytldpamlmnganmaa.FL
set_option maxRecDepth 100000
set_option linter.unusedVariables false
set_option linter.unusedSimpArgs false

/-- a key: the database, the role, the format, the normal form -/
abbrev Ky : Type := ByteArray × ByteArray × Int × ByteArray
def FitK (k : Ky) : Prop := k.1.size ≤ 1099511627776 ∧ k.2.1.size ≤ 1099511627776 ∧ k.2.2.2.size ≤ 1099511627776 ∧ (-9223372036854775808 ≤ k.2.2.1 ∧ k.2.2.1 ≤ 9223372036854775807)
/-- a number that a machine can have -/
def I9 (n : Int) : Prop := -9223372036854775808 ≤ n ∧ n ≤ 9223372036854775807
/-- a flight: its key, its clients, the leader first -/
abbrev Fl : Type := Ky × List Int
def findF (S : List Fl) (k : Ky) : Option (List Int) := (S.find? fun t => decide (t.1 = k)).map (·.2)
def ofF (S : List Fl) (c : Int) : Option Fl := S.find? fun t => decide (c ∈ t.2)
def openS (S : List Fl) (k : Ky) (c : Int) : List Fl := S ++ [(k, [c])]
def joinS (S : List Fl) (k : Ky) (c : Int) : List Fl := S.map fun t => if t.1 = k then (t.1, t.2 ++ [c]) else t
def closeS (S : List Fl) (k : Ky) : List Fl := S.filter fun t => decide (t.1 ≠ k)
def quitS (S : List Fl) (k : Ky) (c : Int) : List Fl := S.map fun t => if t.1 = k then (t.1, t.2.filter fun x => decide (x ≠ c)) else t
/-- Ask: what there is behind it, who leads, the error -/
def askS (S : List Fl) (k : Ky) (c : Int) : List Fl × Bool × Int :=
  if c < 0 then (S, false, 1) else if (ofF S c).isSome then (S, false, 10) else if (findF S k).isSome then (joinS S k c, false, 0) else (openS S k c, true, 0)
def landS (S : List Fl) (k : Ky) : List Fl × Int × List Int × Bool :=
  match findF S k with
  | none => (S, 0, [], false)
  | some l => (closeS S k, l.headD 0, l.tail, true)
def leaveS (S : List Fl) (c : Int) : List Fl × List Int × Bool :=
  match ofF S c with
  | none => (S, [], false)
  | some t => if t.2.headD 0 = c then (closeS S t.1, t.2.tail, true) else (quitS S t.1 c, [], true)
def leadS (S : List Fl) (k : Ky) : Int × Bool := (((findF S k).getD []).headD 0, (findF S k).isSome)
def zKy : Ky := (⟨#[]⟩, ⟨#[]⟩, 0, ⟨#[]⟩)
def waitS (S : List Fl) (c : Int) : Ky × Bool := (((ofF S c).map (·.1)).getD zKy, (ofF S c).isSome)
/-- keys differ, clients differ, nobody flies alone without a client -/
structure WF (S : List Fl) : Prop where
  keys : (S.map (·.1)).Nodup
  fit : ∀ t ∈ S, FitK t.1
  some_ : ∀ t ∈ S, t.2 ≠ []
  pos : ∀ t ∈ S, ∀ c ∈ t.2, 0 ≤ c ∧ c ≤ 9223372036854775807
section
variable {S : List Fl} {k x : Ky} {c : Int} {l : List Int}
theorem findF_mem (h : findF S k = some l) : (k, l) ∈ S := by
  unfold findF at h
  cases hf : S.find? fun t => decide (t.1 = k) with
  | none => rw [hf] at h; cases h
  | some t =>
    rw [hf] at h
    injection h with h
    have h1 := List.mem_of_find?_eq_some hf
    have h2 : t.1 = k := by simpa using List.find?_some hf
    obtain ⟨t1, t2⟩ := t
    simp only at h h2
    subst h h2
    exact h1
theorem findF_of (hn : (S.map (·.1)).Nodup) (h : (k, l) ∈ S) : findF S k = some l := by
  induction S with
  | nil => cases h
  | cons t S ih =>
    rw [List.map_cons, List.nodup_cons] at hn
    unfold findF at ih ⊢
    rw [List.find?_cons]
    by_cases e : t.1 = k
    · simp only [e, decide_true, Option.map_some]
      rcases List.mem_cons.1 h with h | h
      · rw [← h]
      · exact absurd (List.mem_map.2 ⟨(k, l), h, e.symm⟩) hn.1
    · simp only [e, decide_false]
      rcases List.mem_cons.1 h with h | h
      · exact absurd (by rw [← h]) e
      · exact ih hn.2 h
theorem findF_none (h : findF S k = none) : ∀ t ∈ S, t.1 ≠ k := by
  unfold findF at h
  rw [Option.map_eq_none_iff, List.find?_eq_none] at h
  intro t ht
  simpa using h t ht
theorem findF_no (h : ∀ t ∈ S, t.1 ≠ k) : findF S k = none := by
  unfold findF
  rw [Option.map_eq_none_iff, List.find?_eq_none]
  intro t ht
  simpa using h t ht
theorem ofF_mem {t : Fl} (h : ofF S c = some t) : t ∈ S ∧ c ∈ t.2 := ⟨List.mem_of_find?_eq_some h, by simpa using List.find?_some h⟩
theorem ofF_none (h : ofF S c = none) : ∀ t ∈ S, c ∉ t.2 := by
  unfold ofF at h
  rw [List.find?_eq_none] at h
  intro t ht
  simpa using h t ht
theorem ofF_no (h : ∀ t ∈ S, c ∉ t.2) : ofF S c = none := by
  unfold ofF
  rw [List.find?_eq_none]
  intro t ht
  simpa using h t ht
theorem findF_open (h : findF S k = none) : findF (openS S k c) x = if x = k then some [c] else findF S x := by
  unfold findF openS
  rw [List.find?_append]
  by_cases e : x = k
  · subst e
    unfold findF at h
    rw [Option.map_eq_none_iff] at h
    rw [if_pos rfl, h]
    simp
  · rw [if_neg e]
    have : ([(k, [c])] : List Fl).find? (fun t => decide (t.1 = x)) = none := by simp [Ne.symm e]
    rw [this, Option.or_none]
theorem findF_map (f : List Int → List Int) : findF (S.map fun t => if t.1 = k then (t.1, f t.2) else t) x = if x = k then (findF S k).map f else findF S x := by
  induction S with
  | nil => by_cases e : x = k <;> simp [findF]
  | cons t S ih =>
    unfold findF at ih ⊢
    rw [List.map_cons, List.find?_cons, List.find?_cons, List.find?_cons]
    by_cases et : t.1 = k
    · rw [if_pos et]
      simp only [et]
      by_cases ex : x = k
      · rw [if_pos ex]; simp [ex]
      · rw [if_neg ex] at ih ⊢
        simp only [Ne.symm ex, decide_false]
        exact ih
    · rw [if_neg et]
      by_cases ex : x = k
      · rw [if_pos ex] at ih ⊢
        simp only [ex, et, decide_false]
        rw [ex] at ih
        exact ih
      · rw [if_neg ex] at ih ⊢
        by_cases e2 : t.1 = x
        · simp [e2]
        · simp only [e2, decide_false]; exact ih
theorem findF_close : findF (closeS S k) x = if x = k then none else findF S x := by
  by_cases e : x = k
  · rw [if_pos e]
    refine findF_no fun t ht => ?_
    rw [e]
    simpa using (List.mem_filter.1 ht).2
  · rw [if_neg e]
    unfold findF closeS
    rw [List.find?_filter]
    congr 2
    funext t
    by_cases e2 : t.1 = x
    · simp [e2, e]
    · simp [e2]
theorem WF.nil : WF [] := ⟨List.nodup_nil, fun t h => (by cases h), fun t h => (by cases h), fun t h => (by cases h)⟩
theorem WF.opened (h : WF S) (hk : findF S k = none) (hf : FitK k) (hc : 0 ≤ c ∧ c ≤ 9223372036854775807) : WF (openS S k c) := by
  refine ⟨?_, fun t ht => ?_, fun t ht => ?_, fun t ht => ?_⟩
  · unfold openS
    rw [List.map_append, List.nodup_append]
    refine ⟨h.keys, by simp, ?_⟩
    intro a ha b hb
    obtain ⟨t, ht, rfl⟩ := List.mem_map.1 ha
    obtain rfl : b = k := by simpa using hb
    exact findF_none hk t ht
  all_goals rcases List.mem_append.1 ht with h1 | h1
  · exact h.fit t h1
  · obtain rfl : t = (k, [c]) := by simpa using h1
    exact hf
  · exact h.some_ t h1
  · obtain rfl : t = (k, [c]) := by simpa using h1
    simp
  · exact h.pos t h1
  · obtain rfl : t = (k, [c]) := by simpa using h1
    intro c' hc'
    obtain rfl : c' = c := by simpa using hc'
    exact hc
theorem WF.mapped (h : WF S) (f : List Int → List Int) (h1 : ∀ l, (k, l) ∈ S → f l ≠ []) (h2 : ∀ l, (k, l) ∈ S → ∀ c ∈ f l, 0 ≤ c ∧ c ≤ 9223372036854775807) : WF (S.map fun t => if t.1 = k then (t.1, f t.2) else t) := by
  have hm : ∀ t ∈ (S.map fun t => if t.1 = k then (t.1, f t.2) else t), t ∈ S ∨ ∃ l, (k, l) ∈ S ∧ t = (k, f l) := by
    intro t ht
    obtain ⟨u, hu, rfl⟩ := List.mem_map.1 ht
    by_cases e : u.1 = k
    · rw [if_pos e]
      obtain ⟨u1, u2⟩ := u
      simp only at e
      subst e
      exact .inr ⟨u2, hu, rfl⟩
    · rw [if_neg e]; exact .inl hu
  refine ⟨?_, fun t ht => ?_, fun t ht => ?_, fun t ht => ?_⟩
  · rw [List.map_map]
    have : ((fun t : Fl => t.1) ∘ fun t : Fl => if t.1 = k then (t.1, f t.2) else t) = fun t => t.1 := by
      funext t
      show (if t.1 = k then (t.1, f t.2) else t).1 = t.1
      by_cases e : t.1 = k
      · rw [if_pos e]
      · rw [if_neg e]
    rw [this]; exact h.keys
  all_goals rcases hm t ht with h3 | ⟨l, h3, rfl⟩
  · exact h.fit t h3
  · exact h.fit (k, l) h3
  · exact h.some_ t h3
  · exact h1 l h3
  · exact h.pos t h3
  · exact h2 l h3
theorem WF.closed (h : WF S) : WF (closeS S k) := by
  have hm : ∀ t ∈ closeS S k, t ∈ S := fun t ht => (List.mem_filter.1 ht).1
  exact ⟨h.keys.sublist (List.filter_sublist.map _), fun t ht => h.fit t (hm t ht), fun t ht => h.some_ t (hm t ht), fun t ht => h.pos t (hm t ht)⟩
theorem headD_mem (h : l ≠ []) : l.headD 0 ∈ l := by
  cases l with
  | nil => exact absurd rfl h
  | cons a l => simp
end
/-- the numbers of those who follow, with these -/
def lk : List (Int × Int) → Int → Option Int
  | [], _ => none
  | p :: l, j => if p.1 = j then some p.2 else lk l j
theorem lk_none {l : List (Int × Int)} {j : Int} (h : ∀ p ∈ l, p.1 ≠ j) : lk l j = none := by
  induction l with
  | nil => rfl
  | cons p l ih =>
    unfold lk
    rw [if_neg (h p List.mem_cons_self)]
    exact ih fun q hq => h q (List.mem_cons_of_mem _ hq)
theorem lk_app {l : List (Int × Int)} {j n c : Int} (h : ∀ p ∈ l, p.1 ≠ n) : lk (l ++ [(n, c)]) j = if j = n then some c else lk l j := by
  induction l with
  | nil =>
    show (if n = j then some c else none) = if j = n then some c else none
    by_cases e : n = j
    · rw [if_pos e, if_pos e.symm]
    · rw [if_neg e, if_neg (Ne.symm e)]
  | cons p l ih =>
    show (if p.1 = j then some p.2 else lk (l ++ [(n, c)]) j) = if j = n then some c else if p.1 = j then some p.2 else lk l j
    rw [ih fun q hq => h q (List.mem_cons_of_mem _ hq)]
    by_cases e : p.1 = j
    · have hj : j ≠ n := by rw [← e]; exact h p List.mem_cons_self
      rw [if_pos e, if_neg hj, if_pos e]
    · rw [if_neg e, if_neg e]
theorem lk_del {l : List (Int × Int)} {j n : Int} : lk (l.filter fun p => decide (p.1 ≠ n)) j = if j = n then none else lk l j := by
  induction l with
  | nil => show none = if j = n then none else none; simp
  | cons p l ih =>
    by_cases e : p.1 = n
    · rw [List.filter_cons_of_neg (by simp [e]), ih]
      by_cases ej : j = n
      · rw [if_pos ej, if_pos ej]
      · rw [if_neg ej, if_neg ej]
        show _ = if p.1 = j then some p.2 else lk l j
        rw [if_neg (by rw [e]; exact Ne.symm ej)]
    · rw [List.filter_cons_of_pos (by simp [e])]
      show (if p.1 = j then some p.2 else lk (l.filter fun p => decide (p.1 ≠ n)) j) = if j = n then none else if p.1 = j then some p.2 else lk l j
      rw [ih]
      by_cases ep : p.1 = j
      · have hj : j ≠ n := by rw [← ep]; exact e
        rw [if_pos ep, if_neg hj, if_pos ep]
      · rw [if_neg ep, if_neg ep]
theorem lk_mem {l : List (Int × Int)} (h : l.Pairwise fun p q => p.1 < q.1) {j c : Int} : lk l j = some c ↔ (j, c) ∈ l := by
  induction l with
  | nil => simp [lk]
  | cons p l ih =>
    rw [List.pairwise_cons] at h
    show (if p.1 = j then some p.2 else lk l j) = some c ↔ _
    rw [List.mem_cons]
    by_cases e : p.1 = j
    · rw [if_pos e]
      constructor
      · intro hc
        injection hc with hc
        exact .inl (by rw [← e, ← hc])
      · rintro (hc | hc)
        · rw [← hc]
        · have := h.1 _ hc
          simp only at this
          omega
    · rw [if_neg e, ih h.2]
      constructor
      · exact .inr
      · rintro (hc | hc)
        · exact absurd (by rw [← hc]) e
        · exact hc
theorem lk_isSome {l : List (Int × Int)} {j : Int} : (lk l j).isSome = true ↔ j ∈ l.map (·.1) := by
  induction l with
  | nil => simp [lk]
  | cons p l ih =>
    show (if p.1 = j then some p.2 else lk l j).isSome = true ↔ _
    rw [List.map_cons, List.mem_cons, ← ih]
    by_cases e : p.1 = j
    · simp [e]
    · rw [if_neg e]
      constructor
      · exact .inr
      · rintro (h | h)
        · exact absurd h.symm e
        · exact h
end Go.Proofs.Ytldpamlmnganmaa.FL
