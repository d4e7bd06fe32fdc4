/- Package line, plain: places, numbered ones, those without twins. No program; no condition. -/
import Derived.Test.YtckodebcigmkgaaLnk
namespace Go.Proofs.Ytckodebcigmkgaa.LN
open Go.ChangeShapes Go.WideShapes Go.ChangeAt Go.RowKit
open Go.Proofs.Ytckodebcigmkgaa.SL Go.Proofs.Ytckodebcigmkgaa.RW
set_option maxRecDepth 100000
set_option linter.unusedVariables false
set_option linter.unusedSimpArgs false

theorem place_at {l : List Wt} {id : Int} {k : Nat} {p : Wt} (h : l[k]? = some p) (hp : p.1 = id) (hn : ∀ t q, t < k → l[t]? = some q → q.1 ≠ id) : placeS l id = (k : Int) := by
  unfold placeS idx
  obtain ⟨hk, hkp⟩ := List.getElem?_eq_some_iff.1 h
  have : l.findIdx? (fun p => decide (p.1 = id)) = some k := List.findIdx?_eq_some_iff_getElem.2 ⟨hk, by rw [hkp]; exact decide_eq_true hp, fun t ht => by
    have := hn t l[t] ht (List.getElem?_eq_getElem (by omega))
    simpa using this⟩
  rw [this]; rfl
theorem place_none {l : List Wt} {id : Int} (h : ∀ p ∈ l, p.1 ≠ id) : placeS l id = -1 := by
  unfold placeS idx
  have : l.findIdx? (fun p => decide (p.1 = id)) = none := List.findIdx?_eq_none_iff.2 fun p hp => by simpa using h p hp
  rw [this]; rfl
theorem place_neg {l : List Wt} {id : Int} (h : ¬ 0 ≤ placeS l id) : ∀ p ∈ l, p.1 ≠ id := fun p hp e => h (place_nonneg.2 ⟨p, hp, e⟩)
/-- the place behind all others -/
theorem place_end {l : List Wt} {id t : Int} (h : ∀ p ∈ l, p.1 ≠ id) : placeS (l ++ [(id, t)]) id = (l.length : Int) :=
  place_at (p := (id, t)) (by simp) rfl fun q p hq hp => by
    rw [List.getElem?_append_left hq] at hp
    exact h p (List.mem_of_getElem? hp)
/-- n of them, from a on, with the deadlines U -/
def sq (U : Nat → Int) (a n : Nat) : List Wt := (List.range n).map fun j => (((a + j : Nat) : Int), U (a + j))
section
variable {U : Nat → Int} {a n : Nat}
theorem sq_len (U : Nat → Int) (a n : Nat) : (sq U a n).length = n := by unfold sq; simp
theorem sq_at {k : Nat} (h : k < n) : (sq U a n)[k]? = some (((a + k : Nat) : Int), U (a + k)) := by
  unfold sq
  rw [List.getElem?_map, List.getElem?_range h]; rfl
theorem sq_succ (U : Nat → Int) (a n : Nat) : sq U a (n + 1) = sq U a n ++ [(((a + n : Nat) : Int), U (a + n))] := by
  unfold sq
  rw [List.range_succ, List.map_append]; rfl
theorem sq_app (U : Nat → Int) (a n m : Nat) : sq U a (n + m) = sq U a n ++ sq U (a + n) m := by
  induction m with
  | zero => simp [sq]
  | succ m ih => rw [← Nat.add_assoc, sq_succ, ih, sq_succ, List.append_assoc, Nat.add_assoc]
theorem sq_mem {p : Wt} (h : p ∈ sq U a n) : (a : Int) ≤ p.1 ∧ p.1 < (a : Int) + (n : Int) := by
  unfold sq at h
  obtain ⟨j, hj, rfl⟩ := List.mem_map.1 h
  have := List.mem_range.1 hj
  simp only
  omega
theorem place_sq {k : Nat} (h : k < n) : placeS (sq U 0 n) (k : Int) = (k : Int) :=
  place_at (sq_at h) (by simp) fun t q ht hq => by
    rw [sq_at (by omega)] at hq
    injection hq with hq
    subst hq
    simp only
    omega
theorem place_sq_none {id : Int} (h : id < 0 ∨ (n : Int) ≤ id) : placeS (sq U 0 n) id = -1 := place_none fun p hp => by
  have := sq_mem hp
  omega
theorem join_sq {t : Int} (ht : 0 ≤ t ∧ t ≤ 1099511627776) (hn : n < 10000) (hU : U n = t) : joinS 10000 (sq U 0 n) (n : Int) t = (sq U 0 (n + 1), 0) := by
  unfold joinS
  rw [if_neg (by omega), place_sq_none (.inr (Int.le_refl _)), if_neg (by decide), if_neg (by rw [sq_len]; omega), sq_succ, Nat.zero_add, hU]
/-- what is left of n of them, when the k'th leaves -/
def lv (U : Nat → Int) (k r : Nat) : List Wt := sq U 0 k ++ sq U (k + 1) r
theorem stay_sq {id : Int} (h : id < (a : Int) ∨ (a : Int) + (n : Int) ≤ id) : stayS (isId id) (sq U a n) = sq U a n := (goneS_none (q := isId id) fun p hp => by
  have := sq_mem hp
  unfold isId
  exact decide_eq_false (by omega)).2
theorem leave_sq (k r : Nat) : leaveS (sq U 0 (k + 1 + r)) (k : Int) = (lv U k r, true) := by
  have h1 : (leaveS (sq U 0 (k + 1 + r)) (k : Int)).1 = lv U k r := by
    unfold leaveS lv
    simp only
    rw [sq_app, sq_succ, stayS_app, stayS_app, stay_sq (.inr (by omega)), stay_sq (a := 0 + (k + 1)) (.inl (by omega)), stayS_one, Nat.zero_add]
    have : isId (k : Int) ((k : Int), U k) = true := by unfold isId; simp
    rw [this, if_pos rfl, List.append_nil, Nat.zero_add]
  have h2 : (leaveS (sq U 0 (k + 1 + r)) (k : Int)).2 = true := by
    rw [leave_yes, place_sq (by omega)]
    exact decide_eq_true (by omega)
  rw [← h1, ← h2]
theorem lv_len (k r : Nat) : (lv U k r).length = k + r := by unfold lv; rw [List.length_append, sq_len, sq_len]
theorem lv_mem {k r : Nat} {p : Wt} (h : p ∈ lv U k r) : p.1 ≠ (k : Int) := by
  unfold lv at h
  rcases List.mem_append.1 h with h | h
  · have := sq_mem h; omega
  · have := sq_mem h; omega
theorem leave_lv (k r : Nat) : leaveS (lv U k r) (k : Int) = (lv U k r, false) := by
  have hn : ∀ p ∈ lv U k r, isId (k : Int) p = false := fun p hp => by unfold isId; exact decide_eq_false (lv_mem hp)
  obtain ⟨h1, h2⟩ := goneS_none hn
  unfold leaveS
  rw [h1, h2]; rfl
theorem place_lv {k r i : Nat} (hi : i < k + 1 + r) : placeS (lv U k r) (i : Int) = if i = k then -1 else if k < i then (i : Int) - 1 else (i : Int) := by
  by_cases e : i = k
  · rw [if_pos e, e]; exact place_none fun p hp => lv_mem hp
  · rw [if_neg e]
    by_cases hk : k < i
    · rw [if_pos hk]
      have hat : (lv U k r)[i - 1]? = some ((i : Int), U i) := by
        unfold lv
        rw [List.getElem?_append_right (by rw [sq_len]; omega), sq_len, sq_at (by omega)]
        have e1 : k + 1 + (i - 1 - k) = i := by omega
        rw [e1]
      rw [place_at hat rfl fun t q ht hq => ?_]
      · omega
      · unfold lv at hq
        by_cases htk : t < k
        · rw [List.getElem?_append_left (by rw [sq_len]; omega), sq_at htk] at hq
          injection hq with hq
          subst hq
          simp only
          omega
        · rw [List.getElem?_append_right (by rw [sq_len]; omega), sq_len, sq_at (by omega)] at hq
          injection hq with hq
          subst hq
          simp only
          omega
    · rw [if_neg hk]
      have hat : (lv U k r)[i]? = some ((i : Int), U i) := by
        unfold lv
        rw [List.getElem?_append_left (by rw [sq_len]; omega), sq_at (by omega)]
        simp
      refine place_at hat rfl fun t q ht hq => ?_
      unfold lv at hq
      rw [List.getElem?_append_left (by rw [sq_len]; omega), sq_at (by omega)] at hq
      injection hq with hq
      subst hq
      simp only
      omega
end
/-- each is there once -/
def Nd (l : List Wt) : Prop := (l.map (·.1)).Nodup
theorem Nd.nil : Nd [] := List.nodup_nil
theorem Nd.stay {l : List Wt} (h : Nd l) (q : Wt → Bool) : Nd (stayS q l) := by
  unfold Nd stayS at *
  exact h.sublist (List.Sublist.map _ List.filter_sublist)
theorem Nd.join {l : List Wt} (h : Nd l) (most : Nat) (id till : Int) : Nd (joinS most l id till).1 := by
  unfold joinS
  split
  · exact h
  · split
    · exact h
    · split
      · exact h
      · rename_i hp _
        unfold Nd at *
        rw [List.map_append, List.nodup_append]
        refine ⟨h, by simp, fun x hx y hy => ?_⟩
        obtain ⟨p, hp1, rfl⟩ := List.mem_map.1 hx
        have : y = id := by simpa using hy
        subst this
        exact place_neg hp p hp1
theorem Nd.tail {p : Wt} {l : List Wt} (h : Nd (p :: l)) : Nd l ∧ ∀ q ∈ l, q.1 ≠ p.1 := by
  unfold Nd at h
  rw [List.map_cons, List.nodup_cons] at h
  exact ⟨h.2, fun q hq e => h.1 (by rw [← e]; exact List.mem_map.2 ⟨q, hq, rfl⟩)⟩
theorem Nd.first {l : List Wt} (h : Nd l) : Nd (firstS l).1 := by
  cases l with
  | nil => exact h
  | cons p t => exact h.tail.1
theorem Nd.leave_len {l : List Wt} (h : Nd l) {id : Int} (hp : 0 ≤ placeS l id) : (leaveS l id).1.length + 1 = l.length := by
  induction l with
  | nil => rw [show placeS [] id = -1 from rfl] at hp; omega
  | cons p t ih =>
    unfold leaveS at *
    simp only at *
    obtain ⟨h1, h2⟩ := h.tail
    by_cases e : p.1 = id
    · have hs : stayS (isId id) (p :: t) = stayS (isId id) t := by unfold stayS; rw [List.filter_cons_of_neg (by unfold isId; simp [e])]
      rw [hs, (goneS_none (q := isId id) fun q hq => by unfold isId; exact decide_eq_false (by rw [← e]; exact h2 q hq)).2, List.length_cons]
    · have hs : stayS (isId id) (p :: t) = p :: stayS (isId id) t := by unfold stayS; rw [List.filter_cons_of_pos (by unfold isId; simp [e])]
      rw [hs, List.length_cons, List.length_cons, ih h1 ?_]
      obtain ⟨q, hq, hqe⟩ := place_nonneg.1 hp
      rcases List.mem_cons.1 hq with rfl | hq
      · exact absurd hqe e
      · exact place_nonneg.2 ⟨q, hq, hqe⟩
theorem leave_gone {l : List Wt} {id : Int} : ∀ p ∈ (leaveS l id).1, p.1 ≠ id := fun p hp => by
  unfold leaveS stayS at hp
  have := (List.mem_filter.1 hp).2
  unfold isId at this
  simpa using this
end Go.Proofs.Ytckodebcigmkgaa.LN
