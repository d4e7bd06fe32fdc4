/- Package line, plain words: those who wait as a list of pairs (who, till when); what each call makes of it. No program is walked here; no condition. -/
import Derived.Test.YtochjbmighijgaaRwa
namespace Go.Proofs.Ytochjbmighijgaa.LN
open Go.ChangeShapes Go.WideShapes Go.ChangeAt Go.RowKit
open Go.Proofs.Ytochjbmighijgaa.SL Go.Proofs.Ytochjbmighijgaa.RW
set_option maxRecDepth 100000
set_option linter.unusedVariables false
set_option linter.unusedSimpArgs false

abbrev Wt := Int × Int
abbrev nV (n : Int) : Value := .int .i64 n
def pR (p : Wt) : List Value := [nV p.1, nV p.2]
abbrev pA (p : Wt) : Array Value := #[nV p.1, nV p.2]
def pC (l : List Wt) : List Value := fz (l.map pR)
theorem pUni (l : List Wt) : Uni 2 (l.map pR) := fun r hr => by
  obtain ⟨e, _, rfl⟩ := List.mem_map.1 hr; rfl
theorem pC_len (l : List Wt) : (pC l).length = l.length * 2 := by unfold pC; rw [fz_len (pUni l), List.length_map]
theorem pC_app (a b : List Wt) : pC (a ++ b) = pC a ++ pC b := by unfold pC; rw [List.map_append, fz_append]
theorem pC_take (l : List Wt) (i : Nat) : pC (l.take i) = (pC l).take (i * 2) := by unfold pC; rw [List.map_take, fz_take (pUni l)]
theorem pC_drop (l : List Wt) (i : Nat) : pC (l.drop i) = (pC l).drop (i * 2) := by unfold pC; rw [List.map_drop, fz_drop (pUni l)]
theorem pC_one (l : List Wt) : ∀ v ∈ pC l, v.oneCell' = true := fz_all fun r hr v hv => by
  obtain ⟨e, _, rfl⟩ := List.mem_map.1 hr
  simp only [pR, List.mem_cons, List.not_mem_nil, or_false] at hv
  rcases hv with rfl | rfl <;> rfl
theorem pC_at (l : List Wt) (i : Nat) (e : Wt) (h : l[i]? = some e) : (pC l)[i * 2]? = some (nV e.1) ∧ (pC l)[i * 2 + 1]? = some (nV e.2) := by
  have key := fz_at (pUni l) (i := i) (r := pR e) (by rw [List.getElem?_map, h]; rfl)
  exact ⟨key 0 (by omega), key 1 (by omega)⟩
theorem pC_single (e : Wt) : pC [e] = pR e := by unfold pC fz; simp

def idx (l : List Wt) (id : Int) : Option Nat := l.findIdx? fun p => decide (p.1 = id)
def oI : Option Nat → Int
  | none => -1
  | some i => (i : Int)
def placeS (l : List Wt) (id : Int) : Int := oI (idx l id)
def joinS (most : Nat) (l : List Wt) (id till : Int) : List Wt × Int :=
  if till < 0 ∨ 1099511627776 < till then (l, 1) else if 0 ≤ placeS l id then (l, 9) else if most ≤ l.length then (l, 11) else (l ++ [(id, till)], 0)
def firstS (l : List Wt) : List Wt × Int × Bool :=
  match l with
  | [] => ([], 0, false)
  | p :: t => (t, p.1, true)
def stayS (q : Wt → Bool) (l : List Wt) : List Wt := l.filter fun p => !q p
def goneS (q : Wt → Bool) (l : List Wt) : List Int := (l.filter q).map (·.1)
def isId (id : Int) (p : Wt) : Bool := decide (p.1 = id)
def isLate (now : Int) (p : Wt) : Bool := decide (p.2 ≤ now)
def leaveS (l : List Wt) (id : Int) : List Wt × Bool := (stayS (isId id) l, decide (0 < (goneS (isId id) l).length))
def lateS (l : List Wt) (now : Int) : List Wt × List Int := (stayS (isLate now) l, goneS (isLate now) l)
theorem stayS_len (q : Wt → Bool) (l : List Wt) : (stayS q l).length ≤ l.length := List.length_filter_le ..
theorem goneS_len (q : Wt → Bool) (l : List Wt) : (goneS q l).length ≤ l.length := by unfold goneS; rw [List.length_map]; exact List.length_filter_le ..
theorem goneS_none {q : Wt → Bool} {l : List Wt} (h : ∀ p ∈ l, q p = false) : goneS q l = [] ∧ stayS q l = l := by
  unfold goneS stayS
  refine ⟨?_, List.filter_eq_self.2 fun p hp => by rw [h p hp]; rfl⟩
  rw [List.filter_eq_nil_iff.2 fun p hp => by rw [h p hp]; decide]; rfl
theorem stayS_app (q : Wt → Bool) (a b : List Wt) : stayS q (a ++ b) = stayS q a ++ stayS q b := List.filter_append ..
theorem goneS_app (q : Wt → Bool) (a b : List Wt) : goneS q (a ++ b) = goneS q a ++ goneS q b := by unfold goneS; rw [List.filter_append, List.map_append]
theorem stayS_one (q : Wt → Bool) (p : Wt) : stayS q [p] = if q p then [] else [p] := by unfold stayS; cases h : q p <;> simp [h]
theorem goneS_one (q : Wt → Bool) (p : Wt) : goneS q [p] = if q p then [p.1] else [] := by unfold goneS; cases h : q p <;> simp [h]
theorem goneS_pos {q : Wt → Bool} {l : List Wt} {p : Wt} (hp : p ∈ l) (h : q p = true) : 0 < (goneS q l).length := by
  unfold goneS
  rw [List.length_map]
  exact List.length_pos_iff.2 (List.ne_nil_of_mem (List.mem_filter.2 ⟨hp, h⟩))
theorem idx_lt {l : List Wt} {id : Int} {i : Nat} (h : idx l id = some i) : i < l.length := by
  have := List.findIdx?_eq_some_iff_getElem.1 h
  exact this.1
theorem place_lt {l : List Wt} {id : Int} : placeS l id < l.length := by
  unfold placeS
  cases h : idx l id with
  | none => unfold oI; have := l.length.zero_le; simp only; omega
  | some i => unfold oI; have := idx_lt h; simp only; omega
theorem place_nonneg {l : List Wt} {id : Int} : 0 ≤ placeS l id ↔ ∃ p ∈ l, p.1 = id := by
  unfold placeS
  cases h : idx l id with
  | none =>
    have h2 := List.findIdx?_eq_none_iff.1 h
    constructor
    · intro h3; simp [oI] at h3
    · rintro ⟨p, hp, e⟩
      have := h2 p hp
      simp [e] at this
  | some i =>
    obtain ⟨hi, hp, _⟩ := List.findIdx?_eq_some_iff_getElem.1 h
    constructor
    · intro _; exact ⟨l[i], List.getElem_mem hi, by simpa using hp⟩
    · intro _; show (0 : Int) ≤ (i : Int); omega
theorem leave_yes {l : List Wt} {id : Int} : (leaveS l id).2 = decide (0 ≤ placeS l id) := by
  unfold leaveS
  simp only
  rw [Bool.eq_iff_iff, decide_eq_true_iff, decide_eq_true_iff, place_nonneg]
  constructor
  · intro h
    unfold goneS at h
    rw [List.length_map] at h
    obtain ⟨p, hp⟩ := List.exists_mem_of_length_pos h
    obtain ⟨h1, h2⟩ := List.mem_filter.1 hp
    exact ⟨p, h1, of_decide_eq_true h2⟩
  · rintro ⟨p, hp, e⟩
    exact goneS_pos hp (decide_eq_true e)
end Go.Proofs.Ytochjbmighijgaa.LN
