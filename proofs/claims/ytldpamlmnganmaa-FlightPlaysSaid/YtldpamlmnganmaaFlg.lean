/- What opening, joining, closing, leaving a flight makes of a board in memory. Conditions: as each. -/
import Derived.Test.YtldpamlmnganmaaFlf
namespace Go.Proofs.Ytldpamlmnganmaa.FL
open Go.ChangeShapes Go.WideShapes Go.ChangeAt Go.RowKit Go.Maps Go.ChangeMaps
open Go.Proofs.Ytldpamlmnganmaa.SL
set_option maxRecDepth 100000
set_option linter.unusedVariables false
set_option linter.unusedSimpArgs false

/-- the board with the flight of k turned, and seats -/
def Bs.alt (C : Bs) (k : Ky) (o : Option Fr) (Z : Int → Option (Nat × Int)) : Bs := { C with F := fun x => if x = k then o else C.F x, Z := Z }
section
variable {w w' : World} {a N : Nat} {C : Bs} {S : List Fl} {k : Ky} {r : Fr} {c : Int}
open Classical in
/-- the flights' map, behind a store or a delete -/
theorem fV_alt (hk : FitK k) (o : Option Fr) (Z : Int → Option (Nat × Int)) (kl : Lit) : (if kl = kyL k then o.map (fun r => ptr r.g) else fV C kl) = fV (C.alt k o Z) kl := by
  rw [fK_put _ k hk]
  unfold fV Bs.alt
  congr 1
  funext x
  show (if x = k then o.map (fun r => ptr r.g) else (C.F x).map fun r => ptr r.g) = (if x = k then o else C.F x).map fun r => ptr r.g
  by_cases e : x = k
  · rw [if_pos e, if_pos e]
  · rw [if_neg e, if_neg e]
theorem mem_cl {p : Nat × Int} {c : Int} {r : Fr} (h : (p.2, c) ∈ (0, r.ld) :: r.fl) : c ∈ cl r := by
  have : c ∈ ((0, r.ld) :: r.fl).map (fun q : Int × Int => q.2) := List.mem_map.2 ⟨_, h, rfl⟩
  exact this
theorem cl_mem {c : Int} {r : Fr} (h : c ∈ cl r) : ∃ n, (n, c) ∈ (0, r.ld) :: r.fl := by
  have : c ∈ ((0, r.ld) :: r.fl).map (fun q : Int × Int => q.2) := h
  obtain ⟨q, hq, rfl⟩ := List.mem_map.1 this
  exact ⟨q.1, hq⟩
/-- what a turned flight leaves of the others -/
theorem CB.alt (h : CB w a N C S) {M : Nat} (hM : N ≤ M) (o : Option Fr) (Z : Int → Option (Nat × Int)) (S' : List Fl) (hbk : w'.heap[a]? = w.heap[a]?)
    (hmf : MV.MapV Try.prog 30 w' C.fb M (fV (C.alt k o Z))) (hms : MV.MapV Try.prog 3 w' C.sb M (sV (C.alt k o Z)))
    (hro : ∀ x r, x ≠ k → C.F x = some r → w'.heap[r.g]? = w.heap[r.g]? ∧ w'.heap[r.m]? = w.heap[r.m]?) (hr' : ∀ r, o = some r → RowP w' M k r)
    (hz : ∀ c p, Z c = some p ↔ (∃ r, o = some r ∧ r.g = p.1 ∧ (p.2, c) ∈ (0, r.ld) :: r.fl) ∨ ∃ x r, x ≠ k ∧ C.F x = some r ∧ r.g = p.1 ∧ (p.2, c) ∈ (0, r.ld) :: r.fl)
    (hfs : ∀ x, (if x = k then o.map cl else findF S x) = findF S' x) (hwf : WF S')
    (hmm : ∀ r, o = some r → r.m ≠ C.fb ∧ r.m ≠ C.sb ∧ ∀ x r', x ≠ k → C.F x = some r' → r.m ≠ r'.m) : CB w' a M (C.alt k o Z) S' := by
  have hF : ∀ x, (C.alt k o Z).F x = if x = k then o else C.F x := fun x => rfl
  refine ⟨h.bk.heap hbk, hmf, hms, fun x r hx => ?_, fun c p => ?_, fun x => ?_, hwf, fun x y r s hx hy e => ?_, fun x r hx => ?_, h.fsb⟩
  · rw [hF] at hx
    by_cases e : x = k
    · rw [if_pos e] at hx; subst e; exact hr' r hx
    · rw [if_neg e] at hx
      obtain ⟨h1, h2⟩ := hro x r e hx
      exact ((h.row x r hx).keep h1 h2).mono hM
  · refine (hz c p).trans ⟨?_, ?_⟩
    · rintro (⟨r, ho, h1⟩ | ⟨x, r, hx, hr, h1⟩)
      · exact ⟨k, r, by rw [hF, if_pos rfl]; exact ho, h1⟩
      · exact ⟨x, r, by rw [hF, if_neg hx]; exact hr, h1⟩
    · rintro ⟨x, r, hx, h1⟩
      rw [hF] at hx
      by_cases e : x = k
      · rw [if_pos e] at hx; exact .inl ⟨r, hx, h1⟩
      · rw [if_neg e] at hx; exact .inr ⟨x, r, e, hx, h1⟩
  · rw [hF, ← hfs x]
    by_cases e : x = k
    · rw [if_pos e, if_pos e]
    · rw [if_neg e, if_neg e]; exact h.fs x
  · rw [hF] at hx hy
    by_cases ex : x = k
    · rw [if_pos ex] at hx
      by_cases ey : y = k
      · rw [ex, ey]
      · rw [if_neg ey] at hy
        exact absurd e ((hmm r hx).2.2 y s ey hy)
    · rw [if_neg ex] at hx
      by_cases ey : y = k
      · rw [if_pos ey] at hy
        exact absurd e.symm ((hmm s hy).2.2 x r ex hx)
      · rw [if_neg ey] at hy
        exact h.mm x y r s hx hy e
  · rw [hF] at hx
    by_cases e : x = k
    · rw [if_pos e] at hx
      exact ⟨(hmm r hx).1, (hmm r hx).2.1⟩
    · rw [if_neg e] at hx
      exact h.mo x r hx
/-- what it owns then -/
theorem Bs.alt_own {o : Option Fr} {Z : Int → Option (Nat × Int)} {b : Nat} (hb : (C.alt k o Z).own b) : C.own b ∨ ∃ r, o = some r ∧ (b = r.g ∨ b = r.m) := by
  rcases hb with rfl | rfl | ⟨x, r, hx, hb⟩
  · exact .inl (.inl rfl)
  · exact .inl (.inr (.inl rfl))
  · have hx' : (if x = k then o else C.F x) = some r := hx
    by_cases e : x = k
    · rw [if_pos e] at hx'; exact .inr ⟨r, hx', hb⟩
    · rw [if_neg e] at hx'; exact .inl (.inr (.inr ⟨x, r, hx', hb⟩))
def openZ (C : Bs) (c : Int) (p : Nat × Int) : Int → Option (Nat × Int) := fun x => if x = c then some p else C.Z x
def goneZ (C : Bs) (d : List Int) : Int → Option (Nat × Int) := fun x => if x ∈ d then none else C.Z x
open Classical in
theorem sV_put (o : Option Fr) (p : Nat × Int) (kl : Lit) : (if kl = .int .i64 c then some (seV p) else sV C kl) = sV (C.alt k o (openZ C c p)) kl := by
  rw [MV.fI_put]
  unfold sV Bs.alt
  congr 1
  funext x
  show (if x = c then some (seV p) else (C.Z x).map seV) = (if x = c then some p else C.Z x).map seV
  by_cases e : x = c
  · rw [if_pos e, if_pos e]; rfl
  · rw [if_neg e, if_neg e]
theorem open_z (h : CB w a N C S) (hk : C.F k = none) (hc : C.Z c = none) (g m : Nat) (x : Int) (p : Nat × Int) :
    openZ C c (g, 0) x = some p ↔ (∃ r, some (⟨c, [], 0, g, m⟩ : Fr) = some r ∧ r.g = p.1 ∧ (p.2, x) ∈ (0, r.ld) :: r.fl) ∨ ∃ y r, y ≠ k ∧ C.F y = some r ∧ r.g = p.1 ∧ (p.2, x) ∈ (0, r.ld) :: r.fl := by
  unfold openZ
  by_cases e : x = c
  · rw [if_pos e]
    constructor
    · intro hp
      injection hp with hp
      subst hp e
      exact .inl ⟨_, rfl, rfl, List.mem_cons_self⟩
    · rintro (⟨r, hr, hg, hm⟩ | ⟨y, r, hy, hr, hg, hm⟩)
      · injection hr with hr
        subst hr
        have hm2 : p.2 = 0 := by simp at hm; exact hm.1
        obtain ⟨p1, p2⟩ := p
        simp only at hg hm2
        rw [← hg, hm2]
      · have := (h.z x p).2 ⟨y, r, hr, hg, hm⟩
        rw [e, hc] at this; cases this
  · rw [if_neg e]
    constructor
    · intro hp
      obtain ⟨y, r, hr, h1⟩ := (h.z x p).1 hp
      exact .inr ⟨y, r, (fun e2 => by rw [e2, hk] at hr; cases hr), hr, h1⟩
    · rintro (⟨r, hr, hg, hm⟩ | ⟨y, r, hy, hr, h1⟩)
      · injection hr with hr
        subst hr
        simp at hm
        exact absurd hm.2 e
      · exact (h.z x p).2 ⟨y, r, hr, h1⟩
theorem join_z (h : CB w a N C S) (hr : C.F k = some r) (hc : C.Z c = none) (n : Int) (last : Nat) (x : Int) (p : Nat × Int) :
    openZ C c (r.g, n) x = some p ↔ (∃ s, some (⟨r.ld, r.fl ++ [(n, c)], last, r.g, r.m⟩ : Fr) = some s ∧ s.g = p.1 ∧ (p.2, x) ∈ (0, s.ld) :: s.fl) ∨ ∃ y s, y ≠ k ∧ C.F y = some s ∧ s.g = p.1 ∧ (p.2, x) ∈ (0, s.ld) :: s.fl := by
  unfold openZ
  by_cases e : x = c
  · rw [if_pos e]
    constructor
    · intro hp
      injection hp with hp
      subst hp e
      exact .inl ⟨_, rfl, rfl, by simp⟩
    · rintro (⟨s, hs, hg, hm⟩ | ⟨y, s, hy, hs, hg, hm⟩)
      · injection hs with hs
        subst hs
        simp only [List.mem_cons, List.mem_append, List.not_mem_nil, or_false] at hm
        have hm2 : p.2 = n := by
          rcases hm with hm | hm | hm
          · have := (h.z x p).2 ⟨k, r, hr, hg, by rw [← hm]; exact List.mem_cons_self⟩
            rw [e, hc] at this; cases this
          · have := (h.z x p).2 ⟨k, r, hr, hg, List.mem_cons_of_mem _ hm⟩
            rw [e, hc] at this; cases this
          · injection hm
        obtain ⟨p1, p2⟩ := p
        simp only at hg hm2
        rw [← hg, hm2]
      · have := (h.z x p).2 ⟨y, s, hs, hg, hm⟩
        rw [e, hc] at this; cases this
  · rw [if_neg e]
    constructor
    · intro hp
      obtain ⟨y, s, hs, hg, hm⟩ := (h.z x p).1 hp
      by_cases ey : y = k
      · rw [ey, hr] at hs
        injection hs with hs
        subst hs
        refine .inl ⟨_, rfl, hg, ?_⟩
        simp only [List.mem_cons, List.mem_append] at hm ⊢
        rcases hm with hm | hm
        · exact .inl hm
        · exact .inr (.inl hm)
      · exact .inr ⟨y, s, ey, hs, hg, hm⟩
    · rintro (⟨s, hs, hg, hm⟩ | ⟨y, s, hy, hs, h1⟩)
      · injection hs with hs
        subst hs
        simp only [List.mem_cons, List.mem_append, List.not_mem_nil, or_false] at hm
        refine (h.z x p).2 ⟨k, r, hr, hg, ?_⟩
        rcases hm with hm | hm | hm
        · rw [hm]; exact List.mem_cons_self
        · exact List.mem_cons_of_mem _ hm
        · injection hm with _ hm
          exact absurd hm e
      · exact (h.z x p).2 ⟨y, s, hs, h1⟩
theorem gone_z (h : CB w a N C S) (hr : C.F k = some r) (x : Int) (p : Nat × Int) :
    goneZ C (cl r) x = some p ↔ (∃ s, (none : Option Fr) = some s ∧ s.g = p.1 ∧ (p.2, x) ∈ (0, s.ld) :: s.fl) ∨ ∃ y s, y ≠ k ∧ C.F y = some s ∧ s.g = p.1 ∧ (p.2, x) ∈ (0, s.ld) :: s.fl := by
  unfold goneZ
  by_cases e : x ∈ cl r
  · rw [if_pos e]
    constructor
    · intro hp; cases hp
    · rintro (⟨s, hs, _⟩ | ⟨y, s, hy, hs, hg, hm⟩)
      · cases hs
      · obtain ⟨n, hn⟩ := cl_mem e
        have h1 := (h.z x (r.g, n)).2 ⟨k, r, hr, rfl, hn⟩
        have h2 := (h.z x p).2 ⟨y, s, hs, hg, hm⟩
        rw [h1] at h2
        have hgg : s.g = r.g := by rw [hg]; injection h2 with h2; rw [← h2]
        exact absurd (h.gg hs hr hgg) hy
  · rw [if_neg e]
    constructor
    · intro hp
      obtain ⟨y, s, hs, hg, hm⟩ := (h.z x p).1 hp
      refine .inr ⟨y, s, (fun ey => ?_), hs, hg, hm⟩
      rw [ey, hr] at hs
      injection hs with hs
      subst hs
      exact e (mem_cl hm)
    · rintro (⟨s, hs, _⟩ | ⟨y, s, hy, hs, h1⟩)
      · cases hs
      · exact (h.z x p).2 ⟨y, s, hs, h1⟩
/-- one who follows has a number of its own -/
theorem CB.own_num (h : CB w a N C S) (hr : C.F k = some r) {n : Int} (hz : C.Z c = some (r.g, n)) (hn : r.ld ≠ c) : (n, c) ∈ r.fl ∧ 0 < n ∧ ∀ p ∈ r.fl, (p.1 = n ↔ p.2 = c) := by
  obtain ⟨y, s, hs, hg, hm⟩ := (h.z c (r.g, n)).1 hz
  obtain rfl : y = k := h.gg hs hr hg
  rw [hr] at hs
  injection hs with hs
  subst hs
  have hm2 : (n, c) ∈ r.fl := by
    rcases List.mem_cons.1 hm with hm | hm
    · injection hm with _ hm
      exact absurd hm.symm hn
    · exact hm
  have hrow := h.row y r hr
  refine ⟨hm2, (hrow.lo _ hm2).1, fun p hp => ⟨fun e => ?_, fun e => ?_⟩⟩
  · have h1 := (lk_mem hrow.up).2 hm2
    have h2 := (lk_mem hrow.up (j := p.1) (c := p.2)).2 hp
    rw [e, h1] at h2
    injection h2 with h2
    exact h2.symm
  · have h1 := (h.z c (r.g, p.1)).2 ⟨y, r, hr, rfl, by rw [← e]; exact List.mem_cons_of_mem _ hp⟩
    rw [hz] at h1
    injection h1 with h1
    injection h1 with _ h1
    exact h1.symm
theorem quit_z (h : CB w a N C S) (hr : C.F k = some r) {n : Int} (hz : C.Z c = some (r.g, n)) (hn : r.ld ≠ c) (x : Int) (p : Nat × Int) :
    goneZ C [c] x = some p ↔ (∃ s, some (⟨r.ld, r.fl.filter (fun p => decide (p.1 ≠ n)), r.last, r.g, r.m⟩ : Fr) = some s ∧ s.g = p.1 ∧ (p.2, x) ∈ (0, s.ld) :: s.fl) ∨ ∃ y s, y ≠ k ∧ C.F y = some s ∧ s.g = p.1 ∧ (p.2, x) ∈ (0, s.ld) :: s.fl := by
  obtain ⟨h1, h2, h3⟩ := h.own_num hr hz hn
  unfold goneZ
  by_cases e : x = c
  · rw [if_pos (by rw [e]; exact List.mem_cons_self)]
    constructor
    · intro hp; cases hp
    · rintro (⟨s, hs, hg, hm⟩ | ⟨y, s, hy, hs, hg, hm⟩)
      · injection hs with hs
        subst hs
        simp only [List.mem_cons, List.mem_filter, decide_eq_true_eq, ne_eq] at hm
        rcases hm with hm | ⟨hm, hne⟩
        · injection hm with _ hm
          exact absurd (hm.symm.trans e) hn
        · exact absurd ((h3 _ hm).2 e) hne
      · have h5 := (h.z x p).2 ⟨y, s, hs, hg, hm⟩
        rw [e, hz] at h5
        have hgg : s.g = r.g := by rw [hg]; injection h5 with h5; rw [← h5]
        exact absurd (h.gg hs hr hgg) hy
  · rw [if_neg (by simpa using e)]
    constructor
    · intro hp
      obtain ⟨y, s, hs, hg, hm⟩ := (h.z x p).1 hp
      by_cases ey : y = k
      · rw [ey, hr] at hs
        injection hs with hs
        subst hs
        refine .inl ⟨_, rfl, hg, ?_⟩
        simp only [List.mem_cons, List.mem_filter, decide_eq_true_eq, ne_eq] at hm ⊢
        rcases hm with hm | hm
        · exact .inl hm
        · exact .inr ⟨hm, fun e2 => e ((h3 _ hm).1 e2)⟩
      · exact .inr ⟨y, s, ey, hs, hg, hm⟩
    · rintro (⟨s, hs, hg, hm⟩ | ⟨y, s, hy, hs, h1⟩)
      · injection hs with hs
        subst hs
        simp only [List.mem_cons, List.mem_filter, decide_eq_true_eq, ne_eq] at hm
        refine (h.z x p).2 ⟨k, r, hr, hg, ?_⟩
        rcases hm with hm | ⟨hm, _⟩
        · rw [hm]; exact List.mem_cons_self
        · exact List.mem_cons_of_mem _ hm
      · exact (h.z x p).2 ⟨y, s, hs, h1⟩
theorem cl_quit (h : CB w a N C S) (hr : C.F k = some r) {n : Int} (hz : C.Z c = some (r.g, n)) (hn : r.ld ≠ c) : cl ⟨r.ld, r.fl.filter (fun p => decide (p.1 ≠ n)), r.last, r.g, r.m⟩ = (cl r).filter fun x => decide (x ≠ c) := by
  obtain ⟨h1, h2, h3⟩ := h.own_num hr hz hn
  unfold cl
  rw [List.filter_cons_of_pos (by simpa using hn)]
  congr 1
  rw [List.filter_map]
  congr 1
  refine List.filter_congr fun p hp => ?_
  show decide (p.1 ≠ n) = decide (p.2 ≠ c)
  simp only [ne_eq, h3 p hp]
end
end Go.Proofs.Ytldpamlmnganmaa.FL
