/- What a board is in memory: a map of flights, a map of seats, each flight's map of followers. Conditions: how many asks there were. -/
import Derived.Test.YtldpamlmnganmaaFlb
namespace Go.Proofs.Ytldpamlmnganmaa.FL
open Go.ChangeShapes Go.WideShapes Go.ChangeAt Go.RowKit Go.Maps Go.ChangeMaps
open Go.Proofs.Ytldpamlmnganmaa.SL
set_option maxRecDepth 100000
set_option linter.unusedVariables false
set_option linter.unusedSimpArgs false

/-- a flight: its leader, its followers by their numbers, the last number, its block, its map's -/
structure Fr where
  ld : Int
  fl : List (Int × Int)
  last : Nat
  g : Nat
  m : Nat
def cl (r : Fr) : List Int := r.ld :: r.fl.map (·.2)
abbrev fC (k : Ky) (r : Fr) : Array Value := #[.string k.1, .string k.2.1, .int .i64 k.2.2.1, .string k.2.2.2, .int .i64 r.ld, .map (some r.m), .int .i64 (r.last : Int)]
structure RowP (w : World) (N : Nat) (k : Ky) (r : Fr) : Prop where
  bk : Bk w r.g 80 (fC k r)
  mp : MV.MapV Try.prog 3 w r.m r.last (MV.fI fun j => (lk r.fl j).map (.int .i64 ·))
  up : r.fl.Pairwise fun p q => p.1 < q.1
  lo : ∀ p ∈ r.fl, 0 < p.1 ∧ p.1 ≤ r.last
  la : r.last ≤ N
/-- where a board's parts stand -/
structure Bs where
  fb : Nat
  sb : Nat
  F : Ky → Option Fr
  Z : Int → Option (Nat × Int)
def Bs.own (C : Bs) (b : Nat) : Prop := b = C.fb ∨ b = C.sb ∨ ∃ k r, C.F k = some r ∧ (b = r.g ∨ b = r.m)
abbrev bC (a : Nat) (C : Bs) : Array Value := #[ptr a, .map (some C.fb), .map (some C.sb)]
abbrev seV (p : Nat × Int) : Value := .agg #[ptr p.1, .int .i64 p.2]
noncomputable abbrev fV (C : Bs) : Lit → Option Value := fK fun k => (C.F k).map fun r => ptr r.g
abbrev sV (C : Bs) : Lit → Option Value := MV.fI fun c => (C.Z c).map seV
structure CB (w : World) (a N : Nat) (C : Bs) (S : List Fl) : Prop where
  bk : Bk w a 63 (bC a C)
  mf : MV.MapV Try.prog 30 w C.fb N (fV C)
  ms : MV.MapV Try.prog 3 w C.sb N (sV C)
  row : ∀ k r, C.F k = some r → RowP w N k r
  z : ∀ c p, C.Z c = some p ↔ ∃ k r, C.F k = some r ∧ r.g = p.1 ∧ (p.2, c) ∈ (0, r.ld) :: r.fl
  fs : ∀ k, (C.F k).map cl = findF S k
  wf : WF S
  mm : ∀ k k' r r', C.F k = some r → C.F k' = some r' → r.m = r'.m → k = k'
  mo : ∀ k r, C.F k = some r → r.m ≠ C.fb ∧ r.m ≠ C.sb
  fsb : C.fb ≠ C.sb
section
variable {w w' : World} {a N : Nat} {C : Bs} {S : List Fl} {k : Ky} {r : Fr}
theorem RowP.lt (h : RowP w N k r) : r.g < w.heap.size ∧ r.m < w.heap.size := ⟨h.bk.lt, h.mp.lt⟩
theorem RowP.keep (h : RowP w N k r) (h1 : w'.heap[r.g]? = w.heap[r.g]?) (h2 : w'.heap[r.m]? = w.heap[r.m]?) : RowP w' N k r := ⟨h.bk.heap h1, h.mp.keep h2, h.up, h.lo, h.la⟩
theorem RowP.mono (h : RowP w N k r) {M : Nat} (hm : N ≤ M) : RowP w M k r := ⟨h.bk, h.mp, h.up, h.lo, Nat.le_trans h.la hm⟩
theorem bk_nmap {b g n : Nat} {t : TypeId} {cs : Array Value} {P : Program} {K : TypeId} {f : Lit → Option Value} (h : Bk w g t cs) (hm : MV.MapV P K w b n f) : g ≠ b := by
  rintro rfl
  obtain ⟨es, clock, hb⟩ := hm.obj
  unfold Bk at h
  rw [h] at hb
  cases hb
theorem CB.lt (h : CB w a N C S) {b : Nat} (hb : C.own b) : b < w.heap.size := by
  rcases hb with rfl | rfl | ⟨k, r, hr, rfl | rfl⟩
  · exact h.mf.lt
  · exact h.ms.lt
  · exact (h.row k r hr).lt.1
  · exact (h.row k r hr).lt.2
/-- what a board's blocks are -/
theorem CB.typed (h : CB w a N C S) {b : Nat} (hb : C.own b) {cs : Array Value} {t : TypeId} {fr : Nat × Nat} (hc : w.heap[b]? = some (.cells cs t fr)) : t = 80 := by
  have hn : ∀ {P : Program} {K : TypeId} {n : Nat} {f : Lit → Option Value}, MV.MapV P K w b n f → False := fun hm => by
    obtain ⟨es, clock, hb⟩ := hm.obj
    rw [hc] at hb
    cases hb
  rcases hb with rfl | rfl | ⟨k, r, hr, rfl | rfl⟩
  · exact (hn h.mf).elim
  · exact (hn h.ms).elim
  · have := (h.row k r hr).bk
    unfold Bk at this
    rw [hc] at this
    injection this with this
    injection this
  · exact (hn (h.row k r hr).mp).elim
theorem CB.not_a (h : CB w a N C S) : ¬ C.own a := fun hb => absurd (h.typed hb h.bk) (by decide)
theorem CB.keep (h : CB w a N C S) (e : ∀ b, b = a ∨ C.own b → w'.heap[b]? = w.heap[b]?) : CB w' a N C S :=
  ⟨h.bk.heap (e a (.inl rfl)), h.mf.keep (e _ (.inr (.inl rfl))), h.ms.keep (e _ (.inr (.inr (.inl rfl)))), fun k r hr => (h.row k r hr).keep (e _ (.inr (.inr (.inr ⟨k, r, hr, .inl rfl⟩)))) (e _ (.inr (.inr (.inr ⟨k, r, hr, .inr rfl⟩)))), h.z, h.fs, h.wf, h.mm, h.mo, h.fsb⟩
theorem CB.below (h : CB w a N C S) (hb : Below w.heap.size w w') : CB w' a N C S := h.keep fun b hb2 => hb.block b (by
  rcases hb2 with rfl | hb2
  · exact h.bk.lt
  · exact h.lt hb2)
theorem CB.mono (h : CB w a N C S) {M : Nat} (hm : N ≤ M) : CB w a M C S := ⟨h.bk, h.mf.mono hm, h.ms.mono hm, fun k r hr => (h.row k r hr).mono hm, h.z, h.fs, h.wf, h.mm, h.mo, h.fsb⟩
theorem CB.gg (h : CB w a N C S) {k k' : Ky} {r r' : Fr} (hr : C.F k = some r) (hr' : C.F k' = some r') (e : r.g = r'.g) : k = k' := by
  have h1 := (h.row k r hr).bk
  have h2 := (h.row k' r' hr').bk
  unfold Bk at h1 h2
  rw [e, h2] at h1
  injection h1 with h1
  injection h1 with h1
  obtain ⟨x1, x2, x3, x4⟩ := k
  obtain ⟨y1, y2, y3, y4⟩ := k'
  simp only [fC, Array.mk.injEq, List.cons.injEq, Value.string.injEq, Value.int.injEq, true_and] at h1
  obtain ⟨rfl, rfl, rfl, rfl, _⟩ := h1
  rfl
theorem CB.gm (h : CB w a N C S) {k k' : Ky} {r r' : Fr} (hr : C.F k = some r) (hr' : C.F k' = some r') : r.g ≠ r'.m := bk_nmap (h.row k r hr).bk (h.row k' r' hr').mp
theorem CB.gfs (h : CB w a N C S) {k : Ky} {r : Fr} (hr : C.F k = some r) : r.g ≠ C.fb ∧ r.g ≠ C.sb := ⟨bk_nmap (h.row k r hr).bk h.mf, bk_nmap (h.row k r hr).bk h.ms⟩
theorem CB.fit (h : CB w a N C S) {k : Ky} {r : Fr} (hr : C.F k = some r) : FitK k := by
  have := h.fs k
  rw [hr] at this
  exact h.wf.fit _ (findF_mem this.symm)
theorem CB.pos (h : CB w a N C S) {k : Ky} {r : Fr} (hr : C.F k = some r) : ∀ c ∈ cl r, 0 ≤ c ∧ c ≤ 9223372036854775807 := by
  have := h.fs k
  rw [hr] at this
  exact h.wf.pos _ (findF_mem this.symm)
theorem CB.find_none (h : CB w a N C S) (hk : C.F k = none) : findF S k = none := by rw [← h.fs k, hk]; rfl
theorem CB.find_some (h : CB w a N C S) (hr : C.F k = some r) : findF S k = some (cl r) := by rw [← h.fs k, hr]; rfl
/-- who sits is in a flight -/
theorem CB.of_some (h : CB w a N C S) {c : Int} {p : Nat × Int} (hz : C.Z c = some p) : ∃ k r, C.F k = some r ∧ r.g = p.1 ∧ (p.2, c) ∈ (0, r.ld) :: r.fl ∧ ofF S c = some (k, cl r) := by
  obtain ⟨k, r, hr, hg, hm⟩ := (h.z c p).1 hz
  refine ⟨k, r, hr, hg, hm, ?_⟩
  have hc : c ∈ cl r := by
    have : c ∈ ((0, r.ld) :: r.fl).map (fun q : Int × Int => q.2) := List.mem_map.2 ⟨_, hm, rfl⟩
    exact this
  have hS := findF_mem (h.find_some hr)
  cases ho : ofF S c with
  | none => exact absurd hc (ofF_none ho _ hS)
  | some t =>
    obtain ⟨ht, hct⟩ := ofF_mem ho
    obtain ⟨k', l'⟩ := t
    have hf := findF_of h.wf.keys ht
    rw [← h.fs k'] at hf
    cases hr' : C.F k' with
    | none => rw [hr'] at hf; cases hf
    | some r' =>
      rw [hr'] at hf
      have hl : cl r' = l' := by injection hf
      subst hl
      have : c ∈ ((0, r'.ld) :: r'.fl).map (fun q : Int × Int => q.2) := hct
      obtain ⟨q, hq, rfl⟩ := List.mem_map.1 this
      have hz' := (h.z q.2 (r'.g, q.1)).2 ⟨k', r', hr', rfl, hq⟩
      rw [hz] at hz'
      have hgg : p.1 = r'.g := by injection hz' with hz'; rw [hz']
      have hkk := h.gg hr hr' (hg.trans hgg)
      subst hkk
      rw [hr] at hr'
      injection hr' with hr'
      rw [hr']
theorem CB.of_none (h : CB w a N C S) {c : Int} (hz : C.Z c = none) : ofF S c = none := by
  refine ofF_no fun t ht hc => ?_
  obtain ⟨k, l⟩ := t
  have hf := findF_of h.wf.keys ht
  rw [← h.fs k] at hf
  cases hr : C.F k with
  | none => rw [hr] at hf; cases hf
  | some r =>
    rw [hr] at hf
    have hl : cl r = l := by injection hf
    subst hl
    have : c ∈ ((0, r.ld) :: r.fl).map (fun q : Int × Int => q.2) := hc
    obtain ⟨q, hq, rfl⟩ := List.mem_map.1 this
    rw [(h.z q.2 (r.g, q.1)).2 ⟨k, r, hr, rfl, hq⟩] at hz
    cases hz
/-- another list of the same flights -/
theorem CB.perm (h : CB w a N C S) {S' : List Fl} (hw : WF S') (hf : ∀ k, findF S' k = findF S k) : CB w a N C S' := ⟨h.bk, h.mf, h.ms, h.row, h.z, fun k => (h.fs k).trans (hf k).symm, hw, h.mm, h.mo, h.fsb⟩
end
end Go.Proofs.Ytldpamlmnganmaa.FL
