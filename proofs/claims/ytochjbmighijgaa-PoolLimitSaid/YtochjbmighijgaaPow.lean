/- Package pool, plain: what holds stays, whoever asks, gives back, leaves. No program is walked here; no condition. -/
import Derived.Test.YtochjbmighijgaaPov
namespace Go.Proofs.Ytochjbmighijgaa.PO
open Go.ChangeShapes Go.WideShapes Go.ChangeAt Go.RowKit Go.Maps Go.ChangeMaps
open Go.Proofs.Ytochjbmighijgaa.SL Go.Proofs.Ytochjbmighijgaa.RW
open Go.Proofs.Ytochjbmighijgaa.LN (tkY tkN pu OI IS RdP)
set_option maxRecDepth 100000
set_option linter.unusedVariables false
set_option linter.unusedSimpArgs false

section
variable {C : Cf} {R : Raw} {D : List Int}
theorem Inv.wake (h : Inv C R []) {g : Nat} {q : Row} (hlg : Live R g) (hq : R.rows g = some q) {l : List Rs} {s n c : Int} (hi : q.idle = l ++ [(s, n)]) (hc : R.sm c = none) (hc0 : 0 ≤ c) (hci : I9 c) {R' : Raw} (e1 : R'.gm = R.gm) (e2 : R'.rows = upd R.rows g (some ({ q with idle := l }))) (e3 : R'.sm = upd R.sm c (some (g, n, false))) (e4 : R'.nm = upd R.nm n (some (g, c, 0))) (e5 : R'.last = R.last) : Inv C R' [] := by
  have hnm : ({ q with idle := l }).name = q.name := rfl
  have hlv := live_upd (R' := R') hq hnm e1 e2
  have hrw := rows_upd (R' := R') e2
  have hm : (s, n) ∈ q.idle := by rw [hi]; simp
  have hnn := (h.i g q hlg hq s n hm).1
  have hn1 := h.n0 n g _ _ hnn
  have hup := h.u g q hlg hq
  rw [hi] at hup
  have hup1 : upE l := (List.pairwise_append.1 hup).1
  have hlt : ∀ x ∈ l, x ≠ (s, n) := fun x hx e => by
    have := (List.pairwise_append.1 hup).2.2 x hx (s, n) (by simp)
    rw [e] at this
    simp only at this
    omega
  have hli : ∀ x ∈ l, x ∈ q.idle := fun x hx => by rw [hi]; exact List.mem_append_left _ hx
  have hno : ∀ c' g' p', R.sm c' ≠ some (g', n, p') := fun c' g' p' hs => by
    have := (h.s2 c' g' n p' hs (by omega)).2
    rw [hnn] at this
    injection this with this
    injection this with _ this
    injection this with this
    have := (h.s0 c' g' n p' hs).1
    omega
  have hcn : ∀ g' n', (∃ c' s', R'.nm n' = some (g', c', s')) ↔ ∃ c' s', R.nm n' = some (g', c', s') := by
    intro g' n'
    rw [e4]
    simp only [upd]
    grind
  have hdn : ∀ g', dn R'.nm [] g' = dn R.nm [] g' := fun _ => rfl
  refine ⟨gm_upd h hq hnm e1 e2, ?_, ?_, ?_, ?_, ?_, ?_, ?_, ?_, ?_, ?_, ?_, ?_, ?_⟩
  · have h9 := h.s0
    intro c' g' n' p' hc
    rw [e3] at hc
    simp only [upd] at hc
    grind
  · have h9 := h.s1
    intro c' g' p' hc
    rw [e3] at hc
    simp only [upd] at hc
    have h8 := hrw g'
    grind
  · have h9 := h.s2
    have h8 := h.n0
    intro c' g' n' p' hc hn'
    rw [e3] at hc
    rw [e4]
    simp only [upd] at hc ⊢
    grind
  · have h9 := h.n0
    intro n' g' c' s' hn'
    rw [e4] at hn'
    rw [e5]
    simp only [upd] at hn'
    grind
  · have h9 := h.n1
    intro n' g' s' hn' hd y hy
    rw [e4] at hn'
    simp only [upd] at hn'
    have h8 := hrw g' y hy
    grind
  · have h9 := h.n2
    have h8 := h.s2
    intro n' g' c' s' hn' hd hc'
    rw [e4] at hn'
    rw [e3]
    simp only [upd] at hn' ⊢
    grind
  · have h9 := h.i
    intro g' y hl hy s' n' hi'
    rw [e4]
    simp only [upd]
    have h8 := hrw g' y hy
    have h7 := (hlv g').1 hl
    grind
  · have h9 := h.w
    intro g' y hl hy c' hc'
    rw [e3]
    simp only [upd]
    have h8 := hrw g' y hy
    have h7 := (hlv g').1 hl
    grind
  · have h9 := h.u
    intro g' y hl hy
    have h8 := hrw g' y hy
    have h7 := (hlv g').1 hl
    grind
  · have h9 := h.l
    intro g' y hl hy
    have h8 := hrw g' y hy
    have h7 := (hlv g').1 hl
    grind
  · have h9 := h.b
    intro g' y hl hy
    have h7 := (hlv g').1 hl
    rcases hrw g' y hy with ⟨rfl, rfl⟩ | ⟨hne, hy⟩
    · have h5 := h9 g' q h7 hq
      refine ⟨h5.1, fun hne => ?_⟩
      have := (h5.2 hne).1
      rw [hi] at this
      simp at this
    · exact h9 g' y h7 hy
  · intro g' y hl hy
    have h7 := (hlv g').1 hl
    rcases hrw g' y hy with ⟨rfl, rfl⟩ | ⟨hne, hy⟩
    · exact (h.cn g' q h7 hq).same (hcn g')
    · exact (h.cn g' y h7 hy).same (hcn g')
  · intro n' hn'
    cases hn'
theorem dn_nil' (nm : Int → Option (Nat × Int × Int)) (g : Nat) : dn nm [] g = 0 := rfl
theorem line_ids {q : Row} {x t : Int} {l : List (Int × Int)} (hl : q.line = (x, t) :: l) : q.line.map (·.1) = x :: l.map (·.1) := by rw [hl]; rfl
theorem Inv.open_ (h : Inv C R []) {g : Nat} {q : Row} (hlg : Live R g) (hq : R.rows g = some q) {c : Int} (hi : q.idle = []) (hc : R.sm c = none) (hc0 : 0 ≤ c) (hci : I9 c) (hlim : q.conns < C.lim) {L : Int} (hL : L = ((R.last + 1 : Nat) : Int)) {R' : Raw} (e1 : R'.gm = R.gm) (e2 : R'.rows = upd R.rows g (some ({ q with conns := q.conns + 1 }))) (e3 : R'.sm = upd R.sm c (some (g, L, false))) (e4 : R'.nm = upd R.nm L (some (g, c, 0))) (e5 : R'.last = R.last + 1) : Inv C R' [] := by
  have hnm : ({ q with conns := q.conns + 1 }).name = q.name := rfl
  have hlv := live_upd (R' := R') hq hnm e1 e2
  have hrw := rows_upd (R' := R') e2
  have hnl : R.nm L = none := by
    cases e : R.nm L with
    | none => rfl
    | some p =>
      obtain ⟨g', c', s'⟩ := p
      have := (h.n0 L g' c' s' e).2.1
      omega
  have hL0 : L ≠ 0 := by omega
  have hno : ∀ c' g' p', R.sm c' ≠ some (g', L, p') := fun c' g' p' hs => by
    have := (h.s2 c' g' L p' hs hL0).2
    rw [hnl] at this
    cases this
  have hlast : (R.last : Int) + 1 = L := by omega
  have hdn : ∀ g', dn R'.nm [] g' = dn R.nm [] g' := fun _ => rfl
  refine ⟨gm_upd h hq hnm e1 e2, ?_, ?_, ?_, ?_, ?_, ?_, ?_, ?_, ?_, ?_, ?_, ?_, ?_⟩
  · have h9 := h.s0
    intro c' g' n' p' hc
    rw [e3] at hc
    simp only [upd] at hc
    grind
  · have h9 := h.s1
    intro c' g' p' hc
    rw [e3] at hc
    simp only [upd] at hc
    have h8 := hrw g'
    grind
  · have h9 := h.s2
    have h8 := h.n0
    intro c' g' n' p' hc hn'
    rw [e3] at hc
    rw [e4]
    simp only [upd] at hc ⊢
    grind
  · have h9 := h.n0
    intro n' g' c' s' hn'
    rw [e4] at hn'
    rw [e5]
    simp only [upd] at hn'
    by_cases e : n' = L
    · rw [if_pos e] at hn'
      injection hn' with hn'
      injection hn' with hn'
      subst hn'
      exact ⟨by omega, by omega, (hlv g).2 hlg⟩
    · rw [if_neg e] at hn'
      have := h9 n' g' c' s' hn'
      exact ⟨this.1, by omega, (hlv g').2 this.2.2⟩
  · have h9 := h.n1
    intro n' g' s' hn' hd y hy
    rw [e4] at hn'
    simp only [upd] at hn'
    have h8 := hrw g' y hy
    grind
  · have h9 := h.n2
    have h8 := h.s2
    intro n' g' c' s' hn' hd hc'
    rw [e4] at hn'
    rw [e3]
    simp only [upd] at hn' ⊢
    grind
  · have h9 := h.i
    intro g' y hl hy s' n' hi'
    rw [e4]
    simp only [upd]
    have h8 := hrw g' y hy
    have h7 := (hlv g').1 hl
    grind
  · have h9 := h.w
    intro g' y hl hy c' hc'
    rw [e3]
    simp only [upd]
    have h8 := hrw g' y hy
    have h7 := (hlv g').1 hl
    grind
  · have h9 := h.u
    intro g' y hl hy
    have h8 := hrw g' y hy
    have h7 := (hlv g').1 hl
    grind
  · have h9 := h.l
    intro g' y hl hy
    have h8 := hrw g' y hy
    have h7 := (hlv g').1 hl
    grind
  · have h9 := h.b
    intro g' y hl hy
    have h7 := (hlv g').1 hl
    have h6 := hdn g'
    rcases hrw g' y hy with ⟨rfl, rfl⟩ | ⟨hne, hy⟩
    · have h5 := h9 g' q h7 hq
      rw [dn_nil'] at h5 ⊢
      refine ⟨by show q.conns + 1 ≤ C.lim + 0; omega, fun hne => ?_⟩
      have := (h5.2 hne).2
      omega
    · rw [h6]; exact h9 g' y h7 hy
  · intro g' y hl hy
    have h7 := (hlv g').1 hl
    rcases hrw g' y hy with ⟨rfl, rfl⟩ | ⟨hne, hy⟩
    · obtain ⟨A, a1, a2, a3⟩ := h.cn g' q h7 hq
      have hLA : L ∉ A := fun hA => by
        obtain ⟨c', s', h5⟩ := (a3 L).1 hA
        rw [hnl] at h5; cases h5
      refine ⟨L :: A, List.nodup_cons.2 ⟨hLA, a1⟩, by simp [a2], fun n' => ?_⟩
      rw [e4]
      simp only [upd, List.mem_cons]
      have := a3 n'
      grind
    · refine (h.cn g' y h7 hy).same fun n' => ?_
      rw [e4]
      simp only [upd]
      grind
  · intro n' hn'
    cases hn'
theorem Inv.wait (h : Inv C R []) {g : Nat} {q : Row} (hlg : Live R g) (hq : R.rows g = some q) {c till : Int} (hi : q.idle = []) (hc : R.sm c = none) (hc0 : 0 ≤ c) (hci : I9 c) (hlim : C.lim ≤ q.conns) {R' : Raw} (e1 : R'.gm = R.gm) (e2 : R'.rows = upd R.rows g (some ({ q with line := q.line ++ [(c, till)] }))) (e3 : R'.sm = upd R.sm c (some (g, 0, false))) (e4 : R'.nm = R.nm) (e5 : R'.last = R.last) : Inv C R' [] := by
  have hnm : ({ q with line := q.line ++ [(c, till)] }).name = q.name := rfl
  have hlv := live_upd (R' := R') hq hnm e1 e2
  have hrw := rows_upd (R' := R') e2
  have hnc : c ∉ q.line.map (·.1) := fun hm => by
    have := h.w g q hlg hq c hm
    rw [hc] at this; cases this
  have hmap : (q.line ++ [(c, till)]).map (·.1) = q.line.map (·.1) ++ [c] := by simp
  have hnd : ((q.line ++ [(c, till)]).map (·.1)).Nodup := by
    rw [hmap]
    refine List.nodup_append.2 ⟨h.l g q hlg hq, by simp, fun x hx y hy e => ?_⟩
    simp only [List.mem_singleton] at hy
    subst hy e
    exact hnc hx
  have hmem : ∀ x, x ∈ (q.line ++ [(c, till)]).map (·.1) ↔ x ∈ q.line.map (·.1) ∨ x = c := by
    intro x
    rw [hmap]
    simp
  have hdn : ∀ g', dn R'.nm [] g' = dn R.nm [] g' := fun _ => rfl
  have hcn : ∀ g' n', (∃ c' s', R'.nm n' = some (g', c', s')) ↔ ∃ c' s', R.nm n' = some (g', c', s') := by
    intro g' n'
    rw [e4]
  refine ⟨gm_upd h hq hnm e1 e2, ?_, ?_, ?_, ?_, ?_, ?_, ?_, ?_, ?_, ?_, ?_, ?_, ?_⟩
  · have h9 := h.s0
    intro c' g' n' p' hc
    rw [e3] at hc
    simp only [upd] at hc
    grind
  · have h9 := h.s1
    intro c' g' p' hc
    rw [e3] at hc
    simp only [upd] at hc
    have h8 := hrw g'
    grind
  · have h9 := h.s2
    intro c' g' n' p' hc' hn'
    rw [e3] at hc'
    rw [e4]
    simp only [upd] at hc'
    grind
  · have h9 := h.n0
    intro n' g' c' s' hn'
    rw [e4] at hn'
    rw [e5]
    grind
  · have h9 := h.n1
    intro n' g' s' hn' hd y hy
    rw [e4] at hn'
    have h8 := hrw g' y hy
    grind
  · have h9 := h.n2
    intro n' g' c' s' hn' hd hc'
    rw [e4] at hn'
    rw [e3]
    simp only [upd]
    grind
  · have h9 := h.i
    intro g' y hl hy s' n' hi'
    rw [e4]
    have h8 := hrw g' y hy
    have h7 := (hlv g').1 hl
    grind
  · have h9 := h.w
    intro g' y hl hy c' hc'
    rw [e3]
    simp only [upd]
    have h8 := hrw g' y hy
    have h7 := (hlv g').1 hl
    grind
  · have h9 := h.u
    intro g' y hl hy
    have h8 := hrw g' y hy
    have h7 := (hlv g').1 hl
    grind
  · have h9 := h.l
    intro g' y hl hy
    have h8 := hrw g' y hy
    have h7 := (hlv g').1 hl
    grind
  · have h9 := h.b
    intro g' y hl hy
    have h7 := (hlv g').1 hl
    have h6 := hdn g'
    rcases hrw g' y hy with ⟨rfl, rfl⟩ | ⟨hne, hy⟩
    · have h5 := h9 g' q h7 hq
      rw [dn_nil'] at h5 ⊢
      exact ⟨h5.1, fun _ => ⟨hi, by show q.conns = C.lim + 0; omega⟩⟩
    · rw [h6]; exact h9 g' y h7 hy
  · intro g' y hl hy
    have h7 := (hlv g').1 hl
    rcases hrw g' y hy with ⟨rfl, rfl⟩ | ⟨hne, hy⟩
    · exact (h.cn g' q h7 hq).same (hcn g')
    · exact (h.cn g' y h7 hy).same (hcn g')
  · intro n' hn'
    cases hn'
theorem Inv.next (h : Inv C R []) {g : Nat} {q : Row} (hlg : Live R g) (hq : R.rows g = some q) {c n x t : Int} {l : List (Int × Int)} (hs : R.sm c = some (g, n, false)) (hn : n ≠ 0) (hl0 : q.line = (x, t) :: l) {R' : Raw} (e1 : R'.gm = R.gm) (e2 : R'.rows = upd R.rows g (some ({ q with line := l }))) (e3 : R'.sm = upd (upd R.sm c none) x (some (g, n, false))) (e4 : R'.nm = upd R.nm n (some (g, x, 0))) (e5 : R'.last = R.last) : Inv C R' [] := by
  have hnm : ({ q with line := l }).name = q.name := rfl
  have hlv := live_upd (R' := R') hq hnm e1 e2
  have hrw := rows_upd (R' := R') e2
  have hnn := (h.s2 c g n false hs hn).2
  have hc0 := (h.s0 c g n false hs)
  have hids := line_ids hl0
  have hsx := h.w g q hlg hq x (by rw [hids]; simp)
  have hx0 := h.s0 x g 0 false hsx
  have hnd := h.l g q hlg hq
  rw [hids] at hnd
  have hnd1 := (List.nodup_cons.1 hnd).2
  have hnx := (List.nodup_cons.1 hnd).1
  have hcx : c ≠ x := fun e => by
    rw [e, hsx] at hs
    injection hs with hs
    injection hs with _ hs
    injection hs with hs
    exact hn hs.symm
  have hmem : ∀ y, y ∈ q.line.map (·.1) ↔ y = x ∨ y ∈ l.map (·.1) := by
    intro y
    rw [hids]; simp
  have hno : ∀ c' g' p', R.sm c' = some (g', n, p') → c' = c := fun c' g' p' hs' => by
    have := (h.s2 c' g' n p' hs' hn).2
    rw [hnn] at this
    injection this with this
    injection this with _ this
    injection this with this
    exact this.symm
  have hdn : ∀ g', dn R'.nm [] g' = dn R.nm [] g' := fun _ => rfl
  have hcn : ∀ g' n', (∃ c' s', R'.nm n' = some (g', c', s')) ↔ ∃ c' s', R.nm n' = some (g', c', s') := by
    intro g' n'
    rw [e4]
    simp only [upd]
    grind
  refine ⟨gm_upd h hq hnm e1 e2, ?_, ?_, ?_, ?_, ?_, ?_, ?_, ?_, ?_, ?_, ?_, ?_, ?_⟩
  · have h9 := h.s0
    intro c' g' n' p' hc
    rw [e3] at hc
    simp only [upd] at hc
    grind
  · have h9 := h.s1
    intro c' g' p' hc
    rw [e3] at hc
    simp only [upd] at hc
    have h8 := hrw g'
    grind
  · have h9 := h.s2
    have h8 := h.n0
    intro c' g' n' p' hc hn'
    rw [e3] at hc
    rw [e4]
    simp only [upd] at hc ⊢
    grind
  · have h9 := h.n0
    intro n' g' c' s' hn'
    rw [e4] at hn'
    rw [e5]
    simp only [upd] at hn'
    grind
  · have h9 := h.n1
    intro n' g' s' hn' hd y hy
    rw [e4] at hn'
    simp only [upd] at hn'
    have h8 := hrw g' y hy
    grind
  · have h9 := h.n2
    intro n' g' c' s' hn' hd hc'
    rw [e4] at hn'
    rw [e3]
    simp only [upd] at hn' ⊢
    by_cases e : n' = n
    · subst e
      rw [if_pos rfl] at hn'
      injection hn' with hn'
      injection hn' with a1 hn'
      injection hn' with a2 a3
      subst a1 a2 a3
      exact ⟨rfl, false, by rw [if_pos rfl]⟩
    · rw [if_neg e] at hn'
      obtain ⟨b1, p, b2⟩ := h9 n' g' c' s' hn' hd hc'
      have b3 := (h.n0 n' g' c' s' hn').1
      have e1 : c' ≠ x := fun e1 => by
        rw [e1, hsx] at b2
        injection b2 with b2
        injection b2 with _ b2
        injection b2 with b2
        omega
      have e2 : c' ≠ c := fun e2 => by
        rw [e2, hs] at b2
        injection b2 with b2
        injection b2 with _ b2
        injection b2 with b2
        exact e b2.symm
      exact ⟨b1, p, by rw [if_neg e1, if_neg e2]; exact b2⟩
  · have h9 := h.i
    intro g' y hl hy s' n' hi'
    rw [e4]
    simp only [upd]
    have h8 := hrw g' y hy
    have h7 := (hlv g').1 hl
    grind
  · have h9 := h.w
    intro g' y hl hy c' hc'
    rw [e3]
    simp only [upd]
    have h8 := hrw g' y hy
    have h7 := (hlv g').1 hl
    grind
  · have h9 := h.u
    intro g' y hl hy
    have h8 := hrw g' y hy
    have h7 := (hlv g').1 hl
    grind
  · have h9 := h.l
    intro g' y hl hy
    have h8 := hrw g' y hy
    have h7 := (hlv g').1 hl
    grind
  · have h9 := h.b
    intro g' y hl hy
    have h7 := (hlv g').1 hl
    have h6 := hdn g'
    rcases hrw g' y hy with ⟨rfl, rfl⟩ | ⟨hne, hy⟩
    · have h5 := h9 g' q h7 hq
      rw [h6]
      refine ⟨h5.1, fun _ => h5.2 (by rw [hl0]; simp)⟩
    · rw [h6]; exact h9 g' y h7 hy
  · intro g' y hl hy
    have h7 := (hlv g').1 hl
    rcases hrw g' y hy with ⟨rfl, rfl⟩ | ⟨hne, hy⟩
    · exact (h.cn g' q h7 hq).same (hcn g')
    · exact (h.cn g' y h7 hy).same (hcn g')
  · intro n' hn'
    cases hn'
theorem ins_mem (r : Rs) (l : List Rs) (x : Rs) : x ∈ insE r l ↔ x = r ∨ x ∈ l := by
  unfold insE
  rw [List.mem_append, List.mem_cons]
  constructor
  · rintro (h | h | h)
    · exact .inr (List.mem_of_mem_take h)
    · exact .inl h
    · exact .inr (List.mem_of_mem_drop h)
  · rintro (h | h)
    · exact .inr (.inl h)
    · rw [← List.take_append_drop (lowP (ltE r) l) l] at h
      rcases List.mem_append.1 h with h | h
      · exact .inl h
      · exact .inr (.inr h)
theorem ins_up (r : Rs) (l : List Rs) (h : upE l) (hr : r ∉ l) : upE (insE r l) := by
  unfold insE
  have h1 : ∀ x ∈ l.take (lowP (ltE r) l), x.1 < r.1 ∨ (x.1 = r.1 ∧ x.2 < r.2) := fun x hx => by
    obtain ⟨i, hi, rfl⟩ := List.getElem_of_mem hx
    rw [List.length_take] at hi
    rw [List.getElem_take]
    exact (ltE_iff r _).1 (low_before (ltE r) l i _ (by omega) (List.getElem?_eq_getElem (by omega)))
  have h2 : ∀ x ∈ l.drop (lowP (ltE r) l), r.1 < x.1 ∨ (r.1 = x.1 ∧ r.2 < x.2) := fun x hx => by
    have hxl := List.mem_of_mem_drop hx
    obtain ⟨i, hi, rfl⟩ := List.getElem_of_mem hx
    rw [List.length_drop] at hi
    rw [List.getElem_drop] at hxl ⊢
    have hlow : lowP (ltE r) l < l.length := by omega
    have h0 := low_at (ltE r) l _ (List.getElem?_eq_getElem hlow)
    have h3 : ltE r (l[lowP (ltE r) l + i]) = false := by
      cases e : ltE r (l[lowP (ltE r) l + i]) with
      | false => rfl
      | true =>
        have := upE_mono h r (lowP (ltE r) l) (lowP (ltE r) l + i) _ _ (by omega) (List.getElem?_eq_getElem hlow) (List.getElem?_eq_getElem (by omega)) e
        rw [h0] at this; cases this
    have h4 : ¬ (l[lowP (ltE r) l + i].1 < r.1 ∨ (l[lowP (ltE r) l + i].1 = r.1 ∧ l[lowP (ltE r) l + i].2 < r.2)) := fun h5 => by rw [(ltE_iff r (l[lowP (ltE r) l + i])).2 h5] at h3; cases h3
    have h6 : l[lowP (ltE r) l + i] ≠ r := fun e => hr (by rw [← e]; exact hxl)
    have h7 : ¬ (l[lowP (ltE r) l + i].1 = r.1 ∧ l[lowP (ltE r) l + i].2 = r.2) := fun e => h6 (Prod.ext e.1 e.2)
    omega
  refine List.pairwise_append.2 ⟨h.sublist (List.take_sublist _ _), List.pairwise_cons.2 ⟨h2, h.sublist (List.drop_sublist _ _)⟩, fun a ha b hb => ?_⟩
  rcases List.mem_cons.1 hb with rfl | hb
  · exact h1 a ha
  · have := h1 a ha
    have := h2 b hb
    omega
theorem out_mem {l : List Rs} (h : upE l) {i : Nat} {r : Rs} (hi : l[i]? = some r) (x : Rs) : x ∈ l.take i ++ l.drop (i + 1) ↔ x ∈ l ∧ x ≠ r := by
  have hil := (List.getElem?_eq_some_iff.1 hi).1
  have hir := (List.getElem?_eq_some_iff.1 hi).2
  have hsplit : l = l.take i ++ r :: l.drop (i + 1) := by rw [← hir, ← List.drop_eq_getElem_cons hil, List.take_append_drop]
  have hne : ∀ x ∈ l.take i ++ l.drop (i + 1), x ≠ r := by
    rw [hsplit] at h
    obtain ⟨_, h2, h3⟩ := List.pairwise_append.1 h
    obtain ⟨h4, _⟩ := List.pairwise_cons.1 h2
    intro x hx e
    subst e
    rcases List.mem_append.1 hx with hx | hx
    · have := h3 x hx x List.mem_cons_self
      omega
    · have := h4 x hx
      omega
  constructor
  · intro hx
    refine ⟨?_, hne x hx⟩
    rcases List.mem_append.1 hx with hx | hx
    · exact List.mem_of_mem_take hx
    · exact List.mem_of_mem_drop hx
  · rintro ⟨hx, hxr⟩
    rw [hsplit] at hx
    rcases List.mem_append.1 hx with hx | hx
    · exact List.mem_append_left _ hx
    · rcases List.mem_cons.1 hx with hx | hx
      · exact absurd hx hxr
      · exact List.mem_append_right _ hx
theorem out_up {l : List Rs} (h : upE l) (i : Nat) : upE (l.take i ++ l.drop (i + 1)) := by
  rw [← List.eraseIdx_eq_take_drop_succ]
  exact h.sublist (List.eraseIdx_sublist _ _)
/-- where an idle one stands -/
theorem at_low {l : List Rs} (h : upE l) {r : Rs} (hr : r ∈ l) : l[lowP (ltE r) l]? = some r := by
  obtain ⟨i, hi, rfl⟩ := List.getElem_of_mem hr
  have : lowP (ltE l[i]) l = i := low_uniq _ l i (by omega) (fun t x ht hx => by
    rw [ltE_iff]
    obtain ⟨htl, rfl⟩ := List.getElem?_eq_some_iff.1 hx
    exact List.pairwise_iff_getElem.1 h t i htl hi ht) (fun x hx => by
    rw [List.getElem?_eq_getElem hi] at hx
    injection hx with hx
    subst hx
    cases e : ltE l[i] l[i] with
    | false => rfl
    | true => have := (ltE_iff _ _).1 e; omega)
  rw [this, List.getElem?_eq_getElem hi]
theorem dn_one {nm : Int → Option (Nat × Int × Int)} {n : Int} {g : Nat} {c s : Int} (h : nm n = some (g, c, s)) (g' : Nat) : dn nm [n] g' = if g' = g then 1 else 0 := by
  unfold dn
  by_cases e : g' = g
  · subst e; simp [h]
  · have e2 : ¬ g = g' := fun e3 => e e3.symm
    simp [h, e, e2]
theorem Inv.idle (h : Inv C R []) {g : Nat} {q : Row} (hlg : Live R g) (hq : R.rows g = some q) {c n now : Int} (hs : R.sm c = some (g, n, false)) (hn : n ≠ 0) (hl0 : q.line = []) {R' : Raw} (e1 : R'.gm = R.gm) (e2 : R'.rows = upd R.rows g (some ({ q with idle := insE (now, n) q.idle }))) (e3 : R'.sm = upd R.sm c none) (e4 : R'.nm = upd R.nm n (some (g, -1, now))) (e5 : R'.last = R.last) : Inv C R' [] := by
  have hnm : ({ q with idle := insE (now, n) q.idle }).name = q.name := rfl
  have hlv := live_upd (R' := R') hq hnm e1 e2
  have hrw := rows_upd (R' := R') e2
  have hnn := (h.s2 c g n false hs hn).2
  have hc0 := (h.s0 c g n false hs)
  have hno : ∀ c' g' p', R.sm c' = some (g', n, p') → c' = c := fun c' g' p' hs' => by
    have := (h.s2 c' g' n p' hs' hn).2
    rw [hnn] at this
    injection this with this
    injection this with _ this
    injection this with this
    exact this.symm
  have hni : ∀ g' y s', Live R g' → R.rows g' = some y → (s', n) ∉ y.idle := fun g' y s' hl' hy hm => by
    have := (h.i g' y hl' hy s' n hm).1
    rw [hnn] at this
    injection this with this
    injection this with _ this
    injection this with this
    omega
  have hmem := ins_mem (now, n) q.idle
  have hup := ins_up (now, n) q.idle (h.u g q hlg hq) (hni g q now hlg hq)
  have hdn : ∀ g', dn R'.nm [] g' = dn R.nm [] g' := fun _ => rfl
  have hcn : ∀ g' n', (∃ c' s', R'.nm n' = some (g', c', s')) ↔ ∃ c' s', R.nm n' = some (g', c', s') := by
    intro g' n'
    rw [e4]
    simp only [upd]
    grind
  refine ⟨gm_upd h hq hnm e1 e2, ?_, ?_, ?_, ?_, ?_, ?_, ?_, ?_, ?_, ?_, ?_, ?_, ?_⟩
  · have h9 := h.s0
    intro c' g' n' p' hc
    rw [e3] at hc
    simp only [upd] at hc
    grind
  · have h9 := h.s1
    intro c' g' p' hc
    rw [e3] at hc
    simp only [upd] at hc
    have h8 := hrw g'
    grind
  · have h9 := h.s2
    have h8 := h.n0
    intro c' g' n' p' hc hn'
    rw [e3] at hc
    rw [e4]
    simp only [upd] at hc ⊢
    grind
  · have h9 := h.n0
    intro n' g' c' s' hn'
    rw [e4] at hn'
    rw [e5]
    simp only [upd] at hn'
    grind
  · have h9 := h.n1
    intro n' g' s' hn' hd y hy
    rw [e4] at hn'
    simp only [upd] at hn'
    have h8 := hrw g' y hy
    grind
  · have h9 := h.n2
    have h8 := h.s2
    intro n' g' c' s' hn' hd hc'
    rw [e4] at hn'
    rw [e3]
    simp only [upd] at hn' ⊢
    grind
  · have h9 := h.i
    intro g' y hl hy s' n' hi'
    rw [e4]
    simp only [upd]
    have h8 := hrw g' y hy
    have h7 := (hlv g').1 hl
    grind
  · have h9 := h.w
    intro g' y hl hy c' hc'
    rw [e3]
    simp only [upd]
    have h8 := hrw g' y hy
    have h7 := (hlv g').1 hl
    grind
  · have h9 := h.u
    intro g' y hl hy
    have h8 := hrw g' y hy
    have h7 := (hlv g').1 hl
    grind
  · have h9 := h.l
    intro g' y hl hy
    have h8 := hrw g' y hy
    have h7 := (hlv g').1 hl
    grind
  · have h9 := h.b
    intro g' y hl hy
    have h7 := (hlv g').1 hl
    have h6 := hdn g'
    rcases hrw g' y hy with ⟨rfl, rfl⟩ | ⟨hne, hy⟩
    · have h5 := h9 g' q h7 hq
      rw [h6]
      exact ⟨h5.1, fun hne => absurd hl0 hne⟩
    · rw [h6]; exact h9 g' y h7 hy
  · intro g' y hl hy
    have h7 := (hlv g').1 hl
    rcases hrw g' y hy with ⟨rfl, rfl⟩ | ⟨hne, hy⟩
    · exact (h.cn g' q h7 hq).same (hcn g')
    · exact (h.cn g' y h7 hy).same (hcn g')
  · intro n' hn'
    cases hn'
theorem Inv.lostH (h : Inv C R []) {g : Nat} {q : Row} (hlg : Live R g) (hq : R.rows g = some q) {c s n : Int} (hs : R.nm n = some (g, c, s)) (hc : c ≠ -1) (hl0 : q.line = []) {R' : Raw} (e1 : R'.gm = R.gm) (e2 : R'.rows = upd R.rows g (some ({ q with line := [] }))) (e3 : R'.sm = upd R.sm c none) (e4 : R'.nm = R.nm) (e5 : R'.last = R.last) : Inv C R' [n] := by
  have hnm : ({ q with line := [] }).name = q.name := rfl
  have hlv := live_upd (R' := R') hq hnm e1 e2
  have hrw := rows_upd (R' := R') e2
  obtain ⟨hs0, p, hsc⟩ := h.n2 n g c s hs (by simp) hc
  have hn1 := h.n0 n g c s hs
  have hno : ∀ c' g' p', R.sm c' = some (g', n, p') → c' = c := fun c' g' p' hs' => by
    have := (h.s2 c' g' n p' hs' (by omega)).2
    rw [hs] at this
    injection this with this
    injection this with _ this
    injection this with this
    exact this.symm
  have hni : ∀ g' y s', Live R g' → R.rows g' = some y → (s', n) ∉ y.idle := fun g' y s' hl' hy hm => by
    have := (h.i g' y hl' hy s' n hm).1
    rw [hs] at this
    injection this with this
    injection this with _ this
    injection this with this
    exact hc this
  have hcn : ∀ g' n', (∃ c' s', R'.nm n' = some (g', c', s')) ↔ ∃ c' s', R.nm n' = some (g', c', s') := by
    intro g' n'
    rw [e4]
  refine ⟨gm_upd h hq hnm e1 e2, ?_, ?_, ?_, ?_, ?_, ?_, ?_, ?_, ?_, ?_, ?_, ?_, ?_⟩
  · have h9 := h.s0
    intro c' g' n' p' hc
    rw [e3] at hc
    simp only [upd] at hc
    grind
  · have h9 := h.s1
    intro c' g' p' hc
    rw [e3] at hc
    simp only [upd] at hc
    have h8 := hrw g'
    grind
  · have h9 := h.s2
    intro c' g' n' p' hc' hn'
    rw [e3] at hc'
    rw [e4]
    simp only [upd] at hc'
    simp only [List.mem_singleton]
    grind
  · have h9 := h.n0
    intro n' g' c' s' hn'
    rw [e4] at hn'
    rw [e5]
    grind
  · have h9 := h.n1
    intro n' g' s' hn' hd y hy
    rw [e4] at hn'
    have h8 := hrw g' y hy
    grind
  · have h9 := h.n2
    have h8 := h.s2
    intro n' g' c' s' hn' hd hc'
    rw [e4] at hn'
    rw [e3]
    simp only [upd]
    simp only [List.mem_singleton] at hd
    grind
  · have h9 := h.i
    intro g' y hl hy s' n' hi'
    rw [e4]
    have h8 := hrw g' y hy
    have h7 := (hlv g').1 hl
    simp only [List.mem_singleton]
    grind
  · have h9 := h.w
    intro g' y hl hy c' hc'
    rw [e3]
    simp only [upd]
    have h7 := (hlv g').1 hl
    rcases hrw g' y hy with ⟨rfl, rfl⟩ | ⟨hne, hy⟩
    · simp at hc'
    · have h6 := h9 g' y h7 hy c' hc'
      grind
  · have h9 := h.u
    intro g' y hl hy
    have h8 := hrw g' y hy
    have h7 := (hlv g').1 hl
    grind
  · have h9 := h.l
    intro g' y hl hy
    have h8 := hrw g' y hy
    have h7 := (hlv g').1 hl
    grind
  · have h9 := h.b
    intro g' y hl hy
    have h7 := (hlv g').1 hl
    have h6 := dn_one (nm := R'.nm) (by rw [e4]; exact hs) g'
    rcases hrw g' y hy with ⟨rfl, rfl⟩ | ⟨hne, hy⟩
    · have h5 := h9 g' q h7 hq
      rw [dn_nil'] at h5
      refine ⟨by show q.conns ≤ _; omega, fun hne => absurd rfl hne⟩
    · have h5 := h9 g' y h7 hy
      rw [dn_nil'] at h5
      rw [h6, if_neg hne]
      exact h5
  · intro g' y hl hy
    have h7 := (hlv g').1 hl
    rcases hrw g' y hy with ⟨rfl, rfl⟩ | ⟨hne, hy⟩
    · exact (h.cn g' q h7 hq).same (hcn g')
    · exact (h.cn g' y h7 hy).same (hcn g')
  · intro n' hn'
    rw [List.mem_singleton] at hn'
    subst hn'
    exact ⟨g, c, s, by rw [e4]; exact hs⟩
theorem Inv.lostI (h : Inv C R []) {g : Nat} {q : Row} (hlg : Live R g) (hq : R.rows g = some q) {s n : Int} (hs : R.nm n = some (g, -1, s)) (hl0 : q.line = []) {R' : Raw} (e1 : R'.gm = R.gm) (e2 : R'.rows = upd R.rows g (some ({ outQ q s n with line := [] }))) (e3 : R'.sm = upd R.sm (-1) none) (e4 : R'.nm = R.nm) (e5 : R'.last = R.last) : Inv C R' [n] := by
  have hnm : ({ outQ q s n with line := [] }).name = q.name := rfl
  have hlv := live_upd (R' := R') hq hnm e1 e2
  have hrw := rows_upd (R' := R') e2
  have hn1 := h.n0 n g (-1) s hs
  have hmi := h.n1 n g s hs (by simp) q hq
  have hup := h.u g q hlg hq
  have hat := at_low hup hmi
  have hmem := out_mem hup hat
  have hup2 : upE (outQ q s n).idle := out_up hup _
  have hmem2 : ∀ x, x ∈ (outQ q s n).idle ↔ x ∈ q.idle ∧ x ≠ (s, n) := hmem
  have hno : ∀ c' g' p', R.sm c' ≠ some (g', n, p') := fun c' g' p' hs' => by
    have := (h.s2 c' g' n p' hs' (by omega)).2
    rw [hs] at this
    injection this with this
    injection this with _ this
    injection this with this
    have := (h.s0 c' g' n p' hs').1
    omega
  have hnm1 : R.sm (-1) = none := by
    cases e : R.sm (-1) with
    | none => rfl
    | some p =>
      obtain ⟨g', n', p'⟩ := p
      have := (h.s0 (-1) g' n' p' e).1
      omega
  have hsm : R'.sm = R.sm := by
    rw [e3]
    funext x
    simp only [upd]
    split
    · rename_i e; rw [e, hnm1]
    · rfl
  have hni : ∀ g' y s', Live R g' → R.rows g' = some y → (s', n) ∈ y.idle → g' = g ∧ s' = s := fun g' y s' hl' hy hm => by
    have := (h.i g' y hl' hy s' n hm).1
    rw [hs] at this
    injection this with this
    injection this with a1 this
    injection this with _ this
    exact ⟨a1.symm, this.symm⟩
  have hcn : ∀ g' n', (∃ c' s', R'.nm n' = some (g', c', s')) ↔ ∃ c' s', R.nm n' = some (g', c', s') := by
    intro g' n'
    rw [e4]
  refine ⟨gm_upd h hq hnm e1 e2, ?_, ?_, ?_, ?_, ?_, ?_, ?_, ?_, ?_, ?_, ?_, ?_, ?_⟩
  · have h9 := h.s0
    intro c' g' n' p' hc
    rw [hsm] at hc
    grind
  · have h9 := h.s1
    intro c' g' p' hc
    rw [hsm] at hc
    refine ⟨(h9 c' g' p' hc).1, fun y hy => ?_⟩
    have h6 := (h9 c' g' p' hc).2
    rcases hrw g' y hy with ⟨rfl, rfl⟩ | ⟨hne, hy⟩
    · have := h6 q hq
      rw [hl0] at this
      simp at this
    · exact h6 y hy
  · have h9 := h.s2
    intro c' g' n' p' hc' hn'
    rw [hsm] at hc'
    rw [e4]
    simp only [List.mem_singleton]
    grind
  · have h9 := h.n0
    intro n' g' c' s' hn'
    rw [e4] at hn'
    rw [e5]
    grind
  · have h9 := h.n1
    intro n' g' s' hn' hd y hy
    rw [e4] at hn'
    simp only [List.mem_singleton] at hd
    rcases hrw g' y hy with ⟨rfl, rfl⟩ | ⟨hne, hy⟩
    · refine (hmem2 _).2 ⟨h9 n' g' s' hn' (by simp) q hq, fun e => hd ?_⟩
      injection e
    · exact h9 n' g' s' hn' (by simp) y hy
  · have h9 := h.n2
    intro n' g' c' s' hn' hd hc'
    rw [e4] at hn'
    rw [hsm]
    exact h9 n' g' c' s' hn' (by simp) hc'
  · have h9 := h.i
    intro g' y hl hy s' n' hi'
    rw [e4]
    have h7 := (hlv g').1 hl
    simp only [List.mem_singleton]
    rcases hrw g' y hy with ⟨rfl, rfl⟩ | ⟨hne, hy⟩
    · have h6 := (hmem2 _).1 hi'
      refine ⟨(h9 g' q h7 hq s' n' h6.1).1, fun e => ?_⟩
      subst e
      exact h6.2 (by rw [(hni g' q s' h7 hq h6.1).2])
    · refine ⟨(h9 g' y h7 hy s' n' hi').1, fun e => ?_⟩
      subst e
      exact hne (hni g' y s' h7 hy hi').1
  · have h9 := h.w
    intro g' y hl hy c' hc'
    rw [hsm]
    have h7 := (hlv g').1 hl
    rcases hrw g' y hy with ⟨rfl, rfl⟩ | ⟨hne, hy⟩
    · simp at hc'
    · exact h9 g' y h7 hy c' hc'
  · have h9 := h.u
    intro g' y hl hy
    have h7 := (hlv g').1 hl
    rcases hrw g' y hy with ⟨rfl, rfl⟩ | ⟨hne, hy⟩
    · exact hup2
    · exact h9 g' y h7 hy
  · have h9 := h.l
    intro g' y hl hy
    have h7 := (hlv g').1 hl
    rcases hrw g' y hy with ⟨rfl, rfl⟩ | ⟨hne, hy⟩
    · exact List.Pairwise.nil
    · exact h9 g' y h7 hy
  · have h9 := h.b
    intro g' y hl hy
    have h7 := (hlv g').1 hl
    have h6 := dn_one (nm := R'.nm) (by rw [e4]; exact hs) g'
    rcases hrw g' y hy with ⟨rfl, rfl⟩ | ⟨hne, hy⟩
    · have h5 := h9 g' q h7 hq
      rw [dn_nil'] at h5
      refine ⟨by show q.conns ≤ _; omega, fun hne => absurd rfl hne⟩
    · have h5 := h9 g' y h7 hy
      rw [dn_nil'] at h5
      rw [h6, if_neg hne]
      exact h5
  · intro g' y hl hy
    have h7 := (hlv g').1 hl
    rcases hrw g' y hy with ⟨rfl, rfl⟩ | ⟨hne, hy⟩
    · exact (h.cn g' q h7 hq).same (hcn g')
    · exact (h.cn g' y h7 hy).same (hcn g')
  · intro n' hn'
    rw [List.mem_singleton] at hn'
    subst hn'
    exact ⟨g, -1, s, by rw [e4]; exact hs⟩
theorem Inv.lostN (h : Inv C R []) {g : Nat} {q : Row} (hlg : Live R g) (hq : R.rows g = some q) {c s n x t : Int} {l : List (Int × Int)} (hs : R.nm n = some (g, c, s)) (hc : c ≠ -1) (hl0 : q.line = (x, t) :: l) {L : Int} (hL : L = ((R.last + 1 : Nat) : Int)) {R' : Raw} (e1 : R'.gm = R.gm) (e2 : R'.rows = upd R.rows g (some ({ q with line := l, conns := q.conns + 1 }))) (e3 : R'.sm = upd (upd R.sm c none) x (some (g, L, false))) (e4 : R'.nm = upd R.nm L (some (g, x, 0))) (e5 : R'.last = R.last + 1) : Inv C R' [n] := by
  have hnm : ({ q with line := l, conns := q.conns + 1 }).name = q.name := rfl
  have hlv := live_upd (R' := R') hq hnm e1 e2
  have hrw := rows_upd (R' := R') e2
  obtain ⟨hs0, p, hsc⟩ := h.n2 n g c s hs (by simp) hc
  have hn1 := h.n0 n g c s hs
  have hnl : R.nm L = none := by
    cases e : R.nm L with
    | none => rfl
    | some p =>
      obtain ⟨g', c', s'⟩ := p
      have := (h.n0 L g' c' s' e).2.1
      omega
  have hL0 : L ≠ 0 := by omega
  have hLn : L ≠ n := by omega
  have hnoL : ∀ c' g' p', R.sm c' ≠ some (g', L, p') := fun c' g' p' hs' => by
    have := (h.s2 c' g' L p' hs' hL0).2
    rw [hnl] at this
    cases this
  have hlast : (R.last : Int) + 1 = L := by omega
  have hids := line_ids hl0
  have hsx := h.w g q hlg hq x (by rw [hids]; simp)
  have hx0 := h.s0 x g 0 false hsx
  have hnd := h.l g q hlg hq
  rw [hids] at hnd
  have hnd1 := (List.nodup_cons.1 hnd).2
  have hnx := (List.nodup_cons.1 hnd).1
  have hcx : c ≠ x := fun e => by
    rw [e, hsx] at hsc
    injection hsc with hsc
    injection hsc with _ hsc
    injection hsc with hsc
    omega
  have hmem : ∀ y, y ∈ q.line.map (·.1) ↔ y = x ∨ y ∈ l.map (·.1) := by
    intro y
    rw [hids]; simp
  have hno : ∀ c' g' p', R.sm c' = some (g', n, p') → c' = c := fun c' g' p' hs' => by
    have := (h.s2 c' g' n p' hs' (by omega)).2
    rw [hs] at this
    injection this with this
    injection this with _ this
    injection this with this
    exact this.symm
  have hni : ∀ g' y s', Live R g' → R.rows g' = some y → (s', n) ∉ y.idle := fun g' y s' hl' hy hm => by
    have := (h.i g' y hl' hy s' n hm).1
    rw [hs] at this
    injection this with this
    injection this with _ this
    injection this with this
    exact hc this
  refine ⟨gm_upd h hq hnm e1 e2, ?_, ?_, ?_, ?_, ?_, ?_, ?_, ?_, ?_, ?_, ?_, ?_, ?_⟩
  · have h9 := h.s0
    intro c' g' n' p' hc
    rw [e3] at hc
    simp only [upd] at hc
    grind
  · have h9 := h.s1
    intro c' g' p' hc
    rw [e3] at hc
    simp only [upd] at hc
    have h8 := hrw g'
    grind
  · have h9 := h.s2
    have h8 := h.n0
    intro c' g' n' p' hc' hn'
    rw [e3] at hc'
    rw [e4]
    simp only [List.mem_singleton]
    simp only [upd] at hc' ⊢
    grind
  · have h9 := h.n0
    intro n' g' c' s' hn'
    rw [e4] at hn'
    rw [e5]
    simp only [upd] at hn'
    by_cases e : n' = L
    · rw [if_pos e] at hn'
      injection hn' with hn'
      injection hn' with hn'
      subst hn'
      exact ⟨by omega, by omega, (hlv g).2 hlg⟩
    · rw [if_neg e] at hn'
      have := h9 n' g' c' s' hn'
      exact ⟨this.1, by omega, (hlv g').2 this.2.2⟩
  · have h9 := h.n1
    intro n' g' s' hn' hd y hy
    rw [e4] at hn'
    simp only [upd] at hn'
    have h8 := hrw g' y hy
    grind
  · have h9 := h.n2
    intro n' g' c' s' hn' hd hc'
    rw [e4] at hn'
    rw [e3]
    simp only [List.mem_singleton] at hd
    simp only [upd] at hn' ⊢
    by_cases e : n' = L
    · subst e
      rw [if_pos rfl] at hn'
      injection hn' with hn'
      injection hn' with a1 hn'
      injection hn' with a2 a3
      subst a1 a2 a3
      exact ⟨rfl, false, by rw [if_pos rfl]⟩
    · rw [if_neg e] at hn'
      obtain ⟨b1, p, b2⟩ := h9 n' g' c' s' hn' (by simp) hc'
      have b3 := (h.n0 n' g' c' s' hn').1
      have e1 : c' ≠ x := fun e1 => by
        rw [e1, hsx] at b2
        injection b2 with b2
        injection b2 with _ b2
        injection b2 with b2
        omega
      have e2 : c' ≠ c := fun e2 => by
        rw [e2, hsc] at b2
        injection b2 with b2
        injection b2 with _ b2
        injection b2 with b2
        exact hd b2.symm
      exact ⟨b1, p, by rw [if_neg e1, if_neg e2]; exact b2⟩
  · have h9 := h.i
    intro g' y hl hy s' n' hi'
    rw [e4]
    simp only [upd, List.mem_singleton]
    have h8 := hrw g' y hy
    have h7 := (hlv g').1 hl
    grind
  · have h9 := h.w
    intro g' y hl hy c' hc'
    rw [e3]
    simp only [upd]
    have h8 := hrw g' y hy
    have h7 := (hlv g').1 hl
    grind
  · have h9 := h.u
    intro g' y hl hy
    have h8 := hrw g' y hy
    have h7 := (hlv g').1 hl
    grind
  · have h9 := h.l
    intro g' y hl hy
    have h8 := hrw g' y hy
    have h7 := (hlv g').1 hl
    grind
  · have h9 := h.b
    intro g' y hl hy
    have h7 := (hlv g').1 hl
    have h6 := dn_one (nm := R'.nm) (n := n) (g := g) (c := c) (s := s) (by rw [e4]; simp only [upd]; rw [if_neg (fun e => hLn e.symm)]; exact hs) g'
    rcases hrw g' y hy with ⟨rfl, rfl⟩ | ⟨hne, hy⟩
    · have h5 := h9 g' q h7 hq
      rw [dn_nil'] at h5
      rw [h6, if_pos rfl]
      have h4 := h5.2 (by rw [hl0]; simp)
      exact ⟨by show q.conns + 1 ≤ _; omega, fun _ => ⟨h4.1, by show q.conns + 1 = _; omega⟩⟩
    · have h5 := h9 g' y h7 hy
      rw [dn_nil'] at h5
      rw [h6, if_neg hne]
      exact h5
  · intro g' y hl hy
    have h7 := (hlv g').1 hl
    rcases hrw g' y hy with ⟨rfl, rfl⟩ | ⟨hne, hy⟩
    · obtain ⟨A, a1, a2, a3⟩ := h.cn g' q h7 hq
      have hLA : L ∉ A := fun hA => by
        obtain ⟨c', s', h5⟩ := (a3 L).1 hA
        rw [hnl] at h5; cases h5
      refine ⟨L :: A, List.nodup_cons.2 ⟨hLA, a1⟩, by simp [a2], fun n' => ?_⟩
      rw [e4]
      simp only [upd, List.mem_cons]
      have := a3 n'
      grind
    · refine (h.cn g' y h7 hy).same fun n' => ?_
      rw [e4]
      simp only [upd]
      grind
  · intro n' hn'
    rw [List.mem_singleton] at hn'
    subst hn'
    exact ⟨g, c, s, by rw [e4]; simp only [upd]; rw [if_neg (fun e => hLn e.symm)]; exact hs⟩
theorem Inv.leaveW (h : Inv C R []) {g : Nat} {q : Row} (hlg : Live R g) (hq : R.rows g = some q) {c : Int} (hs : R.sm c = some (g, 0, false)) {R' : Raw} (e1 : R'.gm = R.gm) (e2 : R'.rows = upd R.rows g (some ({ q with line := (LN.leaveS q.line c).1 }))) (e3 : R'.sm = upd R.sm c none) (e4 : R'.nm = R.nm) (e5 : R'.last = R.last) : Inv C R' [] := by
  have hnm : ({ q with line := (LN.leaveS q.line c).1 }).name = q.name := rfl
  have hlv := live_upd (R' := R') hq hnm e1 e2
  have hrw := rows_upd (R' := R') e2
  have hc0 := h.s0 c g 0 false hs
  have hmem : ∀ x, x ∈ (LN.leaveS q.line c).1.map (·.1) ↔ x ∈ q.line.map (·.1) ∧ x ≠ c := by
    intro x
    unfold LN.leaveS LN.stayS LN.isId
    simp only [List.mem_map, List.mem_filter, Bool.not_eq_true', decide_eq_false_iff_not]
    constructor
    · rintro ⟨p, ⟨h1, h2⟩, rfl⟩; exact ⟨⟨p, h1, rfl⟩, h2⟩
    · rintro ⟨⟨p, h1, rfl⟩, h2⟩; exact ⟨p, ⟨h1, h2⟩, rfl⟩
  have hnd : ((LN.leaveS q.line c).1.map (·.1)).Nodup := by
    unfold LN.leaveS LN.stayS
    exact (h.l g q hlg hq).sublist ((List.filter_sublist (l := q.line)).map _)
  have hne0 : (LN.leaveS q.line c).1 ≠ [] → q.line ≠ [] := fun h1 h2 => h1 (by rw [h2]; rfl)
  have hdn : ∀ g', dn R'.nm [] g' = dn R.nm [] g' := fun _ => rfl
  have hcn : ∀ g' n', (∃ c' s', R'.nm n' = some (g', c', s')) ↔ ∃ c' s', R.nm n' = some (g', c', s') := by
    intro g' n'
    rw [e4]
  refine ⟨gm_upd h hq hnm e1 e2, ?_, ?_, ?_, ?_, ?_, ?_, ?_, ?_, ?_, ?_, ?_, ?_, ?_⟩
  · have h9 := h.s0
    intro c' g' n' p' hc
    rw [e3] at hc
    simp only [upd] at hc
    grind
  · have h9 := h.s1
    intro c' g' p' hc
    rw [e3] at hc
    simp only [upd] at hc
    have h8 := hrw g'
    grind
  · have h9 := h.s2
    intro c' g' n' p' hc' hn'
    rw [e3] at hc'
    rw [e4]
    simp only [upd] at hc'
    grind
  · have h9 := h.n0
    intro n' g' c' s' hn'
    rw [e4] at hn'
    rw [e5]
    grind
  · have h9 := h.n1
    intro n' g' s' hn' hd y hy
    rw [e4] at hn'
    have h8 := hrw g' y hy
    grind
  · have h9 := h.n2
    have h8 := h.n0
    intro n' g' c' s' hn' hd hc'
    rw [e4] at hn'
    rw [e3]
    simp only [upd]
    grind
  · have h9 := h.i
    intro g' y hl hy s' n' hi'
    rw [e4]
    have h8 := hrw g' y hy
    have h7 := (hlv g').1 hl
    grind
  · have h9 := h.w
    intro g' y hl hy c' hc'
    rw [e3]
    simp only [upd]
    have h8 := hrw g' y hy
    have h7 := (hlv g').1 hl
    grind
  · have h9 := h.u
    intro g' y hl hy
    have h8 := hrw g' y hy
    have h7 := (hlv g').1 hl
    grind
  · have h9 := h.l
    intro g' y hl hy
    have h8 := hrw g' y hy
    have h7 := (hlv g').1 hl
    grind
  · have h9 := h.b
    intro g' y hl hy
    have h7 := (hlv g').1 hl
    have h6 := hdn g'
    rcases hrw g' y hy with ⟨rfl, rfl⟩ | ⟨hne, hy⟩
    · have h5 := h9 g' q h7 hq
      rw [h6]
      exact ⟨h5.1, fun hne => h5.2 (hne0 hne)⟩
    · rw [h6]; exact h9 g' y h7 hy
  · intro g' y hl hy
    have h7 := (hlv g').1 hl
    rcases hrw g' y hy with ⟨rfl, rfl⟩ | ⟨hne, hy⟩
    · exact (h.cn g' q h7 hq).same (hcn g')
    · exact (h.cn g' y h7 hy).same (hcn g')
  · intro n' hn'
    cases hn'
/-- a connection of D is no more -/
theorem Inv.end_ {n : Int} (h : Inv C R (n :: D)) (hnd : n ∉ D) {g : Nat} {c s : Int} {q : Row} (hs : R.nm n = some (g, c, s)) (hlimpos : 1 ≤ C.lim) (hq : R.rows g = some q) : Inv C (endR R n g q) D := by
  obtain ⟨_, _, hlg⟩ := h.n0 n g c s hs
  obtain ⟨A, a1, a2, a3⟩ := h.cn g q hlg hq
  have hnA : n ∈ A := (a3 n).2 ⟨c, s, hs⟩
  have hpos : 1 ≤ q.conns := by rw [← a2]; exact List.length_pos_of_mem hnA
  have hdg : dn R.nm (n :: D) g = dn R.nm D g + 1 := by
    unfold dn
    rw [List.filter_cons_of_pos (by simp [hs])]
    rfl
  have hdo : ∀ g', g' ≠ g → dn R.nm (n :: D) g' = dn R.nm D g' := fun g' hne => by
    unfold dn
    rw [List.filter_cons_of_neg (by simp [hs]; exact fun e => hne e.symm)]
  have hb := h.b g q hlg hq
  rw [hdg] at hb
  obtain ⟨R', hR'⟩ : ∃ R', endR R n g q = R' := ⟨_, rfl⟩
  have e2 : R'.rows = upd R.rows g (some { q with conns := q.conns - 1 }) := by rw [← hR']; rfl
  have e3 : R'.sm = R.sm := by rw [← hR']; rfl
  have e4 : R'.nm = upd R.nm n none := by rw [← hR']; rfl
  have e5 : R'.last = R.last := by rw [← hR']; rfl
  have e1 : R'.gm = if q.conns = 1 then upd R.gm q.name none else R.gm := by rw [← hR']; rfl
  rw [hR']
  have hrw := rows_upd (R' := R') e2
  have hgl : ∀ g', Live R' g' → Live R g' := by
    intro g' hl
    obtain ⟨y, hy, hg⟩ := hl
    rw [e1] at hg
    rcases hrw g' y hy with ⟨rfl, rfl⟩ | ⟨hne, hy⟩
    · exact hlg
    · refine ⟨y, hy, ?_⟩
      split at hg
      · simp only [upd] at hg
        split at hg
        · cases hg
        · exact hg
      · exact hg
  -- what refers to a group refers to a live one
  have hlo : ∀ g', g' ≠ g → Live R g' → Live R' g' := by
    intro g' hne hl
    obtain ⟨y, hy, hg⟩ := hl
    refine ⟨y, by rw [e2]; exact (upd_ne _ _ hne).trans hy, ?_⟩
    rw [e1]
    split
    · have hyn : y.name ≠ q.name := fun e => by
        obtain ⟨q2, hq2, hg2⟩ := hlg
        rw [hq] at hq2
        injection hq2 with hq2
        subst hq2
        rw [e, hg2] at hg
        injection hg with hg
        exact hne hg.symm
      exact (upd_ne _ _ hyn).trans hg
    · exact hg
  have hone : q.conns = 1 → (∀ m c' s', R.nm m = some (g, c', s') → m = n) ∧ q.line = [] := by
    intro h1
    refine ⟨fun m c' s' hm => ?_, ?_⟩
    · have hmA := (a3 m).2 ⟨c', s', hm⟩
      rw [h1] at a2
      obtain ⟨x, rfl⟩ := List.length_eq_one_iff.1 a2
      rw [List.mem_singleton] at hmA hnA
      rw [hmA, hnA]
    · by_cases hl : q.line = []
      · exact hl
      · have := (hb.2 hl).2
        have hd2 := List.length_filter_le (fun n => decide ((R.nm n).map (·.1) = some g)) D
        have h3 : 1 ≤ C.lim := hlimpos
        omega
  have hlg' : q.conns ≠ 1 → Live R' g := by
    intro h1
    obtain ⟨q2, hq2, hg2⟩ := hlg
    rw [hq] at hq2
    injection hq2 with hq2
    subst hq2
    exact ⟨{ q with conns := q.conns - 1 }, by rw [e2]; exact upd_at _ _ _, by rw [e1, if_neg h1]; exact hg2⟩
  have hsl : ∀ c' n' p', R.sm c' = some (g, n', p') → n' ∉ (n :: D) → n' ≠ 0 → q.conns ≠ 1 := by
    intro c' n' p' hs' hd hn' h1
    have := (h.s2 c' g n' p' hs' hn').2
    exact hd (by rw [(hone h1).1 n' _ _ this]; exact List.mem_cons_self)
  refine ⟨?_, ?_, ?_, ?_, ?_, ?_, ?_, ?_, ?_, ?_, ?_, ?_, ?_, ?_⟩
  · intro k g' hk
    rw [e1] at hk
    have hk2 : R.gm k = some g' ∧ (q.conns = 1 → k ≠ q.name) := by
      split at hk
      · rename_i h1
        simp only [upd] at hk
        split at hk
        · cases hk
        · rename_i h2; exact ⟨hk, fun _ => h2⟩
      · rename_i h1; exact ⟨hk, fun h2 => absurd h2 h1⟩
    obtain ⟨y, hy, hyn⟩ := h.gm k g' hk2.1
    by_cases e : g' = g
    · subst e
      rw [hq] at hy
      injection hy with hy
      subst hy
      exact ⟨{ q with conns := q.conns - 1 }, by rw [e2]; exact upd_at _ _ _, hyn⟩
    · exact ⟨y, by rw [e2]; exact (upd_ne _ _ e).trans hy, hyn⟩
  · intro c' g' n' p' hc
    rw [e3] at hc
    obtain ⟨h1, h2, h3⟩ := h.s0 c' g' n' p' hc
    refine ⟨h1, h2, ?_⟩
    by_cases e : g' = g
    · subst e
      apply hlg'
      by_cases hn' : n' = 0
      · subst hn'
        intro h4
        have := (h.s1 c' g' p' hc).2 q hq
        rw [(hone h4).2] at this
        cases this
      · exact hsl c' n' p' hc (h.s2 c' g' n' p' hc hn').1 hn'
    · exact hlo g' e h3
  · intro c' g' p' hc
    rw [e3] at hc
    refine ⟨(h.s1 c' g' p' hc).1, fun y hy => ?_⟩
    rcases hrw g' y hy with ⟨rfl, rfl⟩ | ⟨_, hy⟩
    · exact (h.s1 c' g' p' hc).2 q hq
    · exact (h.s1 c' g' p' hc).2 y hy
  · intro c' g' n' p' hc hn'
    rw [e3] at hc
    obtain ⟨h1, h2⟩ := h.s2 c' g' n' p' hc hn'
    simp only [List.mem_cons, not_or] at h1
    refine ⟨h1.2, ?_⟩
    rw [e4]
    exact (upd_ne _ _ h1.1).trans h2
  · intro n' g' c' s' hn'
    rw [e4] at hn'
    simp only [upd] at hn'
    split at hn'
    · cases hn'
    · rename_i hne
      obtain ⟨h1, h2, h3⟩ := h.n0 n' g' c' s' hn'
      refine ⟨h1, by rw [e5]; exact h2, ?_⟩
      by_cases e : g' = g
      · subst e
        exact hlg' fun h4 => hne ((hone h4).1 n' c' s' hn')
      · exact hlo g' e h3
  · intro n' g' s' hn' hd y hy
    rw [e4] at hn'
    simp only [upd] at hn'
    split at hn'
    · cases hn'
    · rename_i hne
      have hd2 : n' ∉ n :: D := by simp [hne, hd]
      rcases hrw g' y hy with ⟨rfl, rfl⟩ | ⟨_, hy⟩
      · exact h.n1 n' g' s' hn' hd2 q hq
      · exact h.n1 n' g' s' hn' hd2 y hy
  · intro n' g' c' s' hn' hd hc'
    rw [e4] at hn'
    simp only [upd] at hn'
    split at hn'
    · cases hn'
    · rename_i hne
      rw [e3]
      exact h.n2 n' g' c' s' hn' (by simp [hne, hd]) hc'
  · intro g' y hl hy s' n' hi'
    have h7 := hgl g' hl
    rw [e4]
    have h6 : R.nm n' = some (g', -1, s') ∧ n' ∉ n :: D := by
      rcases hrw g' y hy with ⟨rfl, rfl⟩ | ⟨_, hy⟩
      · exact h.i g' q h7 hq s' n' hi'
      · exact h.i g' y h7 hy s' n' hi'
    have h5 := h6.2
    simp only [List.mem_cons, not_or] at h5
    exact ⟨(upd_ne _ _ h5.1).trans h6.1, h5.2⟩
  · intro g' y hl hy c' hc'
    have h7 := hgl g' hl
    rw [e3]
    rcases hrw g' y hy with ⟨rfl, rfl⟩ | ⟨_, hy⟩
    · exact h.w g' q h7 hq c' hc'
    · exact h.w g' y h7 hy c' hc'
  · intro g' y hl hy
    have h7 := hgl g' hl
    rcases hrw g' y hy with ⟨rfl, rfl⟩ | ⟨_, hy⟩
    · exact h.u g' q h7 hq
    · exact h.u g' y h7 hy
  · intro g' y hl hy
    have h7 := hgl g' hl
    rcases hrw g' y hy with ⟨rfl, rfl⟩ | ⟨_, hy⟩
    · exact h.l g' q h7 hq
    · exact h.l g' y h7 hy
  · intro g' y hl hy
    have h7 := hgl g' hl
    have h6 : dn R'.nm D g' = dn R.nm D g' := dn_same D g' fun m hm => by
      rw [e4]
      rw [upd_ne _ _ (fun e => hnd (by rw [← e]; exact hm))]
    rw [h6]
    rcases hrw g' y hy with ⟨rfl, rfl⟩ | ⟨hne, hy⟩
    · exact ⟨by show q.conns - 1 ≤ _; omega, fun hne => ⟨(hb.2 hne).1, by show q.conns - 1 = _; have := (hb.2 hne).2; omega⟩⟩
    · have := h.b g' y h7 hy
      rw [hdo g' hne] at this
      exact this
  · intro g' y hl hy
    have h7 := hgl g' hl
    rcases hrw g' y hy with ⟨rfl, rfl⟩ | ⟨hne, hy⟩
    · refine ⟨A.erase n, a1.erase n, ?_, fun m => ?_⟩
      · rw [List.length_erase_of_mem hnA, a2]
      · rw [a1.mem_erase_iff, a3 m, e4]
        simp only [upd]
        by_cases e : m = n
        · simp [e]
        · simp [e]
    · refine (h.cn g' y h7 hy).same fun m => ?_
      rw [e4]
      simp only [upd]
      by_cases e : m = n
      · subst e
        simp only [if_true]
        constructor
        · rintro ⟨_, _, h9⟩; cases h9
        · rintro ⟨c', s', h9⟩
          rw [hs] at h9
          injection h9 with h9
          injection h9 with h9
          exact absurd h9.symm hne
      · simp only [if_neg e]
  · intro m hm
    obtain ⟨g', c', s', h9⟩ := h.d m (List.mem_cons_of_mem _ hm)
    exact ⟨g', c', s', by rw [e4]; exact (upd_ne _ _ (fun e => hnd (by rw [← e]; exact hm))).trans h9⟩
end
end Go.Proofs.Ytochjbmighijgaa.PO
