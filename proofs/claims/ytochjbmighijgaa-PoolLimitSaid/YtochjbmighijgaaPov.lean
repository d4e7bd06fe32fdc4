/- Package pool, plain: what holds of a pool whatever is asked. No program is walked here; no condition. -/
import Derived.Test.YtochjbmighijgaaPou
namespace Go.Proofs.Ytochjbmighijgaa.PO
open Go.ChangeShapes Go.WideShapes Go.ChangeAt Go.RowKit Go.Maps Go.ChangeMaps
open Go.Proofs.Ytochjbmighijgaa.SL Go.Proofs.Ytochjbmighijgaa.RW
open Go.Proofs.Ytochjbmighijgaa.LN (tkY tkN pu OI IS RdP)
set_option maxRecDepth 100000
set_option linter.unusedVariables false
set_option linter.unusedSimpArgs false

/-- how many of D are of the group -/
def dn (nm : Int → Option (Nat × Int × Int)) (D : List Int) (g : Nat) : Nat := (D.filter fun n => decide ((nm n).map (·.1) = some g)).length
def Live (R : Raw) (g : Nat) : Prop := ∃ q, R.rows g = some q ∧ R.gm q.name = some g
def Cnt (nm : Int → Option (Nat × Int × Int)) (g c : Nat) : Prop := ∃ A : List Int, A.Nodup ∧ A.length = c ∧ ∀ n, n ∈ A ↔ ∃ c s, nm n = some (g, c, s)
/-- what holds of a pool; the connections of D are on their way out -/
structure Inv (C : Cf) (R : Raw) (D : List Int) : Prop where
  gm : ∀ k g, R.gm k = some g → ∃ q, R.rows g = some q ∧ q.name = k
  s0 : ∀ c g n p, R.sm c = some (g, n, p) → 0 ≤ c ∧ I9 c ∧ Live R g
  s1 : ∀ c g p, R.sm c = some (g, 0, p) → p = false ∧ ∀ q, R.rows g = some q → c ∈ q.line.map (·.1)
  s2 : ∀ c g n p, R.sm c = some (g, n, p) → n ≠ 0 → n ∉ D ∧ R.nm n = some (g, c, 0)
  n0 : ∀ n g c s, R.nm n = some (g, c, s) → 1 ≤ n ∧ n ≤ (R.last : Int) ∧ Live R g
  n1 : ∀ n g s, R.nm n = some (g, -1, s) → n ∉ D → ∀ q, R.rows g = some q → (s, n) ∈ q.idle
  n2 : ∀ n g c s, R.nm n = some (g, c, s) → n ∉ D → c ≠ -1 → s = 0 ∧ ∃ p, R.sm c = some (g, n, p)
  i : ∀ g q, Live R g → R.rows g = some q → ∀ s n, (s, n) ∈ q.idle → R.nm n = some (g, -1, s) ∧ n ∉ D
  w : ∀ g q, Live R g → R.rows g = some q → ∀ c, c ∈ q.line.map (·.1) → R.sm c = some (g, 0, false)
  u : ∀ g q, Live R g → R.rows g = some q → upE q.idle
  l : ∀ g q, Live R g → R.rows g = some q → (q.line.map (·.1)).Nodup
  b : ∀ g q, Live R g → R.rows g = some q → q.conns ≤ C.lim + dn R.nm D g ∧ (q.line ≠ [] → q.idle = [] ∧ q.conns = C.lim + dn R.nm D g)
  cn : ∀ g q, Live R g → R.rows g = some q → Cnt R.nm g q.conns
  d : ∀ n, n ∈ D → ∃ g c s, R.nm n = some (g, c, s)
section
variable {C : Cf} {R R1 : Raw} {D : List Int}
theorem Inv.zero (C : Cf) : Inv C R0 [] := ⟨fun k g h => (by cases h), fun c g n p h => (by cases h), fun c g p h => (by cases h), fun c g n p h => (by cases h), fun n g c s h => (by cases h), fun n g s h => (by cases h), fun n g c s h => (by cases h), fun g q h hq => (by cases hq), fun g q h hq => (by cases hq), fun g q h hq => (by cases hq), fun g q h hq => (by cases hq), fun g q h hq => (by cases hq), fun g q h hq => (by cases hq), fun n h => (by cases h)⟩
/-- a seat pinned -/
theorem Inv.pin (h : Inv C R []) {c : Int} {g : Nat} {n : Int} {p : Bool} (hs : R.sm c = some (g, n, p)) (hn : n ≠ 0) : Inv C { R with sm := upd R.sm c (some (g, n, true)) } [] := by
  refine ⟨h.gm, ?_, ?_, ?_, h.n0, h.n1, ?_, h.i, ?_, h.u, h.l, h.b, h.cn, h.d⟩
  · have := h.s0
    intro c' g' n' p' hc
    simp only [upd] at hc
    grind [Live]
  · have := h.s1
    intro c' g' p' hc
    simp only [upd] at hc
    grind
  · have := h.s2
    intro c' g' n' p' hc
    simp only [upd] at hc
    grind
  · have := h.n2
    have := h.s2 c g n p hs hn
    intro n' g' c' s' hc
    simp only [upd]
    grind
  · intro g' q hl hq c' hc
    have h9 := h.w g' q hl hq c' hc
    simp only [upd]
    grind
theorem Inv.find (h : Inv C R D) {k : ByteArray} {g : Nat} (hf : FindS R k g R1) : Inv C R1 D ∧ R1.gm k = some g ∧ ∃ q, R1.rows g = some q ∧ q.name = k := by
  rcases hf with ⟨hg, rfl⟩ | ⟨hg, hr, rfl⟩
  · exact ⟨h, hg, h.gm k g hg⟩
  · have hl1 : ∀ g', Live R g' → Live (findR R k g) g' := by
      intro g' hl
      simp only [Live, findR, upd] at hl ⊢
      grind
    have hl2 : ∀ g', g' ≠ g → Live (findR R k g) g' → Live R g' := by
      intro g' hne hl
      simp only [Live, findR, upd] at hl ⊢
      grind
    have hq1 : ∀ g' q, (findR R k g).rows g' = some q → (g' = g ∧ q = ⟨k, 0, [], []⟩) ∨ (g' ≠ g ∧ R.rows g' = some q) := by
      intro g' q hq
      simp only [findR, upd] at hq
      grind
    have hno : ∀ n c s, R.nm n ≠ some (g, c, s) := by
      intro n c s hn
      obtain ⟨_, _, q, hq, _⟩ := h.n0 _ _ _ _ hn
      rw [hr] at hq; cases hq
    have hnos : ∀ c n p, R.sm c ≠ some (g, n, p) := by
      intro c n p hn
      obtain ⟨_, _, q, hq, _⟩ := h.s0 _ _ _ _ hn
      rw [hr] at hq; cases hq
    refine ⟨⟨?_, ?_, ?_, h.s2, ?_, ?_, h.n2, ?_, ?_, ?_, ?_, ?_, ?_, h.d⟩, upd_at _ _ _, _, upd_at _ _ _, rfl⟩
    · intro k' g' hk
      by_cases e : k' = k
      · subst e
        have e2 : g = g' := by
          have : (findR R k' g).gm k' = some g := upd_at _ _ _
          rw [this] at hk
          injection hk
        subst e2
        exact ⟨_, upd_at _ _ _, rfl⟩
      · have hk2 : R.gm k' = some g' := by
          have : (findR R k g).gm k' = R.gm k' := upd_ne _ _ e
          rw [this] at hk; exact hk
        obtain ⟨q, hq, hqn⟩ := h.gm k' g' hk2
        have hne : g' ≠ g := fun e => by rw [e, hr] at hq; cases hq
        exact ⟨q, (upd_ne _ _ hne).trans hq, hqn⟩
    · intro c g' n p hc
      have := h.s0 c g' n p hc
      exact ⟨this.1, this.2.1, hl1 _ this.2.2⟩
    · intro c g' p hc
      refine ⟨(h.s1 c g' p hc).1, fun q hq => ?_⟩
      rcases hq1 _ _ hq with ⟨rfl, _⟩ | ⟨_, hq⟩
      · exact absurd hc (hnos _ _ _)
      · exact (h.s1 c g' p hc).2 q hq
    · intro n g' c s hn
      have := h.n0 n g' c s hn
      exact ⟨this.1, this.2.1, hl1 _ this.2.2⟩
    · intro n g' s hn hd q hq
      rcases hq1 _ _ hq with ⟨rfl, _⟩ | ⟨_, hq⟩
      · exact absurd hn (hno _ _ _)
      · exact h.n1 n g' s hn hd q hq
    · intro g' q hl hq s n hi
      rcases hq1 _ _ hq with ⟨rfl, rfl⟩ | ⟨hne, hq⟩
      · cases hi
      · exact h.i g' q (hl2 g' hne hl) hq s n hi
    · intro g' q hl hq c hc
      rcases hq1 _ _ hq with ⟨rfl, rfl⟩ | ⟨hne, hq⟩
      · cases hc
      · exact h.w g' q (hl2 g' hne hl) hq c hc
    · intro g' q hl hq
      rcases hq1 _ _ hq with ⟨rfl, rfl⟩ | ⟨hne, hq⟩
      · exact List.Pairwise.nil
      · exact h.u g' q (hl2 g' hne hl) hq
    · intro g' q hl hq
      rcases hq1 _ _ hq with ⟨rfl, rfl⟩ | ⟨hne, hq⟩
      · exact List.Pairwise.nil
      · exact h.l g' q (hl2 g' hne hl) hq
    · intro g' q hl hq
      rcases hq1 _ _ hq with ⟨rfl, rfl⟩ | ⟨hne, hq⟩
      · exact ⟨Nat.zero_le _, fun h => absurd rfl h⟩
      · exact h.b g' q (hl2 g' hne hl) hq
    · intro g' q hl hq
      rcases hq1 _ _ hq with ⟨rfl, rfl⟩ | ⟨hne, hq⟩
      · exact ⟨[], List.nodup_nil, rfl, fun n => ⟨fun h => (by cases h), fun h9 => (by obtain ⟨c, s, h9⟩ := h9; exact absurd h9 (hno _ _ _))⟩⟩
      · exact h.cn g' q (hl2 g' hne hl) hq
/-- one group turned, its name kept -/
theorem live_upd {R' : Raw} {g : Nat} {q q' : Row} (hq : R.rows g = some q) (hn : q'.name = q.name) (h1 : R'.gm = R.gm) (h2 : R'.rows = upd R.rows g (some q')) (g' : Nat) : Live R' g' ↔ Live R g' := by
  unfold Live
  rw [h1, h2]
  simp only [upd]
  by_cases e : g' = g
  · subst e
    simp only [if_true, hq, Option.some.injEq]
    constructor
    · rintro ⟨y, rfl, h⟩; exact ⟨q, rfl, by rw [← hn]; exact h⟩
    · rintro ⟨y, rfl, h⟩; exact ⟨q', rfl, by rw [hn]; exact h⟩
  · simp only [if_neg e]
theorem rows_upd {R' : Raw} {g : Nat} {q' : Row} (h2 : R'.rows = upd R.rows g (some q')) (g' : Nat) (y : Row) (hy : R'.rows g' = some y) : (g' = g ∧ y = q') ∨ (g' ≠ g ∧ R.rows g' = some y) := by
  rw [h2] at hy
  simp only [upd] at hy
  by_cases e : g' = g
  · rw [if_pos e] at hy; injection hy with hy; exact .inl ⟨e, hy.symm⟩
  · rw [if_neg e] at hy; exact .inr ⟨e, hy⟩
theorem gm_upd {R' : Raw} {g : Nat} {q q' : Row} (h : Inv C R D) (hq : R.rows g = some q) (hn : q'.name = q.name) (h1 : R'.gm = R.gm) (h2 : R'.rows = upd R.rows g (some q')) : ∀ k g, R'.gm k = some g → ∃ q, R'.rows g = some q ∧ q.name = k := by
  intro k g' hk
  rw [h1] at hk
  obtain ⟨y, hy, hyn⟩ := h.gm k g' hk
  by_cases e : g' = g
  · subst e
    rw [hq] at hy
    injection hy with hy
    subst hy
    exact ⟨q', by rw [h2]; exact upd_at _ _ _, hn.trans hyn⟩
  · exact ⟨y, by rw [h2]; exact (upd_ne _ _ e).trans hy, hyn⟩
theorem dn_same {nm nm' : Int → Option (Nat × Int × Int)} (D : List Int) (g : Nat) (h : ∀ n, n ∈ D → (nm' n).map (·.1) = (nm n).map (·.1)) : dn nm' D g = dn nm D g := by
  unfold dn
  congr 1
  exact List.filter_congr fun n hn => by rw [h n hn]
theorem Cnt.same {nm nm' : Int → Option (Nat × Int × Int)} {g c : Nat} (h : Cnt nm g c) (hs : ∀ n, (∃ c s, nm' n = some (g, c, s)) ↔ ∃ c s, nm n = some (g, c, s)) : Cnt nm' g c := by
  obtain ⟨A, h1, h2, h3⟩ := h
  exact ⟨A, h1, h2, fun n => (h3 n).trans (hs n).symm⟩
end
end Go.Proofs.Ytochjbmighijgaa.PO
