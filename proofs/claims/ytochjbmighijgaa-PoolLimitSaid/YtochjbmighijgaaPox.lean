/- Package pool, plain: what holds stays when some are late, and when some are idle for too long. No program is walked here; no condition. -/
import Derived.Test.YtochjbmighijgaaPow
namespace Go.Proofs.Ytochjbmighijgaa.PO
open Go.ChangeShapes Go.WideShapes Go.ChangeAt Go.RowKit Go.Maps Go.ChangeMaps
open Go.Proofs.Ytochjbmighijgaa.SL Go.Proofs.Ytochjbmighijgaa.RW
open Go.Proofs.Ytochjbmighijgaa.LN (tkY tkN pu OI IS RdP)
set_option maxRecDepth 100000
set_option linter.unusedVariables false
set_option linter.unusedSimpArgs false

open Go.Proofs.Ytochjbmighijgaa.LN (isLate goneS stayS)
section
variable {C : Cf} {R : Raw} {D : List Int}
theorem act_rows {act : Row → Row} {g : Nat} {y : Row} (h : actR R act (fun _ => false) g = some y) : ∃ q, R.rows g = some q ∧ y = if R.gm q.name = some g then act q else q := by
  unfold actR at h
  cases hq : R.rows g with
  | none => rw [hq] at h; cases h
  | some q =>
    rw [hq] at h
    simp only [Option.map_some, and_true] at h
    injection h with h
    exact ⟨q, rfl, h.symm⟩
theorem act_live {act : Row → Row} (hn : ∀ q, (act q).name = q.name) {R' : Raw} (e1 : R'.gm = R.gm) (e2 : R'.rows = actR R act fun _ => false) (g : Nat) : Live R' g ↔ Live R g := by
  unfold Live
  rw [e1, e2]
  constructor
  · rintro ⟨y, hy, hg⟩
    obtain ⟨q, hq, rfl⟩ := act_rows hy
    refine ⟨q, hq, ?_⟩
    split at hg
    · assumption
    · exact hg
  · rintro ⟨q, hq, hg⟩
    refine ⟨act q, ?_, by rw [hn]; exact hg⟩
    unfold actR
    rw [hq]
    simp [hg]
theorem act_at {act : Row → Row} (hn : ∀ q, (act q).name = q.name) {R' : Raw} (e1 : R'.gm = R.gm) (e2 : R'.rows = actR R act fun _ => false) {g : Nat} (hl : Live R g) {y : Row} (hy : R'.rows g = some y) : ∃ q, R.rows g = some q ∧ y = act q := by
  rw [e2] at hy
  obtain ⟨q, hq, rfl⟩ := act_rows hy
  obtain ⟨q2, hq2, hg⟩ := hl
  rw [hq] at hq2
  injection hq2 with hq2
  subst hq2
  exact ⟨q, hq, by rw [if_pos hg]⟩
theorem act_gm {act : Row → Row} (hn : ∀ q, (act q).name = q.name) (h : Inv C R D) {R' : Raw} (e1 : R'.gm = R.gm) (e2 : R'.rows = actR R act fun _ => false) : ∀ k g, R'.gm k = some g → ∃ q, R'.rows g = some q ∧ q.name = k := by
  intro k g hk
  rw [e1] at hk
  obtain ⟨q, hq, hqn⟩ := h.gm k g hk
  refine ⟨act q, ?_, (hn q).trans hqn⟩
  rw [e2]
  unfold actR
  rw [hq]
  simp [hqn, hk]
/-- what a name told -/
theorem gon_some {out : Row → List Int} {k : ByteArray} (h : (gonR R out (fun _ => false) k).isSome = true) : ∃ g q, R.gm k = some g ∧ R.rows g = some q ∧ out q ≠ [] ∧ (gonR R out (fun _ => false) k).getD [] = out q := by
  unfold gonR at h ⊢
  cases hg : R.gm k with
  | none => rw [hg] at h; simp at h
  | some g =>
    rw [hg] at h
    simp only [Option.bind_some] at h ⊢
    cases hq : R.rows g with
    | none => rw [hq] at h; simp at h
    | some q =>
      rw [hq] at h
      simp only [Option.bind_some, true_and] at h ⊢
      split at h
      · rename_i hne
        rw [if_pos hne]
        exact ⟨g, q, rfl, hq, hne, rfl⟩
      · simp at h
theorem gon_of {out : Row → List Int} {k : ByteArray} {g : Nat} {q : Row} (hg : R.gm k = some g) (hq : R.rows g = some q) (ho : out q ≠ []) : gonR R out (fun _ => false) k = some (out q) := by
  unfold gonR
  rw [hg]
  simp only [Option.bind_some]
  rw [hq]
  simp [ho]
/-- whom all of them told -/
theorem gone_mem (h : Inv C R D) {out : Row → List Int} {ks : List ByteArray} (hk : ∀ k, k ∈ ks ↔ (gonR R out (fun _ => false) k).isSome = true) (x : Int) : x ∈ ks.flatMap (fun k => (gonR R out (fun _ => false) k).getD []) ↔ ∃ g q, Live R g ∧ R.rows g = some q ∧ x ∈ out q := by
  rw [List.mem_flatMap]
  constructor
  · rintro ⟨k, hkm, hx⟩
    obtain ⟨g, q, hg, hq, _, he⟩ := gon_some ((hk k).1 hkm)
    rw [he] at hx
    obtain ⟨q2, hq2, hqn⟩ := h.gm k g hg
    rw [hq] at hq2
    injection hq2 with hq2
    subst hq2
    exact ⟨g, q, ⟨q, hq, by rw [hqn]; exact hg⟩, hq, hx⟩
  · rintro ⟨g, q, hl, hq, hx⟩
    obtain ⟨q2, hq2, hg⟩ := hl
    rw [hq] at hq2
    injection hq2 with hq2
    subst hq2
    have := gon_of (R := R) hg hq (List.ne_nil_of_mem hx)
    exact ⟨q.name, (hk _).2 (by rw [this]; rfl), by rw [this]; exact hx⟩
theorem Inv.late (h : Inv C R []) (now : Int) {ks : List ByteArray} (hk : ∀ k, k ∈ ks ↔ (gonR R (lateO now) (fun _ => false) k).isSome = true) {R' : Raw} (e1 : R'.gm = R.gm) (e2 : R'.rows = actR R (lateA now) fun _ => false)
    (e3 : R'.sm = delS (ks.flatMap fun k => (gonR R (lateO now) (fun _ => false) k).getD []) R.sm) (e4 : R'.nm = R.nm) (e5 : R'.last = R.last) : Inv C R' [] := by
  have hn : ∀ q, (lateA now q).name = q.name := fun _ => rfl
  have hlv := act_live hn e1 e2
  have hgo := gone_mem h hk
  have hat : ∀ {g y}, Live R g → R'.rows g = some y → ∃ q, R.rows g = some q ∧ y = lateA now q := fun hl hy => act_at hn e1 e2 hl hy
  have hin : ∀ q x, x ∈ lateO now q ↔ ∃ p ∈ q.line, p.1 = x ∧ isLate now p = true := fun q x => by
    unfold lateO goneS
    rw [List.mem_map]
    constructor
    · rintro ⟨p, hp, rfl⟩; exact ⟨p, (List.mem_filter.1 hp).1, rfl, (List.mem_filter.1 hp).2⟩
    · rintro ⟨p, hp, rfl, h2⟩; exact ⟨p, List.mem_filter.2 ⟨hp, h2⟩, rfl⟩
  have hst : ∀ q x, x ∈ (lateA now q).line.map (·.1) ↔ ∃ p ∈ q.line, p.1 = x ∧ isLate now p = false := fun q x => by
    unfold lateA stayS
    simp only [List.mem_map, List.mem_filter, Bool.not_eq_true']
    constructor
    · rintro ⟨p, ⟨h1, h2⟩, rfl⟩; exact ⟨p, h1, rfl, h2⟩
    · rintro ⟨p, h1, rfl, h2⟩; exact ⟨p, ⟨h1, h2⟩, rfl⟩
  -- one who waits stands in one line, at one place
  have huniq : ∀ {g q}, Live R g → R.rows g = some q → ∀ p ∈ q.line, ∀ p' ∈ q.line, p.1 = p'.1 → p = p' := fun {g q} hl hq p hp p' hp' e => by
    obtain ⟨i, hi, rfl⟩ := List.getElem_of_mem hp
    obtain ⟨j, hj, rfl⟩ := List.getElem_of_mem hp'
    have hnd := h.l g q hl hq
    have hij : i = j := by
      have hpw := List.pairwise_iff_getElem.1 hnd
      rcases Nat.lt_trichotomy i j with hlt | heq | hlt
      · exact absurd (by rw [List.getElem_map, List.getElem_map]; exact e) (hpw i j (by simpa using hi) (by simpa using hj) hlt)
      · exact heq
      · exact absurd (by rw [List.getElem_map, List.getElem_map]; exact e.symm) (hpw j i (by simpa using hj) (by simpa using hi) hlt)
    subst hij; rfl
  have hgone : ∀ x, x ∈ (ks.flatMap fun k => (gonR R (lateO now) (fun _ => false) k).getD []) → ∃ g q, Live R g ∧ R.rows g = some q ∧ R.sm x = some (g, 0, false) ∧ ∃ p ∈ q.line, p.1 = x ∧ isLate now p = true := fun x hx => by
    obtain ⟨g, q, hl, hq, hxo⟩ := (hgo x).1 hx
    obtain ⟨p, hp, rfl, hp2⟩ := (hin q x).1 hxo
    exact ⟨g, q, hl, hq, h.w g q hl hq p.1 (List.mem_map_of_mem hp), p, hp, rfl, hp2⟩
  have hsm : ∀ c v, R'.sm c = some v → R.sm c = some v ∧ c ∉ (ks.flatMap fun k => (gonR R (lateO now) (fun _ => false) k).getD []) := fun c v hc => by
    rw [e3] at hc
    unfold delS at hc
    split at hc
    · cases hc
    · rename_i hnm; exact ⟨hc, hnm⟩
  have hsm2 : ∀ c v, R.sm c = some v → c ∉ (ks.flatMap fun k => (gonR R (lateO now) (fun _ => false) k).getD []) → R'.sm c = some v := fun c v hc hnm => by
    rw [e3]
    unfold delS
    rw [if_neg hnm]; exact hc
  refine ⟨act_gm hn h e1 e2, ?_, ?_, ?_, ?_, ?_, ?_, ?_, ?_, ?_, ?_, ?_, ?_, ?_⟩
  · intro c g n p hc
    obtain ⟨h1, h2, h3⟩ := h.s0 c g n p (hsm c _ hc).1
    exact ⟨h1, h2, (hlv g).2 h3⟩
  · intro c g p hc
    obtain ⟨hc1, hc2⟩ := hsm c _ hc
    refine ⟨(h.s1 c g p hc1).1, fun y hy => ?_⟩
    have hl := (h.s0 c g 0 p hc1).2.2
    obtain ⟨q, hq, rfl⟩ := hat hl hy
    have := (h.s1 c g p hc1).2 q hq
    obtain ⟨pp, hpp, rfl⟩ := List.mem_map.1 this
    rw [hst]
    refine ⟨pp, hpp, rfl, ?_⟩
    cases e : isLate now pp with
    | false => rfl
    | true => exact absurd ((hgo pp.1).2 ⟨g, q, hl, hq, (hin q pp.1).2 ⟨pp, hpp, rfl, e⟩⟩) hc2
  · intro c g n p hc hn'
    rw [e4]
    exact h.s2 c g n p (hsm c _ hc).1 hn'
  · intro n g c s hn'
    rw [e4] at hn'
    rw [e5]
    obtain ⟨h1, h2, h3⟩ := h.n0 n g c s hn'
    exact ⟨h1, h2, (hlv g).2 h3⟩
  · intro n g s hn' hd y hy
    rw [e4] at hn'
    obtain ⟨q, hq, rfl⟩ := hat (h.n0 n g (-1) s hn').2.2 hy
    exact h.n1 n g s hn' hd q hq
  · intro n g c s hn' hd hc
    rw [e4] at hn'
    obtain ⟨h1, p, h2⟩ := h.n2 n g c s hn' hd hc
    refine ⟨h1, p, hsm2 c _ h2 fun hx => ?_⟩
    obtain ⟨g', q', _, _, h5, _⟩ := hgone c hx
    rw [h2] at h5
    injection h5 with h5
    injection h5 with _ h5
    injection h5 with h5
    have := (h.n0 n g c s hn').1
    omega
  · intro g y hl hy s n hi
    have h7 := (hlv g).1 hl
    obtain ⟨q, hq, rfl⟩ := hat h7 hy
    rw [e4]
    exact h.i g q h7 hq s n hi
  · intro g y hl hy c hc
    have h7 := (hlv g).1 hl
    obtain ⟨q, hq, rfl⟩ := hat h7 hy
    obtain ⟨p, hp, rfl, hp2⟩ := (hst q c).1 hc
    have hw := h.w g q h7 hq p.1 (List.mem_map_of_mem hp)
    refine hsm2 p.1 _ hw fun hx => ?_
    obtain ⟨g', q', hl', hq', h5, p', hp', hpe, hpl⟩ := hgone p.1 hx
    rw [hw] at h5
    injection h5 with h5
    injection h5 with h5
    subst h5
    rw [hq] at hq'
    injection hq' with hq'
    subst hq'
    have := huniq h7 hq p' hp' p hp hpe
    subst this
    rw [hp2] at hpl; cases hpl
  · intro g y hl hy
    have h7 := (hlv g).1 hl
    obtain ⟨q, hq, rfl⟩ := hat h7 hy
    exact h.u g q h7 hq
  · intro g y hl hy
    have h7 := (hlv g).1 hl
    obtain ⟨q, hq, rfl⟩ := hat h7 hy
    exact (h.l g q h7 hq).sublist ((List.filter_sublist (l := q.line)).map _)
  · intro g y hl hy
    have h7 := (hlv g).1 hl
    obtain ⟨q, hq, rfl⟩ := hat h7 hy
    have hb := h.b g q h7 hq
    refine ⟨by rw [e4]; exact hb.1, fun hne => ?_⟩
    rw [e4]
    exact hb.2 fun e => hne (by show stayS (isLate now) q.line = []; rw [e]; rfl)
  · intro g y hl hy
    have h7 := (hlv g).1 hl
    obtain ⟨q, hq, rfl⟩ := hat h7 hy
    rw [e4]
    exact h.cn g q h7 hq
  · intro n hn'
    cases hn'
theorem reap_split (T : Int) (q : Row) : ∃ A, q.idle = A ++ (reapA T q).idle ∧ A.map (·.2) = reapO T q := by
  unfold reapA reapO reapL reapD
  exact ⟨q.idle.takeWhile fun r => decide (r.1 ≤ T), (List.takeWhile_append_dropWhile ..).symm, rfl⟩
theorem idle_nodup (h : Inv C R []) {g : Nat} {q : Row} (hl : Live R g) (hq : R.rows g = some q) : (q.idle.map (·.2)).Nodup := by
  refine List.pairwise_map.2 ((h.u g q hl hq).imp_of_mem fun {a b} ha hb hlt e => ?_)
  obtain ⟨a1, a2⟩ := a
  obtain ⟨b1, b2⟩ := b
  simp only at e hlt
  subst e
  have h1 := (h.i g q hl hq a1 a2 ha).1
  have h2 := (h.i g q hl hq b1 a2 hb).1
  rw [h1] at h2
  injection h2 with h2
  injection h2 with _ h2
  injection h2 with _ h2
  omega
theorem nodup_le : ∀ (l m : List Int), l.Nodup → (∀ x ∈ l, x ∈ m) → l.length ≤ m.length
  | [], m, _, _ => Nat.zero_le _
  | x :: l, m, h, hs => by
    have h1 := List.nodup_cons.1 h
    have hm := hs x List.mem_cons_self
    have := nodup_le l (m.erase x) h1.2 fun y hy => by
      have hne : y ≠ x := fun e => h1.1 (by rw [← e]; exact hy)
      exact (List.mem_erase_of_ne hne).2 (hs y (List.mem_cons_of_mem _ hy))
    rw [List.length_erase_of_mem hm] at this
    have := List.length_pos_of_mem hm
    simp only [List.length_cons]
    omega
/-- there are never more idle ones than there are -/
theorem idle_le (h : Inv C R []) {g : Nat} {q : Row} (hl : Live R g) (hq : R.rows g = some q) : q.idle.length ≤ q.conns := by
  obtain ⟨A, a1, a2, a3⟩ := h.cn g q hl hq
  have hs : ∀ x ∈ q.idle.map (·.2), x ∈ A := fun x hx => by
    obtain ⟨p, hp, rfl⟩ := List.mem_map.1 hx
    exact (a3 _).2 ⟨_, _, (h.i g q hl hq p.1 p.2 hp).1⟩
  have := nodup_le _ _ (idle_nodup h hl hq) hs
  rw [List.length_map, a2] at this
  exact this
theorem Inv.reap (h : Inv C R []) (T : Int) {ks : List ByteArray} {l : List Int} (hkn : ks.Nodup) (hk : ∀ k, k ∈ ks ↔ (gonR R (reapO T) (fun _ => false) k).isSome = true) (hp : l.Perm (ks.flatMap fun k => (gonR R (reapO T) (fun _ => false) k).getD [])) {R' : Raw} (e1 : R'.gm = R.gm) (e2 : R'.rows = actR R (reapA T) fun _ => false)
    (e3 : R'.sm = R.sm) (e4 : R'.nm = R.nm) (e5 : R'.last = R.last) : Inv C R' l ∧ l.Nodup := by
  have hn : ∀ q, (reapA T q).name = q.name := fun _ => rfl
  have hlv := act_live hn e1 e2
  have hgo : ∀ x, x ∈ l ↔ ∃ g q, Live R g ∧ R.rows g = some q ∧ x ∈ reapO T q := fun x => by rw [hp.mem_iff]; exact gone_mem h hk x
  have hat : ∀ {g y}, Live R g → R'.rows g = some y → ∃ q, R.rows g = some q ∧ y = reapA T q := fun hl hy => act_at hn e1 e2 hl hy
  have hin : ∀ x, x ∈ l → ∃ g q s, Live R g ∧ R.rows g = some q ∧ (s, x) ∈ q.idle ∧ x ∈ reapO T q ∧ R.nm x = some (g, -1, s) := fun x hx => by
    obtain ⟨g, q, hl, hq, hxo⟩ := (hgo x).1 hx
    obtain ⟨A, hA, hAo⟩ := reap_split T q
    rw [← hAo] at hxo
    obtain ⟨p, hp, rfl⟩ := List.mem_map.1 hxo
    have hpi : p ∈ q.idle := by rw [hA]; exact List.mem_append_left _ hp
    exact ⟨g, q, p.1, hl, hq, hpi, by rw [← hAo]; exact List.mem_map_of_mem hp, (h.i g q hl hq p.1 p.2 hpi).1⟩
  -- what stays idle is not told, what is told does not stay
  have hdis : ∀ {g q}, Live R g → R.rows g = some q → ∀ p ∈ (reapA T q).idle, p.2 ∉ reapO T q := fun {g q} hl hq p hp hx => by
    obtain ⟨A, hA, hAo⟩ := reap_split T q
    have hnd := idle_nodup h hl hq
    rw [hA, List.map_append, List.nodup_append] at hnd
    rw [← hAo] at hx
    exact hnd.2.2 _ hx _ (List.mem_map_of_mem hp) rfl
  have hnil : ∀ g, dn R'.nm l g ≤ dn R'.nm l g := fun _ => Nat.le_refl _
  have hd0 : ∀ {g q}, Live R g → R.rows g = some q → q.line ≠ [] → dn R'.nm l g = 0 := fun {g q} hl hq hne => by
    have hi := ((h.b g q hl hq).2 hne).1
    unfold dn
    rw [List.length_eq_zero_iff, List.filter_eq_nil_iff]
    intro x hx
    obtain ⟨g', q', s', hl', hq', hm', _, hnm⟩ := hin x hx
    rw [e4, hnm]
    simp only [Option.map_some, decide_eq_true_eq]
    intro e
    injection e with e
    subst e
    rw [hq] at hq'
    injection hq' with hq'
    subst hq'
    rw [hi] at hm'
    cases hm'
  refine ⟨⟨act_gm hn h e1 e2, ?_, ?_, ?_, ?_, ?_, ?_, ?_, ?_, ?_, ?_, ?_, ?_, ?_⟩, ?_⟩
  · intro c g n p hc
    rw [e3] at hc
    obtain ⟨h1, h2, h3⟩ := h.s0 c g n p hc
    exact ⟨h1, h2, (hlv g).2 h3⟩
  · intro c g p hc
    rw [e3] at hc
    refine ⟨(h.s1 c g p hc).1, fun y hy => ?_⟩
    obtain ⟨q, hq, rfl⟩ := hat (h.s0 c g 0 p hc).2.2 hy
    exact (h.s1 c g p hc).2 q hq
  · intro c g n p hc hn'
    rw [e3] at hc
    rw [e4]
    refine ⟨fun hx => ?_, (h.s2 c g n p hc hn').2⟩
    obtain ⟨g', q', s', _, _, _, _, hnm⟩ := hin n hx
    rw [(h.s2 c g n p hc hn').2] at hnm
    injection hnm with hnm
    injection hnm with _ hnm
    injection hnm with hnm
    have := (h.s0 c g n p hc).1
    omega
  · intro n g c s hn'
    rw [e4] at hn'
    rw [e5]
    obtain ⟨h1, h2, h3⟩ := h.n0 n g c s hn'
    exact ⟨h1, h2, (hlv g).2 h3⟩
  · intro n g s hn' hd y hy
    rw [e4] at hn'
    have hl := (h.n0 n g (-1) s hn').2.2
    obtain ⟨q, hq, rfl⟩ := hat hl hy
    have hm := h.n1 n g s hn' (by simp) q hq
    obtain ⟨A, hA, hAo⟩ := reap_split T q
    rw [hA] at hm
    rcases List.mem_append.1 hm with hm | hm
    · exact absurd ((hgo n).2 ⟨g, q, hl, hq, by rw [← hAo]; exact List.mem_map.2 ⟨_, hm, rfl⟩⟩) hd
    · exact hm
  · intro n g c s hn' hd hc
    rw [e4] at hn'
    rw [e3]
    exact h.n2 n g c s hn' (by simp) hc
  · intro g y hl hy s n hi
    have h7 := (hlv g).1 hl
    obtain ⟨q, hq, rfl⟩ := hat h7 hy
    obtain ⟨A, hA, hAo⟩ := reap_split T q
    have hiq : (s, n) ∈ q.idle := by rw [hA]; exact List.mem_append_right _ hi
    rw [e4]
    refine ⟨(h.i g q h7 hq s n hiq).1, fun hx => ?_⟩
    obtain ⟨g', q', s', hl', hq', _, hxo, hnm⟩ := hin n hx
    rw [(h.i g q h7 hq s n hiq).1] at hnm
    injection hnm with hnm
    injection hnm with hnm
    subst hnm
    rw [hq] at hq'
    injection hq' with hq'
    subst hq'
    exact hdis h7 hq (s, n) hi hxo
  · intro g y hl hy c hc
    have h7 := (hlv g).1 hl
    obtain ⟨q, hq, rfl⟩ := hat h7 hy
    rw [e3]
    exact h.w g q h7 hq c hc
  · intro g y hl hy
    have h7 := (hlv g).1 hl
    obtain ⟨q, hq, rfl⟩ := hat h7 hy
    exact (h.u g q h7 hq).sublist (List.dropWhile_sublist _)
  · intro g y hl hy
    have h7 := (hlv g).1 hl
    obtain ⟨q, hq, rfl⟩ := hat h7 hy
    exact h.l g q h7 hq
  · intro g y hl hy
    have h7 := (hlv g).1 hl
    obtain ⟨q, hq, rfl⟩ := hat h7 hy
    have hb := h.b g q h7 hq
    rw [dn_nil'] at hb
    refine ⟨by show q.conns ≤ _; omega, fun hne => ?_⟩
    have h5 := hb.2 hne
    rw [hd0 h7 hq hne]
    refine ⟨?_, h5.2⟩
    show reapL T q.idle = []
    rw [h5.1]; rfl
  · intro g y hl hy
    have h7 := (hlv g).1 hl
    obtain ⟨q, hq, rfl⟩ := hat h7 hy
    rw [e4]
    exact h.cn g q h7 hq
  · intro n hn'
    obtain ⟨g, q, s, _, _, _, _, hnm⟩ := hin n hn'
    exact ⟨g, -1, s, by rw [e4]; exact hnm⟩
  · rw [hp.nodup_iff]
    unfold List.Nodup
    rw [List.pairwise_flatMap]
    refine ⟨fun k hkm => ?_, hkn.imp_of_mem fun {k1 k2} hk1 hk2 hne x hx y hy e => ?_⟩
    · obtain ⟨g, q, hg, hq, _, he⟩ := gon_some ((hk k).1 hkm)
      rw [he]
      obtain ⟨q2, hq2, hqn⟩ := h.gm k g hg
      rw [hq] at hq2
      injection hq2 with hq2
      subst hq2
      obtain ⟨A, hA, hAo⟩ := reap_split T q
      have hnd := idle_nodup h ⟨q, hq, by rw [hqn]; exact hg⟩ hq
      rw [hA, List.map_append, List.nodup_append] at hnd
      rw [← hAo]
      exact hnd.1
    · subst e
      have side : ∀ k, k ∈ ks → x ∈ (gonR R (reapO T) (fun _ => false) k).getD [] → ∃ s g, R.nm x = some (g, -1, s) ∧ R.gm k = some g := fun k hkm hxk => by
        obtain ⟨g, q, hg, hq, _, he⟩ := gon_some ((hk k).1 hkm)
        rw [he] at hxk
        obtain ⟨q2, hq2, hqn⟩ := h.gm k g hg
        rw [hq] at hq2
        injection hq2 with hq2
        subst hq2
        obtain ⟨A, hA, hAo⟩ := reap_split T q
        rw [← hAo] at hxk
        obtain ⟨p, hp, rfl⟩ := List.mem_map.1 hxk
        exact ⟨p.1, g, (h.i g q ⟨q, hq, by rw [hqn]; exact hg⟩ hq p.1 p.2 (by rw [hA]; exact List.mem_append_left _ hp)).1, hg⟩
      obtain ⟨s1, g1, h1, h2⟩ := side k1 hk1 hx
      obtain ⟨s2, g2, h3, h4⟩ := side k2 hk2 hy
      rw [h1] at h3
      injection h3 with h3
      injection h3 with h3
      subst h3
      obtain ⟨qa, ha, hna⟩ := h.gm k1 g1 h2
      obtain ⟨qb, hb, hnb⟩ := h.gm k2 g1 h4
      rw [ha] at hb
      injection hb with hb
      subst hb
      exact hne (hna.symm.trans hnb)
/-- all of them can be ended -/
theorem ends_all (hlim : 1 ≤ C.lim ∧ C.lim ≤ 1000) : ∀ (l : List Int) (R : Raw), Inv C R l → l.Nodup → l.length ≤ 100000 → R.last ≤ 1000000 → ∃ R', Ends R l R' ∧ Inv C R' [] ∧ R'.last = R.last
  | [], R, h, _, _, _ => ⟨R, .nil R, h, rfl⟩
  | n :: l, R, h, hnd, hlen, hla => by
    obtain ⟨g, c, s, hs⟩ := h.d n List.mem_cons_self
    obtain ⟨h1, h2, hlg⟩ := h.n0 n g c s hs
    obtain ⟨q, hq, hgm⟩ := hlg
    have hnd1 := List.nodup_cons.1 hnd
    have h3 := h.end_ hnd1.1 hs hlim.1 hq
    have hla2 : (endR R n g q).last = R.last := rfl
    simp only [List.length_cons] at hlen
    obtain ⟨R', e1, e2, e3⟩ := ends_all hlim l _ h3 hnd1.2 (by omega) (by rw [hla2]; exact hla)
    obtain ⟨A, a1, a2, a3⟩ := h.cn g q ⟨q, hq, hgm⟩ hq
    have hpos : 1 ≤ q.conns := by rw [← a2]; exact List.length_pos_of_mem ((a3 n).2 ⟨c, s, hs⟩)
    have hb := (h.b g q ⟨q, hq, hgm⟩ hq).1
    have hdn : dn R.nm (n :: l) g ≤ (n :: l).length := List.length_filter_le _ _
    simp only [List.length_cons] at hdn
    exact ⟨R', .cons hs hq ⟨hpos, by omega⟩ ⟨by omega, by omega⟩ e1, e2, e3.trans hla2⟩
end
end Go.Proofs.Ytochjbmighijgaa.PO
