/- Package pool in a law: what holds of a pool stays, whatever is asked. Conditions: how many calls there were. -/
import Derived.Test.YtochjbmighijgaaPou
import Derived.Test.YtochjbmighijgaaPox
namespace Go.Proofs.Ytochjbmighijgaa.PO
open Go.ChangeShapes Go.WideShapes Go.ChangeAt Go.RowKit Go.Maps Go.ChangeMaps
open Go.Proofs.Ytochjbmighijgaa.SL Go.Proofs.Ytochjbmighijgaa.RW
open Go.Proofs.Ytochjbmighijgaa.LN (tkY tkN pu OI IS RdP)
set_option maxRecDepth 100000
set_option linter.unusedVariables false
set_option linter.unusedSimpArgs false

open Go.Proofs.Ytochjbmighijgaa.LN (joinS leaveS isLate goneS stayS)
def StepP (B : Nat) (w : World) (a N : Nat) (C : Cf) (R : Raw) (e : Ending) (w' : World) : Prop := ∃ R' r, e = .returned r ∧ PL B w' a (N + 3) C R' ∧ Inv C R' [] ∧ R'.last ≤ R.last + 1 ∧ Fr B w w'
section
variable {B : Nat} {w w' : World} {a N : Nat} {C : Cf} {R R1 : Raw}
theorem PL.cf (h : PL B w a N C R) : 1 ≤ C.lim ∧ C.lim ≤ 1000 ∧ 1 ≤ C.most ∧ C.most ≤ 1000 ∧ C.wait ≤ 549755813888 ∧ C.idl ≤ 549755813888 := by obtain ⟨M, h⟩ := h; exact h.cf
theorem PL.line_le (h : PL B w a N C R) {g : Nat} {q : Row} (hq : R.rows g = some q) : q.line.length ≤ 1000 := by
  have hc := h.cf
  obtain ⟨M, h⟩ := h
  have := (h.row g q hq).ln.le
  omega
/-- what holds of a group that is there -/
theorem Inv.group (h : Inv C R []) (hlim : C.lim ≤ 1000) (hla : R.last ≤ 1000000) {g : Nat} {q : Row} (hl : Live R g) (hq : R.rows g = some q) : q.idle.length ≤ 1000 ∧ q.conns ≤ 1000 ∧ upE q.idle ∧ (∀ r ∈ q.idle, I9 r.2) ∧ ∀ p ∈ q.line, I9 p.1 := by
  have h1 := idle_le h hl hq
  have h2 := (h.b g q hl hq).1
  rw [dn_nil'] at h2
  refine ⟨by omega, by omega, h.u g q hl hq, fun r hr => ?_, fun p hp => ?_⟩
  · have h3 := h.n0 r.2 g (-1) r.1 (h.i g q hl hq r.1 r.2 hr).1
    exact ⟨by omega, by omega⟩
  · exact (h.s0 p.1 g 0 false (h.w g q hl hq p.1 (List.mem_map_of_mem hp))).2.1
theorem Inv.live (h : Inv C R []) {k : ByteArray} {g : Nat} (hg : R.gm k = some g) : ∃ q, R.rows g = some q ∧ q.name = k ∧ Live R g := by
  obtain ⟨q, hq, hn⟩ := h.gm k g hg
  exact ⟨q, hq, hn, q, hq, by rw [hn]; exact hg⟩
theorem join_line {most : Nat} {l : List (Int × Int)} {id t : Int} : ((joinS most l id t).2 = 0 → (joinS most l id t).1 = l ++ [(id, t)]) ∧ ((joinS most l id t).2 ≠ 0 → (joinS most l id t).1 = l) := by
  unfold joinS
  split
  · exact ⟨fun h => (by cases h), fun _ => rfl⟩
  · split
    · exact ⟨fun h => (by cases h), fun _ => rfl⟩
    · split
      · exact ⟨fun h => (by cases h), fun _ => rfl⟩
      · exact ⟨fun _ => rfl, fun h => absurd rfl h⟩
theorem rows_same {g : Nat} {q : Row} (hq : R.rows g = some q) : upd R.rows g (some q) = R.rows := by
  funext x
  unfold upd
  split
  · rename_i e; rw [e, hq]
  · rfl
theorem AskS.inv {k : ByteArray} {c now : Int} {R' : Raw} {r : Value} (h : Inv C R []) (hc : R.sm c = none) (hc0 : 0 ≤ c) (hci : I9 c) (ha : AskS C R k c now R' r) : Inv C R' [] ∧ R'.last ≤ R.last + 1 := by
  have fnd : ∀ {g R1 q}, FindS R k g R1 → R1.rows g = some q → Inv C R1 [] ∧ Live R1 g ∧ R1.sm c = none ∧ R1.last = R.last := fun {g R1 q} hf hq => by
    obtain ⟨h1, h2, q2, hq2, hn2⟩ := h.find hf
    exact ⟨h1, ⟨q2, hq2, by rw [hn2]; exact h2⟩, by rw [hf.last.2.1]; exact hc, hf.last.1⟩
  cases ha with
  | wake hf hq hi =>
    obtain ⟨h1, h2, h3, h4⟩ := fnd hf hq
    exact ⟨h1.wake h2 hq hi h3 hc0 hci rfl rfl rfl rfl rfl, by show _ ≤ _; rw [← h4]; exact Nat.le_succ _⟩
  | open_ hf hq hi hlt =>
    obtain ⟨h1, h2, h3, h4⟩ := fnd hf hq
    exact ⟨h1.open_ h2 hq hi h3 hc0 hci hlt rfl rfl rfl rfl rfl rfl, by show _ + 1 ≤ _; rw [← h4]; exact Nat.le_refl _⟩
  | wait hf hq hi hge hj =>
    obtain ⟨h1, h2, h3, h4⟩ := fnd hf hq
    refine ⟨?_, by show _ ≤ _; rw [← h4]; exact Nat.le_succ _⟩
    rw [join_line.1 hj]
    exact h1.wait h2 hq hi h3 hc0 hci hge rfl rfl rfl rfl rfl
  | full hf hq hi hge hj he =>
    obtain ⟨h1, h2, h3, h4⟩ := fnd hf hq
    refine ⟨?_, by show _ ≤ _; rw [← h4]; exact Nat.le_succ _⟩
    rw [join_line.2 (by rw [hj]; exact he)]
    rw [show ({ last := _, gm := _, sm := _, nm := _, rows := upd _ _ _ } : Raw) = _ from congrArg (fun rows => ({ last := _, gm := _, sm := _, nm := _, rows := rows } : Raw)) (rows_same hq)]
    exact h1
/-- what Ask wants to know of the group -/
theorem Inv.askrow (h : Inv C R []) (hlim : C.lim ≤ 1000) (hla : R.last ≤ 1000000) (k : ByteArray) : ∀ g R1, FindS R k g R1 → ∃ q, R1.rows g = some q ∧ q.idle.length ≤ 100000 ∧ q.conns ≤ 100000 ∧ ∀ r ∈ q.idle, I9 r.2 := by
  intro g R1 hf
  obtain ⟨h1, h2, q, hq, hn⟩ := h.find hf
  have hg := h1.group hlim (by rw [hf.last.1]; exact hla) ⟨q, hq, by rw [hn]; exact h2⟩ hq
  exact ⟨q, hq, by omega, by omega, hg.2.2.2.1⟩
theorem step_ask (h : PL B w a N C R) (hi : Inv C R []) (hN : N ≤ 900000) (hla : R.last ≤ 900000) (k : ByteArray) (hk : k.size ≤ 281474976710656) (c now : Int) (hc : I9 c) :
    Calls Try.prog 8 #[ptr a, .string k, nV c, nV now] w (StepP B w a N C R) := by
  by_cases hb : c < 0 ∨ now < 0 ∨ 549755813888 < now
  · refine (ask_bad h k c now hb).mono ?_
    rintro e w' ⟨rfl, hb⟩
    exact ⟨R, _, rfl, (h.below hb).mono (by omega), hi, by omega, h.fr hb⟩
  · have h0 : 0 ≤ c := by omega
    have h1 : 0 ≤ now ∧ now ≤ 549755813888 := by omega
    cases hs : R.sm c with
    | some s =>
      refine (ask_state h k c now hc h0 h1 hs).mono ?_
      rintro e w' ⟨rfl, hb⟩
      exact ⟨R, _, rfl, (h.below hb).mono (by omega), hi, by omega, h.fr hb⟩
    | none =>
      refine (ask_go h hN (by omega) k hk c now hc h0 h1 hs (hi.askrow h.cf.2.1 (by omega) k)).mono ?_
      rintro e w' ⟨R', r, rfl, hp, hf, ha⟩
      obtain ⟨h2, h3⟩ := ha.inv hi hs h0 hc
      exact ⟨R', r, rfl, hp, h2, h3, hf⟩
theorem GiveS.inv {c now n : Int} {g : Nat} {q : Row} {R' : Raw} {r : Value} (h : Inv C R []) (hl : Live R g) (hq : R.rows g = some q) (hs : R.sm c = some (g, n, false)) (hn : n ≠ 0) (ha : GiveS R c now g n q R' r) : Inv C R' [] ∧ R'.last = R.last := by
  cases ha with
  | next hl0 => exact ⟨h.next hl hq hs hn hl0 rfl rfl rfl rfl rfl, rfl⟩
  | idle hl0 => exact ⟨h.idle hl hq hs hn hl0 rfl rfl rfl rfl rfl, rfl⟩
theorem step_give (h : PL B w a N C R) (hi : Inv C R []) (hN : N ≤ 900000) (hla : R.last ≤ 900000) (c now : Int) (hc : I9 c) :
    Calls Try.prog 9 #[ptr a, nV c, nV now] w (StepP B w a N C R) := by
  cases hs : R.sm c with
  | none =>
    refine (give_none h c now hc hs).mono ?_
    rintro e w' ⟨rfl, hb⟩
    exact ⟨R, _, rfl, (h.below hb).mono (by omega), hi, by omega, h.fr hb⟩
  | some s =>
    obtain ⟨g, n, p⟩ := s
    by_cases hn : n = 0 ∨ p = true
    · refine (give_no h c now hc hs hn).mono ?_
      rintro e w' ⟨rfl, hb⟩
      exact ⟨R, _, rfl, (h.below hb).mono (by omega), hi, by omega, h.fr hb⟩
    · have hn0 : n ≠ 0 := fun e => hn (.inl e)
      have hp : p = false := by cases p <;> simp_all
      subst hp
      have hl := (hi.s0 c g n false hs).2.2
      obtain ⟨q, hq, _⟩ := id hl
      have hg := hi.group h.cf.2.1 (by omega) hl hq
      have hni := hi.n0 n g c 0 (hi.s2 c g n false hs hn0).2
      refine (give_go h hN c now hc hs hn0 ⟨by omega, by omega⟩ hq hg.2.2.1 (by omega) hg.2.2.2.2).mono ?_
      rintro e w' ⟨R', r, rfl, hp, hf, ha⟩
      obtain ⟨h2, h3⟩ := ha.inv hi hl hq hs hn0
      exact ⟨R', r, rfl, hp, h2, by omega, hf⟩
theorem LostS.inv {n c s : Int} {g : Nat} {q : Row} {R' : Raw} {x y : Int} {z b : Bool} (h : Inv C R []) (hlim : 1 ≤ C.lim) (hl : Live R g) (hq : R.rows g = some q) (hs : R.nm n = some (g, c, s)) (ha : LostS R n g c s q R' x y z b) : Inv C R' [] ∧ R'.last ≤ R.last + 1 := by
  cases ha with
  | none_ hl0 =>
    refine ⟨?_, Nat.le_succ _⟩
    by_cases hc : c = -1
    · subst hc
      have hgq : goQ q (-1) s n = outQ q s n := if_pos rfl
      have h1 := h.lostI (R' := lostR R g (-1) (goQ q (-1) s n) []) hl hq hs hl0 rfl (by rw [hgq]; rfl) rfl rfl rfl
      exact h1.end_ (by simp) hs hlim (upd_at _ _ _)
    · have hgq : goQ q c s n = q := if_neg hc
      have h1 := h.lostH (R' := lostR R g c (goQ q c s n) []) hl hq hs hc hl0 rfl (by rw [hgq]; rfl) rfl rfl rfl
      exact h1.end_ (by simp) hs hlim (upd_at _ _ _)
  | next hl0 =>
    refine ⟨?_, Nat.le_refl _⟩
    rename_i t l
    have hcl := (h.b g q hl hq).2 (by rw [hl0]; simp)
    have hc : c ≠ -1 := fun e => by
      subst e
      have := h.n1 n g s hs (by simp) q hq
      rw [hcl.1] at this; cases this
    have hgq : goQ q c s n = q := if_neg hc
    rw [hgq]
    have hn := h.n0 n g c s hs
    have h1 := h.lostN (R' := openR (lostR R g c q l) g { q with line := l } x) (L := ((R.last + 1 : Nat) : Int)) hl hq hs hc hl0 rfl rfl (by
      show upd (upd R.rows g _) g _ = _
      rw [upd_upd]) rfl rfl rfl
    refine h1.end_ (c := c) (s := s) (by simp) ?_ hlim (upd_at _ _ _)
    · show upd R.nm ((R.last + 1 : Nat) : Int) _ n = _
      rw [upd_ne _ _ (by omega)]
      exact hs
/-- what is lost, as a whole -/
theorem lost_all (h : PL B w a N C R) (hi : Inv C R []) (hN : N ≤ 900000) (hla : R.last ≤ 900000) (n now : Int) {g : Nat} {c s : Int} (hs : R.nm n = some (g, c, s)) {q : Row} (hq : R.rows g = some q) :
    Calls Try.prog 11 #[ptr a, nV n, nV now] w (LostP B w a N C R n g c s q) := by
  obtain ⟨n1, n2, hl⟩ := hi.n0 n g c s hs
  have hg := hi.group h.cf.2.1 (by omega) hl hq
  have hni : I9 n := ⟨by omega, by omega⟩
  have hcn : 1 ≤ q.conns ∧ q.conns ≤ 100000 := by
    obtain ⟨A, a1, a2, a3⟩ := hi.cn g q hl hq
    have : 1 ≤ q.conns := by rw [← a2]; exact List.length_pos_of_mem ((a3 n).2 ⟨c, s, hs⟩)
    omega
  by_cases hc : c = -1
  · subst hc
    have hm := hi.n1 n g s hs (by simp) q hq
    have hl0 : q.line = [] := by
      by_cases e : q.line = []
      · exact e
      · have := ((hi.b g q hl hq).2 e).1
        rw [this] at hm; cases hm
    exact lost_idle_nil h hN (by omega) n now hni hs hq (by omega) hcn hg.2.2.1 (at_low hg.2.2.1 hm) hl0
  · obtain ⟨_, p, hsc⟩ := hi.n2 n g c s hs (by simp) hc
    have hci := (hi.s0 c g n p hsc).2.1
    cases hline : q.line with
    | nil => exact lost_held_nil h hN (by omega) n now hni hci hc hs hq (by omega) hcn hline
    | cons xt l =>
      obtain ⟨x, t⟩ := xt
      exact lost_held_cons h hN (by omega) n now hni hci hc hs hq (by omega) hcn hline (hg.2.2.2.2 (x, t) (by rw [hline]; simp)) n2
theorem step_lost (h : PL B w a N C R) (hi : Inv C R []) (hN : N ≤ 900000) (hla : R.last ≤ 900000) (n now : Int) (hn : I9 n) :
    Calls Try.prog 11 #[ptr a, nV n, nV now] w (StepP B w a N C R) := by
  cases hs : R.nm n with
  | none =>
    refine (lost_none h n now hn hs).mono ?_
    rintro e w' ⟨rfl, hb⟩
    exact ⟨R, _, rfl, (h.below hb).mono (by omega), hi, by omega, h.fr hb⟩
  | some p =>
    obtain ⟨g, c, s⟩ := p
    have hl := (hi.n0 n g c s hs).2.2
    obtain ⟨q, hq, _⟩ := id hl
    refine (lost_all h hi hN hla n now hs hq).mono ?_
    rintro e w' ⟨R', x, y, z, b, rfl, hp, hf, hls⟩
    obtain ⟨h2, h3⟩ := hls.inv hi h.cf.1 hl hq hs
    exact ⟨R', _, rfl, hp, h2, h3, hf⟩
theorem step_leave (h : PL B w a N C R) (hi : Inv C R []) (hN : N ≤ 900000) (hla : R.last ≤ 900000) (c now : Int) (hc : I9 c) :
    Calls Try.prog 12 #[ptr a, nV c, nV now] w (StepP B w a N C R) := by
  cases hs : R.sm c with
  | none =>
    refine (leave_none h c now hc hs).mono ?_
    rintro e w' ⟨rfl, hb⟩
    exact ⟨R, _, rfl, (h.below hb).mono (by omega), hi, by omega, h.fr hb⟩
  | some s =>
    obtain ⟨g, n, p⟩ := s
    have hl := (hi.s0 c g n p hs).2.2
    obtain ⟨q, hq, _⟩ := id hl
    by_cases hn : n = 0
    · subst hn
      have hp := (hi.s1 c g p hs).1
      subst hp
      refine (leave_wait h c now hc hs hq).mono ?_
      rintro e w' ⟨rfl, hp, hf⟩
      exact ⟨_, _, rfl, hp.mono (by omega), hi.leaveW hl hq hs rfl rfl rfl rfl rfl, Nat.le_succ _, hf⟩
    · have hnm := (hi.s2 c g n p hs hn).2
      refine (leave_held h c now hc hs hn (fun W hW => lost_all hW hi hN hla n now hnm hq)).mono ?_
      rintro e w' ⟨R', x, y, z, b, rfl, hp, hf, hls⟩
      obtain ⟨h2, h3⟩ := hls.inv hi h.cf.1 hl hq hnm
      exact ⟨R', _, rfl, hp, h2, h3, hf⟩
theorem step_pin (h : PL B w a N C R) (hi : Inv C R []) (hN : N ≤ 900000) (c : Int) (hc : I9 c) :
    Calls Try.prog 10 #[ptr a, nV c] w (StepP B w a N C R) := by
  by_cases hs : R.sm c = none ∨ ∃ g p, R.sm c = some (g, 0, p)
  · refine (pin_no h c hc hs).mono ?_
    rintro e w' ⟨rfl, hb⟩
    exact ⟨R, _, rfl, (h.below hb).mono (by omega), hi, by omega, h.fr hb⟩
  · cases hs2 : R.sm c with
    | none => exact absurd (.inl hs2) hs
    | some s =>
      obtain ⟨g, n, p⟩ := s
      have hn : n ≠ 0 := fun e => hs (.inr ⟨g, p, by rw [hs2, e]⟩)
      refine (pin_yes h (by omega) c hc hs2 hn).mono ?_
      rintro e w' ⟨rfl, hp, hf⟩
      exact ⟨_, _, rfl, hp.mono (by omega), hi.pin hs2 hn, Nat.le_succ _, hf⟩
theorem step_late (h : PL B w a N C R) (hi : Inv C R []) (hN : N ≤ 900000) (hla : R.last ≤ 900000) (now : Int) :
    Calls Try.prog 13 #[ptr a, nV now] w (StepP B w a N C R) := by
  refine (late_any h (by omega) now fun k g hk => ?_).mono ?_
  · obtain ⟨q, hq, hn, hl⟩ := hi.live hk
    have hg := hi.group h.cf.2.1 (by omega) hl hq
    have := h.line_le hq
    exact ⟨q, hq, hn, by omega, by omega, hg.2.2.2.2⟩
  · rintro e w' ⟨v, d, ks, rfl, hoi, hp, hf, h1, h2, h3⟩
    subst h3
    exact ⟨_, _, rfl, hp.mono (by omega), hi.late now h2 rfl rfl rfl rfl rfl, Nat.le_succ _, hf⟩
theorem reap_ends (hi : Inv C R []) (hc : 1 ≤ C.lim ∧ C.lim ≤ 1000) (hla : R.last ≤ 90000) (T : Int) (ks : List ByteArray) (l : List Int) (hkn : ks.Nodup) (hk : ∀ k, k ∈ ks ↔ (gonR R (reapO T) (fun _ => false) k).isSome = true) (hp : l.Perm (ks.flatMap fun k => (gonR R (reapO T) (fun _ => false) k).getD [])) :
    ∃ R', Ends { R with rows := actR R (reapA T) fun _ => false } l R' ∧ Inv C R' [] ∧ R'.last = R.last := by
  obtain ⟨h1, h2⟩ := hi.reap T hkn hk hp (R' := { R with rows := actR R (reapA T) fun _ => false }) rfl rfl rfl rfl rfl
  have hlen : l.length ≤ 100000 := by
    have := nodup_le l ((List.range (R.last + 1)).map fun (i : Nat) => (i : Int)) h2 fun x hx => by
      obtain ⟨g, c, s, hs⟩ := h1.d x hx
      obtain ⟨b1, b2, _⟩ := h1.n0 x g c s hs
      have b2 : x ≤ (R.last : Int) := b2
      exact List.mem_map.2 ⟨x.toNat, List.mem_range.2 (by omega), by omega⟩
    rw [List.length_map, List.length_range] at this
    omega
  exact ends_all hc l _ h1 h2 hlen (by show R.last ≤ 1000000; omega)
theorem Ends.det {R : Raw} {l : List Int} {R1 R2 : Raw} (h : Ends R l R1) (k : Ends R l R2) : R1 = R2 := by
  induction h with
  | nil R => cases k; rfl
  | cons h1 h2 h3 h4 h ih =>
    cases k with
    | cons k1 k2 k3 k4 k =>
      rw [h1] at k1
      injection k1 with k1
      injection k1 with k1
      subst k1
      rw [h2] at k2
      injection k2 with k2
      subst k2
      exact ih k
theorem step_reap (h : PL B w a N C R) (hi : Inv C R []) (hN : N ≤ 900000) (hla : R.last ≤ 90000) (now : Int) (hn : I9 now) :
    Calls Try.prog 14 #[ptr a, nV now] w (StepP B w a N C R) := by
  by_cases hT : now < -9223372036854775808 + (C.idl : Int)
  · refine (preap_early h now hT).mono ?_
    rintro e w' ⟨rfl, hb⟩
    exact ⟨R, _, rfl, (h.below hb).mono (by omega), hi, by omega, h.fr hb⟩
  · refine (preap_any h (by omega) now _ hT rfl (fun k g hk => ?_) (fun ks l h1 h2 h3 => ?_)).mono ?_
    · obtain ⟨q, hq, hqn, hl⟩ := hi.live hk
      have hg := hi.group h.cf.2.1 (by omega) hl hq
      exact ⟨q, hq, hqn, by omega⟩
    · obtain ⟨R', e1, _⟩ := reap_ends hi ⟨h.cf.1, h.cf.2.1⟩ hla _ ks l h1 h2 h3
      exact ⟨R', e1⟩
    · rintro e w' ⟨v, l, ks, R', rfl, hoi, hp, hf, he, h1, h2, h3⟩
      obtain ⟨R2, e1, e2, e3⟩ := reap_ends hi ⟨h.cf.1, h.cf.2.1⟩ hla _ ks l h1 h2 (by rw [h3]; exact List.mergeSort_perm ..)
      have := he.det e1
      subst this
      exact ⟨_, _, rfl, hp.mono (by omega), e2, by omega, hf⟩
end
end Go.Proofs.Ytochjbmighijgaa.PO
