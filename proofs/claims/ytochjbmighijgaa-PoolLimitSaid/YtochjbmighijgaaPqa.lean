/- Package pool in a law: a pool with one group: what each call leaves. Conditions: how many calls there were. -/
import Derived.Test.YtochjbmighijgaaPoy
namespace Go.Proofs.Ytochjbmighijgaa.PO
open Go.ChangeShapes Go.WideShapes Go.ChangeAt Go.RowKit Go.Maps Go.ChangeMaps
open Go.Proofs.Ytochjbmighijgaa.SL Go.Proofs.Ytochjbmighijgaa.RW
open Go.Proofs.Ytochjbmighijgaa.LN (tkY tkN pu OI IS RdP)
set_option maxRecDepth 100000
set_option linter.unusedVariables false
set_option linter.unusedSimpArgs false

open Go.Proofs.Ytochjbmighijgaa.LN (joinS leaveS isLate goneS stayS placeS idx oI)
/-- a pool whose groups are one -/
structure Sg (B : Nat) (w : World) (a N : Nat) (C : Cf) (R : Raw) (k : ByteArray) (g : Nat) (q : Row) (L : Nat) : Prop where
  pl : PL B w a N C R
  iv : Inv C R []
  gm : R.gm k = some g
  ro : R.rows g = some q
  na : q.name = k
  on : ∀ k', k' ≠ k → R.gm k' = none
  la : R.last = L
/-- a pool without groups -/
structure Sn (B : Nat) (w : World) (a N : Nat) (C : Cf) (R : Raw) (L : Nat) : Prop where
  pl : PL B w a N C R
  iv : Inv C R []
  on : ∀ k', R.gm k' = none
  la : R.last = L
def SgP (B : Nat) (w : World) (a N : Nat) (C : Cf) (k : ByteArray) (g : Nat) (q : Row) (L : Nat) (sm : Int → Option (Nat × Int × Bool)) (r : Value) (e : Ending) (w' : World) : Prop :=
  ∃ R', e = .returned r ∧ Sg B w' a N C R' k g q L ∧ R'.sm = sm ∧ Fr B w w'
section
variable {B : Nat} {w w' : World} {a N : Nat} {C : Cf} {R : Raw} {k : ByteArray} {g : Nat} {q : Row} {L : Nat}
theorem Sg.live (h : Sg B w a N C R k g q L) : Live R g := ⟨q, h.ro, by rw [h.na]; exact h.gm⟩
theorem Sg.below (h : Sg B w a N C R k g q L) (hb : Below w.heap.size w w') : Sg B w' a N C R k g q L := ⟨h.pl.below hb, h.iv, h.gm, h.ro, h.na, h.on, h.la⟩
theorem Sn.below (h : Sn B w a N C R L) (hb : Below w.heap.size w w') : Sn B w' a N C R L := ⟨h.pl.below hb, h.iv, h.on, h.la⟩
theorem Sn.start (h : PL B w a N C R0) : Sn B w a N C R0 0 := ⟨h, Inv.zero C, fun _ => rfl, rfl⟩
theorem sg_open (h : Sn B w a N C R L) (hN : N ≤ 900000) (hL : L ≤ 900000) (k : ByteArray) (hk : k.size ≤ 281474976710656) (c now : Int) (h0 : 0 ≤ c) (hc : I9 c) (h1 : 0 ≤ now ∧ now ≤ 549755813888) (hs : R.sm c = none) :
    Calls Try.prog 8 #[ptr a, .string k, nV c, nV now] w fun e w' => ∃ g, SgP B w a (N + 3) C k g ⟨k, 1, [], []⟩ (L + 1) (upd R.sm c (some (g, ((L + 1 : Nat) : Int), false))) (.tuple #[loV c ((L + 1 : Nat) : Int) true, .bool true, nV 0]) e w' := by
  have hla := h.la
  have hcf := h.pl.cf
  refine (ask_go h.pl hN (by omega) k hk c now hc h0 h1 hs (h.iv.askrow h.pl.cf.2.1 (by omega) k)).mono ?_
  rintro e w' ⟨R', r, rfl, hp, hf, ha⟩
  obtain ⟨h2, h3⟩ := ha.inv h.iv hs h0 hc
  have fnd : ∀ {g R1 q}, FindS R k g R1 → R1.rows g = some q → R1 = findR R k g ∧ q = ⟨k, 0, [], []⟩ := by
    rintro g R1 q (⟨e, _⟩ | ⟨_, _, rfl⟩) hq
    · rw [h.on] at e; cases e
    · refine ⟨rfl, ?_⟩
      have hq : upd R.rows g (some ⟨k, 0, [], []⟩) g = some q := hq
      rw [upd_at] at hq
      exact (Option.some.inj hq).symm
  cases ha with
  | wake hf1 hq hi => obtain ⟨rfl, rfl⟩ := fnd hf1 hq; simp at hi
  | @open_ g R1 q hf1 hq hi hlt =>
    obtain ⟨rfl, rfl⟩ := fnd hf1 hq
    refine ⟨g, _, by rw [hla], ⟨hp, h2, upd_at _ _ _, upd_at _ _ _, rfl, fun k' hk' => ?_, by show R.last + 1 = _; rw [hla]⟩, by show upd R.sm c (some (g, ((R.last + 1 : Nat) : Int), false)) = _; rw [hla], hf⟩
    show upd R.gm k (some g) k' = none
    rw [upd_ne _ _ hk']; exact h.on k'
  | wait hf1 hq hi hge hj => obtain ⟨rfl, rfl⟩ := fnd hf1 hq; have hge : C.lim ≤ 0 := hge; omega
  | full hf1 hq hi hge hj he => obtain ⟨rfl, rfl⟩ := fnd hf1 hq; have hge : C.lim ≤ 0 := hge; omega
theorem join_ok {most : Nat} {l : List (Int × Int)} {id till : Int} (h1 : 0 ≤ till ∧ till ≤ 1099511627776) (h2 : id ∉ l.map (·.1)) (h3 : l.length < most) : joinS most l id till = (l ++ [(id, till)], 0) := by
  unfold joinS
  rw [if_neg (by omega)]
  have : placeS l id = -1 := by
    unfold placeS idx
    rw [List.findIdx?_eq_none_iff.2 (fun p hp => by
      have : p.1 ≠ id := fun e => h2 (List.mem_map.2 ⟨p, hp, e⟩)
      simpa using this)]
    rfl
  rw [if_neg (by omega), if_neg (by omega)]
theorem sg_wait (h : Sg B w a N C R k g q L) (hN : N ≤ 900000) (hL : L ≤ 900000) (hk : k.size ≤ 281474976710656) (c now : Int) (h0 : 0 ≤ c) (hc : I9 c) (h1 : 0 ≤ now ∧ now ≤ 549755813888) (hs : R.sm c = none) (hi : q.idle = []) (hge : C.lim ≤ q.conns) (hlen : q.line.length < C.most) :
    Calls Try.prog 8 #[ptr a, .string k, nV c, nV now] w (SgP B w a (N + 3) C k g { q with line := q.line ++ [(c, now + (C.wait : Int))] } L (upd R.sm c (some (g, 0, false))) (.tuple #[loV 0 0 false, .bool false, nV 0])) := by
  have hla := h.la
  have hcf := h.pl.cf
  have hj : joinS C.most q.line c (now + (C.wait : Int)) = (q.line ++ [(c, now + (C.wait : Int))], 0) := join_ok (by omega) (fun hm => by
    have := h.iv.w g q h.live h.ro c hm
    rw [hs] at this; cases this) hlen
  refine (ask_go h.pl hN (by omega) k hk c now hc h0 h1 hs (h.iv.askrow h.pl.cf.2.1 (by omega) k)).mono ?_
  rintro e w' ⟨R', r, rfl, hp, hf, ha⟩
  obtain ⟨h2, h3⟩ := ha.inv h.iv hs h0 hc
  have fnd : ∀ {g1 R1 q1}, FindS R k g1 R1 → R1.rows g1 = some q1 → g1 = g ∧ R1 = R ∧ q1 = q := by
    rintro g1 R1 q1 (⟨e, rfl⟩ | ⟨e, _, rfl⟩) hq
    · rw [h.gm] at e
      have e := Option.some.inj e
      subst e
      rw [h.ro] at hq
      exact ⟨rfl, rfl, (Option.some.inj hq).symm⟩
    · rw [h.gm] at e; cases e
  cases ha with
  | wake hf1 hq hi1 => obtain ⟨rfl, rfl, rfl⟩ := fnd hf1 hq; rw [hi] at hi1; simp at hi1
  | open_ hf1 hq hi1 hlt => obtain ⟨rfl, rfl, rfl⟩ := fnd hf1 hq; omega
  | wait hf1 hq hi1 hge1 hj1 =>
    obtain ⟨rfl, rfl, rfl⟩ := fnd hf1 hq
    refine ⟨_, rfl, ⟨hp, h2, h.gm, ?_, h.na, h.on, h.la⟩, rfl, hf⟩
    show upd _ _ _ _ = _
    rw [upd_at, hj]
  | full hf1 hq hi1 hge1 hj1 he =>
    obtain ⟨rfl, rfl, rfl⟩ := fnd hf1 hq
    rw [hj] at hj1
    exact absurd hj1.symm he
theorem sg_next (h : Sg B w a N C R k g q L) (hN : N ≤ 900000) (hL : L ≤ 900000) (c now : Int) (hc : I9 c) {n : Int} (hs : R.sm c = some (g, n, false)) (hn : n ≠ 0) {x t : Int} {l : List (Int × Int)} (hl : q.line = (x, t) :: l) :
    Calls Try.prog 9 #[ptr a, nV c, nV now] w (SgP B w a (N + 3) C k g { q with line := l } L (upd (upd R.sm c none) x (some (g, n, false))) (.tuple #[loV x n false, .bool true])) := by
  have hla := h.la
  have hg := h.iv.group h.pl.cf.2.1 (by omega) h.live h.ro
  have hni := h.iv.n0 n g c 0 (h.iv.s2 c g n false hs hn).2
  refine (give_go h.pl hN c now hc hs hn ⟨by omega, by omega⟩ h.ro hg.2.2.1 (by omega) hg.2.2.2.2).mono ?_
  rintro e w' ⟨R', r, rfl, hp, hf, ha⟩
  obtain ⟨h2, h3⟩ := ha.inv h.iv h.live h.ro hs hn
  cases ha with
  | @next x1 t1 l1 hl1 =>
    rw [hl] at hl1
    obtain ⟨e1, e2⟩ := List.cons.inj hl1
    obtain ⟨e3, e4⟩ := Prod.mk.inj e1
    subst e2; subst e3; subst e4
    exact ⟨_, rfl, ⟨hp, h2, h.gm, upd_at _ _ _, h.na, h.on, h.la⟩, rfl, hf⟩
  | idle hl1 => rw [hl] at hl1; cases hl1
theorem sg_idle (h : Sg B w a N C R k g q L) (hN : N ≤ 900000) (hL : L ≤ 900000) (c now : Int) (hc : I9 c) {n : Int} (hs : R.sm c = some (g, n, false)) (hn : n ≠ 0) (hl : q.line = []) :
    Calls Try.prog 9 #[ptr a, nV c, nV now] w (SgP B w a (N + 3) C k g { q with idle := insE (now, n) q.idle } L (upd R.sm c none) (.tuple #[loV 0 0 false, .bool false])) := by
  have hla := h.la
  have hg := h.iv.group h.pl.cf.2.1 (by omega) h.live h.ro
  have hni := h.iv.n0 n g c 0 (h.iv.s2 c g n false hs hn).2
  refine (give_go h.pl hN c now hc hs hn ⟨by omega, by omega⟩ h.ro hg.2.2.1 (by omega) hg.2.2.2.2).mono ?_
  rintro e w' ⟨R', r, rfl, hp, hf, ha⟩
  obtain ⟨h2, h3⟩ := ha.inv h.iv h.live h.ro hs hn
  cases ha with
  | next hl1 => rw [hl] at hl1; cases hl1
  | idle hl1 => exact ⟨_, rfl, ⟨hp, h2, h.gm, upd_at _ _ _, h.na, h.on, h.la⟩, rfl, hf⟩
theorem sg_pin (h : Sg B w a N C R k g q L) (hN : N ≤ 900000) (c : Int) (hc : I9 c) {n : Int} {p : Bool} (hs : R.sm c = some (g, n, p)) (hn : n ≠ 0) :
    Calls Try.prog 10 #[ptr a, nV c] w (SgP B w a (N + 3) C k g q L (upd R.sm c (some (g, n, true))) (.bool true)) := by
  refine (pin_yes h.pl (by omega) c hc hs hn).mono ?_
  rintro e w' ⟨rfl, hp, hf⟩
  exact ⟨_, rfl, ⟨hp.mono (by omega), h.iv.pin hs hn, h.gm, h.ro, h.na, h.on, h.la⟩, rfl, hf⟩
/-- one who holds a connection leaves, somebody waits -/
theorem sg_leave (h : Sg B w a N C R k g q L) (hN : N ≤ 900000) (hL : L ≤ 900000) (c now : Int) (hc : I9 c) {n : Int} {p : Bool} (hs : R.sm c = some (g, n, p)) (hn : n ≠ 0) {x t : Int} {l : List (Int × Int)} (hl : q.line = (x, t) :: l) (hcn : 1 ≤ q.conns) :
    Calls Try.prog 12 #[ptr a, nV c, nV now] w (SgP B w a (N + 3) C k g { q with line := l } (L + 1) (upd (upd R.sm c none) x (some (g, ((L + 1 : Nat) : Int), false))) (.tuple #[nV n, loV x ((L + 1 : Nat) : Int) true, .bool true])) := by
  have hla := h.la
  have hnm := (h.iv.s2 c g n p hs hn).2
  have hc0 := (h.iv.s0 c g n p hs).1
  refine (leave_held h.pl c now hc hs hn (fun W hW => lost_all hW h.iv hN (by omega) n now hnm h.ro)).mono ?_
  rintro e w' ⟨R', x1, y1, z1, b1, rfl, hp, hf, hls⟩
  obtain ⟨h2, h3⟩ := hls.inv h.iv h.pl.cf.1 h.live h.ro hnm
  have hgq : goQ q c 0 n = q := if_neg (by omega)
  cases hls with
  | none_ hl1 => rw [hl] at hl1; cases hl1
  | next hl1 =>
    rw [hl] at hl1
    obtain ⟨e1, e2⟩ := List.cons.inj hl1
    obtain ⟨e3, e4⟩ := Prod.mk.inj e1
    subst e2; subst e3; subst e4
    have e0 : ¬ (q.conns + 1 = 1) := by omega
    refine ⟨_, by rw [hla], ⟨hp, h2, ?_, ?_, h.na, fun k' hk' => ?_, by show R.last + 1 = _; rw [hla]⟩, ?_, hf⟩
    · show (if q.conns + 1 = 1 then _ else R.gm) k = some g
      rw [if_neg e0]; exact h.gm
    · show upd _ g _ g = _
      rw [upd_at, hgq]
      rfl
    · show (if q.conns + 1 = 1 then _ else R.gm) k' = none
      rw [if_neg e0]; exact h.on k' hk'
    · show upd (upd R.sm c none) x (some (g, ((R.last + 1 : Nat) : Int), false)) = _
      rw [hla]
/-- the last one who holds a connection leaves -/
theorem sg_last (h : Sg B w a N C R k g q L) (hN : N ≤ 900000) (hL : L ≤ 900000) (c now : Int) (hc : I9 c) {n : Int} {p : Bool} (hs : R.sm c = some (g, n, p)) (hn : n ≠ 0) (hl : q.line = []) (hcn : q.conns = 1) :
    Calls Try.prog 12 #[ptr a, nV c, nV now] w fun e w' => ∃ R', e = .returned (.tuple #[nV n, loV 0 0 false, .bool false]) ∧ Sn B w' a (N + 3) C R' L ∧ R'.sm = upd R.sm c none ∧ Fr B w w' := by
  have hla := h.la
  have hnm := (h.iv.s2 c g n p hs hn).2
  have hc0 := (h.iv.s0 c g n p hs).1
  refine (leave_held h.pl c now hc hs hn (fun W hW => lost_all hW h.iv hN (by omega) n now hnm h.ro)).mono ?_
  rintro e w' ⟨R', x1, y1, z1, b1, rfl, hp, hf, hls⟩
  obtain ⟨h2, h3⟩ := hls.inv h.iv h.pl.cf.1 h.live h.ro hnm
  have hgq : goQ q c 0 n = q := if_neg (by omega)
  cases hls with
  | next hl1 => rw [hl] at hl1; cases hl1
  | none_ hl1 =>
    refine ⟨_, rfl, ⟨hp, h2, fun k' => ?_, h.la⟩, rfl, hf⟩
    show (if (goQ q c 0 n).conns = 1 then upd R.gm (goQ q c 0 n).name none else R.gm) k' = none
    rw [hgq, if_pos hcn, h.na]
    by_cases e : k' = k
    · rw [e, upd_at]
    · rw [upd_ne _ _ e]; exact h.on k' e
theorem sg_keys (h : Sg B w a N C R k g q L) (out : Row → List Int) (ho : out q ≠ []) (ks : List ByteArray) (hn : ks.Nodup) (hk : ∀ k, k ∈ ks ↔ (gonR R out (fun _ => false) k).isSome = true) : (ks.flatMap fun k => (gonR R out (fun _ => false) k).getD []) = out q := by
  have e1 : gonR R out (fun _ => false) k = some (out q) := by
    unfold gonR
    rw [h.gm]
    simp only [Option.bind_some]
    rw [h.ro]
    simp only [Option.bind_some]
    exact if_pos ⟨trivial, ho⟩
  have e2 : ∀ k', k' ≠ k → gonR R out (fun _ => false) k' = none := fun k' hk' => by
    unfold gonR
    rw [h.on k' hk']
    rfl
  have e3 : ks = [k] := by
    refine List.perm_singleton.1 ((List.perm_ext_iff_of_nodup hn (by simp)).2 fun x => ?_)
    rw [hk, List.mem_singleton]
    by_cases e : x = k
    · rw [e, e1]; simp
    · rw [e2 x e]; simp [e]
  rw [e3, List.flatMap_singleton, e1]
  rfl
theorem sg_late (h : Sg B w a N C R k g q L) (hN : N ≤ 900000) (hL : L ≤ 900000) (now : Int) (ho : lateO now q ≠ []) :
    Calls Try.prog 13 #[ptr a, nV now] w fun e w' => ∃ v, OI w.heap.size w' v (lateO now q) ∧ SgP B w a (N + 3) C k g (lateA now q) L (delS (lateO now q) R.sm) v e w' := by
  have hla := h.la
  refine (late_any h.pl (by omega) now fun k g hk => ?_).mono ?_
  · obtain ⟨q, hq, hn, hl⟩ := h.iv.live hk
    have hg := h.iv.group h.pl.cf.2.1 (by omega) hl hq
    have := h.pl.line_le hq
    exact ⟨q, hq, hn, by omega, by omega, hg.2.2.2.2⟩
  · rintro e w' ⟨v, d, ks, rfl, hoi, hp, hf, h1, h2, h3⟩
    have hd := sg_keys h (lateO now) ho ks h1 h2
    have h3' := h3
    rw [hd] at h3'
    refine ⟨v, by rw [← h3']; exact hoi, _, rfl, ⟨hp.mono (by omega), ?_, h.gm, ?_, h.na, h.on, h.la⟩, by show delS d R.sm = _; rw [h3'], hf⟩
    · subst h3
      exact h.iv.late now h2 rfl rfl rfl rfl rfl
    · show actR R (lateA now) (fun _ => false) g = _
      unfold actR
      rw [h.ro]
      simp only [Option.map_some]
      rw [if_pos ⟨by rw [h.na]; exact h.gm, trivial⟩]
theorem sg_reap (h : Sg B w a N C R k g q L) (hN : N ≤ 900000) (hL : L ≤ 90000) (now T : Int) (hT : ¬ now < -9223372036854775808 + (C.idl : Int)) (hTT : IntKind.i64.wrap (now - (C.idl : Int)) = T) (ho : reapO T q ≠ []) :
    Calls Try.prog 14 #[ptr a, nV now] w fun e w' => ∃ v, e = .returned v ∧ OI w.heap.size w' v ((reapO T q).mergeSort fun x y => decide (x ≤ y)) ∧ Fr B w w' := by
  have hla := h.la
  refine (preap_any h.pl (by omega) now T hT hTT (fun k g hk => ?_) (fun ks l h1 h2 h3 => ?_)).mono ?_
  · obtain ⟨q, hq, hqn, hl⟩ := h.iv.live hk
    have hg := h.iv.group h.pl.cf.2.1 (by omega) hl hq
    exact ⟨q, hq, hqn, by omega⟩
  · obtain ⟨R', e1, _⟩ := reap_ends h.iv ⟨h.pl.cf.1, h.pl.cf.2.1⟩ (by omega) _ ks l h1 h2 h3
    exact ⟨R', e1⟩
  · rintro e w' ⟨v, l, ks, R', rfl, hoi, hp, hf, he, h1, h2, h3⟩
    rw [sg_keys h (reapO T) ho ks h1 h2] at h3
    rw [h3] at hoi
    exact ⟨v, rfl, hoi, hf⟩
theorem sg_count (h : Sg B w a N C R k g q L) (hk : k.size ≤ 281474976710656) :
    Calls Try.prog 15 #[ptr a, .string k] w (RdP (.tuple #[nV (q.conns : Int), nV (q.idle.length : Int), nV (q.line.length : Int)]) w) := count_some h.pl k hk h.gm h.ro
end
end Go.Proofs.Ytochjbmighijgaa.PO
