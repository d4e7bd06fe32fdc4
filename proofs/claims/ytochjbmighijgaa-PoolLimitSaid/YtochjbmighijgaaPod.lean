/- Package pool, what a pool is in memory: rows of groups, each with its idle ones and its line; three maps; what a step turns. No program is walked here; no condition. -/
import Derived.Test.YtochjbmighijgaaPoc
import Derived.Test.YtochjbmighijgaaPlh
import Derived.Test.YtochjbmighijgaaMpv
import Derived.Maps.Keyed
import Derived.DeepKeys4
import Derived.Lib.SlKeysI
namespace Go.Proofs.Ytochjbmighijgaa.PO
open Go.ChangeShapes Go.WideShapes Go.ChangeAt Go.RowKit Go.Maps Go.ChangeMaps
open Go.Proofs.Ytochjbmighijgaa.SL Go.Proofs.Ytochjbmighijgaa.RW
open Classical
set_option maxRecDepth 100000
set_option linter.unusedVariables false
set_option linter.unusedSimpArgs false

abbrev nV (n : Int) : Value := .int .i64 n
abbrev Wt := Int × Int
/-- a group: its name, how many connections, the idle ones, those who wait -/
structure Row where
  name : ByteArray
  conns : Nat
  idle : List Rs
  line : List Wt
/-- a pool's plain words: the last number; groups by their names; seats by clients (group, connection, is it pinned); links by connections (group, client, since when); the groups -/
structure Raw where
  last : Nat
  gm : ByteArray → Option Nat
  sm : Int → Option (Nat × Int × Bool)
  nm : Int → Option (Nat × Int × Int)
  rows : Nat → Option Row
/-- where a group's parts lie -/
structure Mem where
  iv : Value
  lb : Nat
  lv : Value
/-- what a pool was made of, and where its parts lie -/
structure Cf where
  lim : Nat
  most : Nat
  wait : Nat
  idl : Nat
  gb : Nat
  sb : Nat
  nb : Nat
  pb : Nat
def Mem.own (m : Mem) (g b : Nat) : Prop := b = g ∨ m.iv.ownBlock = some b ∨ b = m.lb ∨ m.lv.ownBlock = some b
def upd {α β : Type} [DecidableEq α] (f : α → β) (a : α) (b : β) : α → β := fun x => if x = a then b else f x
theorem upd_at {α β : Type} [DecidableEq α] (f : α → β) (a : α) (b : β) : upd f a b a = b := if_pos rfl
theorem upd_ne {α β : Type} [DecidableEq α] (f : α → β) {a x : α} (b : β) (h : x ≠ a) : upd f a b x = f x := if_neg h
abbrev seV (s : Nat × Int × Bool) : Value := .agg #[ptr s.1, nV s.2.1, .bool s.2.2]
abbrev lkV (s : Nat × Int × Int) : Value := .agg #[ptr s.1, nV s.2.1, nV s.2.2]
structure RowP (B : Nat) (w : World) (mo g : Nat) (q : Row) (m : Mem) : Prop where
  bk : Bk w g 65 #[.string q.name, nV (q.conns : Int), m.iv, ptr m.lb]
  iq : EQ B w m.iv q.idle
  ln : LN.LC B w m.lb mo m.lv q.line
  ge : B ≤ g
  nm : q.name.size ≤ 281474976710656
/-- the types of a group's parts -/
def Gt (t : TypeId) : Prop := t = 65 ∨ t = 76 ∨ t = 94 ∨ t = 96
section
variable {B : Nat} {w w' : World} {mo g : Nat} {q : Row} {m : Mem}
theorem RowP.lt (h : RowP B w mo g q m) {b : Nat} (hb : m.own g b) : B ≤ b ∧ b < w.heap.size := by
  rcases hb with rfl | hb | rfl | hb
  · exact ⟨h.ge, h.bk.lt⟩
  · exact h.iq.lt b hb
  · exact ⟨h.ln.ab, h.ln.bk.lt⟩
  · exact h.ln.ws.lt b hb
theorem RowP.ty (h : RowP B w mo g q m) {b : Nat} (hb : m.own g b) : ∃ cs t fr, w.heap[b]? = some (.cells cs t fr) ∧ Gt t := by
  rcases hb with rfl | hb | rfl | hb
  · exact ⟨_, _, _, h.bk, .inl rfl⟩
  · obtain ⟨_, cur, fr, hc⟩ := h.iq.ty b hb
    exact ⟨_, _, _, hc, .inr (.inl rfl)⟩
  · exact ⟨_, _, _, h.ln.bk, .inr (.inr (.inl rfl))⟩
  · obtain ⟨cur, hc⟩ := h.ln.ws.ty b hb
    exact ⟨_, _, _, hc, .inr (.inr (.inr rfl))⟩
theorem RowP.keep (h : RowP B w mo g q m) (e : ∀ b, m.own g b → w'.heap[b]? = w.heap[b]?) : RowP B w' mo g q m :=
  ⟨h.bk.heap (e g (.inl rfl)), h.iq.keep fun b hb => e b (.inr (.inl hb)), h.ln.keep (e _ (.inr (.inr (.inl rfl)))) fun b hb => e b (.inr (.inr (.inr hb))), h.ge, h.nm⟩
theorem RowP.below (h : RowP B w mo g q m) (hb : Below w.heap.size w w') : RowP B w' mo g q m := h.keep fun b hk => hb.block b (h.lt hk).2
theorem RowP.not_own (h : RowP B w mo g q m) {b : Nat} {o : Obj} (hb : w.heap[b]? = some o) (ho : ∀ cs t fr, o = .cells cs t fr → ¬ Gt t) : ¬ m.own g b := fun hk => by
  obtain ⟨cs, t, fr, hc, ht⟩ := h.ty hk
  rw [hb] at hc
  injection hc with hc
  exact ho _ _ _ hc ht
theorem RowP.cells (h : RowP B w mo g q m) : w.cell? ⟨g, 0, none⟩ = some (.string q.name) ∧ w.cell? ⟨g, 1, none⟩ = some (nV (q.conns : Int)) ∧ w.cell? ⟨g, 2, none⟩ = some m.iv ∧ w.cell? ⟨g, 3, none⟩ = some (ptr m.lb) := ⟨h.bk.cell 0, h.bk.cell 1, h.bk.cell 2, h.bk.cell 3⟩
theorem RowP.ne_iv (h : RowP B w mo g q m) {b : Nat} (hb : m.iv.ownBlock = some b) : b ≠ g := by
  rintro rfl
  obtain ⟨_, cur, fr, hc⟩ := h.iq.ty b hb
  have := h.bk
  unfold Bk at this
  rw [hc] at this
  injection this with this
  injection this with _ this
  exact absurd this (by decide)
theorem RowP.ne_lb (h : RowP B w mo g q m) : m.lb ≠ g := by
  intro e
  have h1 := h.bk
  have h2 := h.ln.bk
  unfold Bk at h1 h2
  rw [e, h1] at h2
  injection h2 with h2
  injection h2 with _ h2
  exact absurd h2 (by decide)
theorem RowP.ne_lv (h : RowP B w mo g q m) {b : Nat} (hb : m.lv.ownBlock = some b) : b ≠ g := by
  rintro rfl
  obtain ⟨cur, hc⟩ := h.ln.ws.ty b hb
  have := h.bk
  unfold Bk at this
  rw [hc] at this
  injection this with this
  injection this with _ this
  exact absurd this (by decide)
theorem RowP.iv_lb (h : RowP B w mo g q m) {b : Nat} (hb : m.iv.ownBlock = some b) : b ≠ m.lb := by
  rintro rfl
  obtain ⟨_, cur, fr, hc⟩ := h.iq.ty _ hb
  have := h.ln.bk
  unfold Bk at this
  rw [hc] at this
  injection this with this
  injection this with _ this
  exact absurd this (by decide)
theorem RowP.iv_lv (h : RowP B w mo g q m) {b : Nat} (hb : m.iv.ownBlock = some b) : m.lv.ownBlock ≠ some b := by
  intro hv
  obtain ⟨_, cur, fr, hc⟩ := h.iq.ty _ hb
  obtain ⟨cur', hc'⟩ := h.ln.ws.ty _ hv
  rw [hc] at hc'
  injection hc' with hc'
  injection hc' with _ hc'
  exact absurd hc' (by decide)
end
/-- the group turned into q', in its own blocks and new ones -/
def Turned (B : Nat) (w : World) (mo g : Nat) (m : Mem) (q' : Row) (w' : World) : Prop := ∃ m', RowP B w' mo g q' m' ∧ Chg (m.own g) w w' ∧ ∀ b, m'.own g b → m.own g b ∨ w.heap.size ≤ b
section
variable {B : Nat} {w w' w'' : World} {mo g : Nat} {q q' q'' : Row} {m : Mem}
theorem Turned.refl (h : RowP B w mo g q m) : Turned B w mo g m q w := ⟨m, h, Chg.refl _ _, fun b hb => .inl hb⟩
theorem Turned.of_below (h : RowP B w mo g q m) (hb : Below w.heap.size w w') : Turned B w mo g m q w' := ⟨m, h.below hb, Chg.of_below hb, fun b hb => .inl hb⟩
theorem Turned.pre (hb : Below w.heap.size w w') (h : Turned B w' mo g m q' w'') (h0 : RowP B w mo g q m) : Turned B w mo g m q' w'' := by
  obtain ⟨m', h1, h2, h3⟩ := h
  exact ⟨m', h1, (Chg.of_below hb).trans h2, fun b hk => (h3 b hk).imp id fun h => Nat.le_trans hb.size h⟩
theorem Turned.post (h : Turned B w mo g m q' w') (hb : Below w'.heap.size w' w'') : Turned B w mo g m q' w'' := by
  obtain ⟨m', h1, h2, h3⟩ := h
  exact ⟨m', h1.below hb, h2.trans' (S' := fun _ => False) (Chg.of_below hb) (fun _ _ h => h.elim), h3⟩
theorem Turned.trans (h : Turned B w mo g m q' w') (k : ∀ m', RowP B w' mo g q' m' → Turned B w' mo g m' q'' w'') : Turned B w mo g m q'' w'' := by
  obtain ⟨m', h1, h2, h3⟩ := h
  obtain ⟨m2, k1, k2, k3⟩ := k m' h1
  refine ⟨m2, k1, h2.trans' k2 fun b hb hk => (h3 b hk).resolve_right (by omega), fun b hb => ?_⟩
  rcases k3 b hb with h | h
  · exact h3 b h
  · exact .inr (Nat.le_trans h2.size h)
end
abbrev gV (R : Raw) : Lit → Option Value := MV.fS fun k => (R.gm k).map ptr
abbrev sV (R : Raw) : Lit → Option Value := MV.fI fun c => (R.sm c).map seV
abbrev lV (R : Raw) : Lit → Option Value := MV.fI fun n => (R.nm n).map lkV
abbrev comeV (C : Cf) : Value := .func (.func 42) #[] #[ptr C.pb]
abbrev pC (a : Nat) (C : Cf) (l : Nat) : Array Value := #[ptr a, nV (C.lim : Int), nV (C.most : Int), nV (C.wait : Int), nV (C.idl : Int), nV (l : Int), comeV C, .map (some C.gb), .map (some C.sb), .map (some C.nb)]
structure PB (B : Nat) (w : World) (a N : Nat) (C : Cf) (R : Raw) (M : Nat → Mem) : Prop where
  bk : Bk w a 53 (pC a C R.last)
  pk : Bk w C.pb 23 #[ptr a]
  mg : MV.MapV Try.prog 9 w C.gb N (gV R)
  ms : MV.MapV Try.prog 3 w C.sb N (sV R)
  mn : MV.MapV Try.prog 3 w C.nb N (lV R)
  row : ∀ g q, R.rows g = some q → RowP B w C.most g q (M g)
  sep : ∀ g g' q q', R.rows g = some q → R.rows g' = some q' → g ≠ g' → ∀ b, (M g).own g b → ¬ (M g').own g' b
  dis : C.gb ≠ C.sb ∧ C.gb ≠ C.nb ∧ C.sb ≠ C.nb
  ge : B ≤ a ∧ B ≤ C.gb ∧ B ≤ C.sb ∧ B ≤ C.nb ∧ B ≤ C.pb
  cf : 1 ≤ C.lim ∧ C.lim ≤ 1000 ∧ 1 ≤ C.most ∧ C.most ≤ 1000 ∧ C.wait ≤ 549755813888 ∧ C.idl ≤ 549755813888
/-- all cells but those of a pool's own types are as they were -/
def Kt (w w' : World) : Prop := ∀ (b : Nat) (cs : Array Value) (t : TypeId) (fr : Nat × Nat), ¬ Gt t → t ≠ 53 → w.heap[b]? = some (.cells cs t fr) → w'.heap[b]? = w.heap[b]?
section
variable {w w' w'' : World}
theorem Kt.refl (w : World) : Kt w w := fun _ _ _ _ _ _ _ => rfl
theorem Kt.trans (h : Kt w w') (k : Kt w' w'') : Kt w w'' := fun b cs t fr h1 h2 hb => (k b cs t fr h1 h2 ((h b cs t fr h1 h2 hb).trans hb)).trans (h b cs t fr h1 h2 hb)
theorem Kt.below (h : Below w.heap.size w w') : Kt w w' := fun b cs t fr _ _ hb => h.block b (Array.getElem?_eq_some_iff.1 hb).1
theorem Kt.bk {g : Nat} {t : TypeId} {cs : Array Value} (h : Kt w w') (hb : Bk w g t cs) (h1 : ¬ Gt t := by unfold Gt; decide) (h2 : t ≠ 53 := by decide) : Bk w' g t cs := (h g cs t (0, 0) h1 h2 hb).trans hb
theorem Kt.ki (h : Kt w w') : LN.Ki w w' := fun b cs fr hb => h b cs _ fr (by unfold Gt; decide) (by decide) hb
theorem Kt.chg {S : Nat → Prop} (h : Chg S w w') (hs : ∀ b, S b → b < w.heap.size → (∃ es cl, w.heap[b]? = some (.map es cl)) ∨ ∃ cs t fr, w.heap[b]? = some (.cells cs t fr) ∧ (Gt t ∨ t = 53)) : Kt w w' := fun b cs t fr h1 h2 hb => h.block b (Array.getElem?_eq_some_iff.1 hb).1 fun hS => by
  rcases hs b hS (Array.getElem?_eq_some_iff.1 hb).1 with ⟨es, cl, he⟩ | ⟨cs', t', fr', he, ht⟩
  · rw [hb] at he; cases he
  · rw [hb] at he
    injection he with he
    injection he with _ he _
    subst he
    exact ht.elim h1 h2
end
/-- what a call on a pool leaves of all else -/
structure Fr (B : Nat) (w w' : World) : Prop where
  bel : Below B w w'
  kt : Kt w w'
section
variable {B : Nat} {w w' w'' : World}
theorem Fr.refl (B : Nat) (w : World) : Fr B w w := ⟨Below.refl _ _, Kt.refl _⟩
theorem Fr.trans (h : Fr B w w') (k : Fr B w' w'') : Fr B w w'' := ⟨h.bel.trans k.bel, h.kt.trans k.kt⟩
theorem Fr.below (h : Below w.heap.size w w') (hB : B ≤ w.heap.size) : Fr B w w' := ⟨h.mono hB, Kt.below h⟩
theorem Fr.size (h : Fr B w w') : w.heap.size ≤ w'.heap.size := h.bel.size
end
def PB.own (C : Cf) (R : Raw) (M : Nat → Mem) (a b : Nat) : Prop := b = a ∨ b = C.pb ∨ b = C.gb ∨ b = C.sb ∨ b = C.nb ∨ ∃ g q, R.rows g = some q ∧ (M g).own g b
section
variable {B : Nat} {w w' : World} {a N : Nat} {C : Cf} {R : Raw} {M : Nat → Mem}
theorem bk_nmap {b g n : Nat} {t : TypeId} {cs : Array Value} {P : Program} {K : TypeId} {f : Lit → Option Value} (h : Bk w g t cs) (hm : MV.MapV P K w b n f) : g ≠ b := by
  rintro rfl
  obtain ⟨es, clock, hb⟩ := hm.obj
  unfold Bk at h
  rw [h] at hb
  cases hb
theorem PB.lt (h : PB B w a N C R M) {b : Nat} (hb : PB.own C R M a b) : b < w.heap.size := by
  rcases hb with rfl | rfl | rfl | rfl | rfl | ⟨g, q, hg, hb⟩
  · exact h.bk.lt
  · exact h.pk.lt
  · exact h.mg.lt
  · exact h.ms.lt
  · exact h.mn.lt
  · exact ((h.row g q hg).lt hb).2
theorem PB.keep (h : PB B w a N C R M) (e : ∀ b, PB.own C R M a b → w'.heap[b]? = w.heap[b]?) : PB B w' a N C R M :=
  ⟨h.bk.heap (e _ (.inl rfl)), h.pk.heap (e _ (.inr (.inl rfl))), h.mg.keep (e _ (.inr (.inr (.inl rfl)))), h.ms.keep (e _ (.inr (.inr (.inr (.inl rfl))))), h.mn.keep (e _ (.inr (.inr (.inr (.inr (.inl rfl)))))),
    fun g q hg => (h.row g q hg).keep fun b hb => e b (.inr (.inr (.inr (.inr (.inr ⟨g, q, hg, hb⟩))))), h.sep, h.dis, h.ge, h.cf⟩
theorem PB.below (h : PB B w a N C R M) (hb : Below w.heap.size w w') : PB B w' a N C R M := h.keep fun b hk => hb.block b (h.lt hk)
theorem PB.mono (h : PB B w a N C R M) {n : Nat} (hn : N ≤ n) : PB B w a n C R M := ⟨h.bk, h.pk, h.mg.mono hn, h.ms.mono hn, h.mn.mono hn, h.row, h.sep, h.dis, h.ge, h.cf⟩
theorem PB.le (h : PB B w a N C R M) : B ≤ w.heap.size := Nat.le_of_lt (Nat.lt_of_le_of_lt h.ge.1 h.bk.lt)
theorem PB.cells (h : PB B w a N C R M) : w.cell? ⟨a, 0, none⟩ = some (ptr a) ∧ w.cell? ⟨a, 1, none⟩ = some (nV (C.lim : Int)) ∧ w.cell? ⟨a, 2, none⟩ = some (nV (C.most : Int)) ∧ w.cell? ⟨a, 3, none⟩ = some (nV (C.wait : Int)) ∧ w.cell? ⟨a, 4, none⟩ = some (nV (C.idl : Int)) ∧ w.cell? ⟨a, 5, none⟩ = some (nV (R.last : Int)) ∧
    w.cell? ⟨a, 6, none⟩ = some (comeV C) ∧ w.cell? ⟨a, 7, none⟩ = some (.map (some C.gb)) ∧ w.cell? ⟨a, 8, none⟩ = some (.map (some C.sb)) ∧ w.cell? ⟨a, 9, none⟩ = some (.map (some C.nb)) :=
  ⟨h.bk.cell 0, h.bk.cell 1, h.bk.cell 2, h.bk.cell 3, h.bk.cell 4, h.bk.cell 5, h.bk.cell 6, h.bk.cell 7, h.bk.cell 8, h.bk.cell 9⟩
theorem PB.row_a (h : PB B w a N C R M) {g : Nat} {q : Row} (hg : R.rows g = some q) : ¬ (M g).own g a ∧ ¬ (M g).own g C.pb ∧ ¬ (M g).own g C.gb ∧ ¬ (M g).own g C.sb ∧ ¬ (M g).own g C.nb := by
  have hr := h.row g q hg
  have hm : ∀ {b n : Nat} {K : TypeId} {f : Lit → Option Value}, MV.MapV Try.prog K w b n f → ¬ (M g).own g b := fun hm => by
    obtain ⟨es, cl, hb⟩ := hm.obj
    exact hr.not_own hb fun _ _ _ e => by cases e
  exact ⟨hr.not_own h.bk fun _ _ _ e => by injection e with _ e; subst e; unfold Gt; decide, hr.not_own h.pk fun _ _ _ e => by injection e with _ e; subst e; unfold Gt; decide, hm h.mg, hm h.ms, hm h.mn⟩
/-- one group turned -/
theorem PB.turn (h : PB B w a N C R M) {g : Nat} {q q' : Row} (hg : R.rows g = some q) (ht : Turned B w C.most g (M g) q' w') : (∃ M', PB B w' a N C { R with rows := upd R.rows g (some q') } M') ∧ Fr B w w' := by
  obtain ⟨m', hr, hc, ho⟩ := ht
  obtain ⟨n1, n2, n3, n4, n5⟩ := h.row_a hg
  have same : ∀ {b : Nat}, b < w.heap.size → ¬ (M g).own g b → w'.heap[b]? = w.heap[b]? := fun hb hn => hc.block _ hb hn
  have hR : ∀ x y, upd R.rows g (some q') x = some y → (x = g ∧ y = q') ∨ (x ≠ g ∧ R.rows x = some y) := fun x y hx => by
    by_cases e : x = g
    · subst e; rw [upd_at] at hx; injection hx with hx; exact .inl ⟨rfl, hx.symm⟩
    · rw [upd_ne _ _ e] at hx; exact .inr ⟨e, hx⟩
  refine ⟨⟨upd M g m', ⟨h.bk.heap (same h.bk.lt n1), h.pk.heap (same h.pk.lt n2), h.mg.keep (same h.mg.lt n3), h.ms.keep (same h.ms.lt n4), h.mn.keep (same h.mn.lt n5), fun x y hx => ?_, fun x x' y y' hx hx' hne b hb hb' => ?_, h.dis, h.ge, h.cf⟩⟩, ⟨hc.below h.le fun b hb hk => by have := ((h.row g q hg).lt hk).1; omega, Kt.chg hc fun b hb _ => ?_⟩⟩
  · rcases hR x y hx with ⟨rfl, rfl⟩ | ⟨hne, hx1⟩
    · rw [upd_at]; exact hr
    · rw [upd_ne _ _ hne]
      exact (h.row x y hx1).keep fun b hb => same ((h.row x y hx1).lt hb).2 (h.sep x g y q hx1 hg hne b hb)
  · rcases hR x y hx with ⟨rfl, rfl⟩ | ⟨hn, hx1⟩
    · rw [upd_at] at hb
      rcases hR x' y' hx' with ⟨rfl, _⟩ | ⟨hn', hx2⟩
      · exact hne rfl
      · rw [upd_ne _ _ hn'] at hb'
        rcases ho b hb with h1 | h1
        · exact h.sep _ _ _ _ hg hx2 hne b h1 hb'
        · have := ((h.row x' y' hx2).lt hb').2; omega
    · rw [upd_ne _ _ hn] at hb
      rcases hR x' y' hx' with ⟨rfl, rfl⟩ | ⟨hn', hx2⟩
      · rw [upd_at] at hb'
        rcases ho b hb' with h1 | h1
        · exact h.sep _ _ _ _ hx1 hg hne b hb h1
        · have := ((h.row x y hx1).lt hb).2; omega
      · rw [upd_ne _ _ hn'] at hb'
        exact h.sep _ _ _ _ hx1 hx2 hne b hb hb'
  · obtain ⟨cs, t, fr, h1, h2⟩ := (h.row g q hg).ty hb
    exact .inr ⟨cs, t, fr, h1, .inl h2⟩
/-- a new group -/
theorem PB.fresh (h : PB B w a N C R M) (hb : Below w.heap.size w w') {g : Nat} {q : Row} {m : Mem} (hr : RowP B w' C.most g q m) (ho : ∀ b, m.own g b → w.heap.size ≤ b) : (∃ M', PB B w' a N C { R with rows := upd R.rows g (some q) } M') ∧ R.rows g = none := by
  have h' := h.below hb
  have hno : R.rows g = none := by
    cases e : R.rows g with
    | none => rfl
    | some y =>
      have h1 := ((h.row g y e).lt (.inl rfl)).2
      have h2 := ho g (.inl rfl)
      omega
  have hR : ∀ x y, upd R.rows g (some q) x = some y → (x = g ∧ y = q) ∨ (x ≠ g ∧ R.rows x = some y) := fun x y hx => by
    by_cases e : x = g
    · subst e; rw [upd_at] at hx; injection hx with hx; exact .inl ⟨rfl, hx.symm⟩
    · rw [upd_ne _ _ e] at hx; exact .inr ⟨e, hx⟩
  refine ⟨⟨upd M g m, ⟨h'.bk, h'.pk, h'.mg, h'.ms, h'.mn, fun x y hx => ?_, fun x x' y y' hx hx' hne b hb hb' => ?_, h.dis, h.ge, h.cf⟩⟩, hno⟩
  · rcases hR x y hx with ⟨rfl, rfl⟩ | ⟨hne, hx1⟩
    · rw [upd_at]; exact hr
    · rw [upd_ne _ _ hne]; exact h'.row x y hx1
  · rcases hR x y hx with ⟨rfl, rfl⟩ | ⟨hn, hx1⟩
    · rw [upd_at] at hb
      rcases hR x' y' hx' with ⟨rfl, _⟩ | ⟨hn', hx2⟩
      · exact hne rfl
      · rw [upd_ne _ _ hn'] at hb'
        have := ((h.row x' y' hx2).lt hb').2
        have := ho b hb
        omega
    · rw [upd_ne _ _ hn] at hb
      rcases hR x' y' hx' with ⟨rfl, rfl⟩ | ⟨hn', hx2⟩
      · rw [upd_at] at hb'
        have := ((h.row x y hx1).lt hb).2
        have := ho b hb'
        omega
      · rw [upd_ne _ _ hn'] at hb'
        exact h.sep _ _ _ _ hx1 hx2 hne b hb hb'
theorem mapTurned_chg {b : Nat} (h : w.mapTurned w' b) : Chg (fun x => x = b) w w' := (Chg.refl _ w).grown h.grown fun k hk _ => by injection hk with hk; exact hk.symm
theorem map_fr {b n : Nat} {K : TypeId} {f : Lit → Option Value} (hm : MV.MapV Try.prog K w b n f) (hB : B ≤ b) (h : w.mapTurned w' b) : Fr B w w' := by
  have hc := mapTurned_chg h
  refine ⟨hc.below (by have := hm.lt; omega) fun x hx e => by omega, Kt.chg hc fun x hx _ => ?_⟩
  obtain ⟨es, cl, he⟩ := hm.obj
  exact .inl ⟨es, cl, by rw [hx]; exact he⟩
theorem PB.map_keep (h : PB B w a N C R M) {b n : Nat} {K : TypeId} {f : Lit → Option Value} (hm : MV.MapV Try.prog K w b n f) (ht : w.mapTurned w' b) : ∀ x, x ≠ b → x < w.heap.size → w'.heap[x]? = w.heap[x]? := fun x hx hl => (mapTurned_chg ht).block x hl hx
/-- the seats' map turned -/
theorem PB.seats (h : PB B w a N C R M) {n : Nat} (hn : N ≤ n) {S : Int → Option (Nat × Int × Bool)} (hm : MV.MapV Try.prog 3 w' C.sb n (MV.fI fun c => (S c).map seV)) (ht : w.mapTurned w' C.sb) : PB B w' a n C { R with sm := S } M ∧ Fr B w w' := by
  have k := h.map_keep h.ms ht
  refine ⟨⟨h.bk.heap (k _ (bk_nmap h.bk h.ms) h.bk.lt), h.pk.heap (k _ (bk_nmap h.pk h.ms) h.pk.lt), (h.mg.keep (k _ h.dis.1 h.mg.lt)).mono hn, hm, (h.mn.keep (k _ h.dis.2.2.symm h.mn.lt)).mono hn, fun g q hg => (h.row g q hg).keep fun b hb => k _ (fun e => (h.row_a hg).2.2.2.1 (e ▸ hb)) ((h.row g q hg).lt hb).2, h.sep, h.dis, h.ge, h.cf⟩, map_fr h.ms h.ge.2.2.1 ht⟩
/-- the links' -/
theorem PB.links (h : PB B w a N C R M) {n : Nat} (hn : N ≤ n) {S : Int → Option (Nat × Int × Int)} (hm : MV.MapV Try.prog 3 w' C.nb n (MV.fI fun c => (S c).map lkV)) (ht : w.mapTurned w' C.nb) : PB B w' a n C { R with nm := S } M ∧ Fr B w w' := by
  have k := h.map_keep h.mn ht
  refine ⟨⟨h.bk.heap (k _ (bk_nmap h.bk h.mn) h.bk.lt), h.pk.heap (k _ (bk_nmap h.pk h.mn) h.pk.lt), (h.mg.keep (k _ h.dis.2.1 h.mg.lt)).mono hn, (h.ms.keep (k _ h.dis.2.2 h.ms.lt)).mono hn, hm, fun g q hg => (h.row g q hg).keep fun b hb => k _ (fun e => (h.row_a hg).2.2.2.2 (e ▸ hb)) ((h.row g q hg).lt hb).2, h.sep, h.dis, h.ge, h.cf⟩, map_fr h.mn h.ge.2.2.2.1 ht⟩
/-- the groups' -/
theorem PB.groups (h : PB B w a N C R M) {n : Nat} (hn : N ≤ n) {S : ByteArray → Option Nat} (hm : MV.MapV Try.prog 9 w' C.gb n (MV.fS fun c => (S c).map ptr)) (ht : w.mapTurned w' C.gb) : PB B w' a n C { R with gm := S } M ∧ Fr B w w' := by
  have k := h.map_keep h.mg ht
  refine ⟨⟨h.bk.heap (k _ (bk_nmap h.bk h.mg) h.bk.lt), h.pk.heap (k _ (bk_nmap h.pk h.mg) h.pk.lt), hm, (h.ms.keep (k _ h.dis.1.symm h.ms.lt)).mono hn, (h.mn.keep (k _ h.dis.2.1.symm h.mn.lt)).mono hn, fun g q hg => (h.row g q hg).keep fun b hb => k _ (fun e => (h.row_a hg).2.2.1 (e ▸ hb)) ((h.row g q hg).lt hb).2, h.sep, h.dis, h.ge, h.cf⟩, map_fr h.mg h.ge.2.1 ht⟩
/-- the last number -/
theorem PB.number (h : PB B w a N C R M) (n : Nat) : PB B (w.setCell ⟨a, 5, none⟩ (nV (n : Int))) a N C { R with last := n } M ∧ Fr B w (w.setCell ⟨a, 5, none⟩ (nV (n : Int))) := by
  have far : ∀ k, k ≠ a → (w.setCell ⟨a, 5, none⟩ (nV (n : Int))).heap[k]? = w.heap[k]? := fun k hk => Below.heap_setCell w ⟨a, 5, none⟩ _ k hk
  have hc : Chg (fun b => b = a) w (w.setCell ⟨a, 5, none⟩ (nV (n : Int))) := (Chg.refl (fun b => b = a) w).setCell (p := ⟨a, 5, none⟩) rfl _
  refine ⟨⟨h.bk.set_ 5 _, h.pk.heap (far _ (h.pk.ne_ h.bk (by decide))), h.mg.keep (far _ (bk_nmap h.bk h.mg).symm), h.ms.keep (far _ (bk_nmap h.bk h.ms).symm), h.mn.keep (far _ (bk_nmap h.bk h.mn).symm), fun g q hg => (h.row g q hg).keep fun b hb => far _ (fun e => (h.row_a hg).1 (e ▸ hb)), h.sep, h.dis, h.ge, h.cf⟩, ⟨hc.below h.le fun b hb e => by have := h.ge.1; omega, Kt.chg hc fun b hb _ => by subst hb; exact .inr ⟨_, _, _, h.bk, .inr rfl⟩⟩⟩
end
end Go.Proofs.Ytochjbmighijgaa.PO
