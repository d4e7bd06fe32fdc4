/- Package prep, words for memory: maps of known length; maps of maps, by numbers. No program is walked here; no condition. -/
import Derived.Test.YtkifmhdceobfhaaDoorPpa
import Derived.Maps.Keyed
namespace Go.Proofs.YtkifmhdceobfhaaDoor.PP
open Go.ChangeShapes Go.WideShapes Go.ChangeAt Go.RowKit Go.Maps Go.ChangeMaps
open Go.Proofs.YtkifmhdceobfhaaDoor.SL
open Classical
set_option maxRecDepth 100000
set_option linter.unusedVariables false
set_option linter.unusedSimpArgs false

abbrev nV (n : Int) : Value := .int .i64 n
abbrev mpV (b : Nat) : Value := .map (some b)
def mO (o : Option Nat) : Value := .map o
def I9 (n : Int) : Prop := -9223372036854775808 ≤ n ∧ n ≤ 9223372036854775807
theorem iK : Keyed Tryd.prog 3 := int_keyed Tryd.underlying3
theorem keyI (n : Int) (h : I9 n) : keyOf Tryd.prog 3 (.int .i64 n) = some (.int .i64 n) := by
  obtain ⟨h1, h2⟩ := h
  have hw : (Lit.int IntKind.i64 n).wf = true := by
    simp [Lit.wf, IntKind.min, IntKind.max, IntKind.signed, IntKind.bits]; omega
  unfold keyOf
  rw [Tryd.underlying3]
  simp only [mapKey]
  simp [hw]
theorem zero_of (t : TypeId) (v : Value) (h : (Tryd.prog.info? t).bind (fun i => i.zero) = some v) (w : World) : (zeroValue t).run Tryd.prog w = .ok v w := by
  cases hi : Tryd.prog.info? t with
  | none => rw [hi] at h; cases h
  | some j =>
    rw [hi] at h
    simp [zeroValue, typeInfo, hi, show j.zero = some v from h]
def upd {α β : Type} [DecidableEq α] (f : α → β) (a : α) (b : β) : α → β := fun x => if x = a then b else f x
theorem upd_at {α β : Type} [DecidableEq α] (f : α → β) (a : α) (b : β) : upd f a b a = b := if_pos rfl
theorem upd_ne {α β : Type} [DecidableEq α] (f : α → β) {a x : α} (b : β) (h : x ≠ a) : upd f a b x = f x := if_neg h
/-- the block is a map, of just n entries, that holds f -/
def MapN (P : Program) (K : TypeId) (w : World) (b n : Nat) (f : Lit → Option Value) : Prop := ∃ D : DataW Value, w.ownsMap P K MV.vE b n D ∧ Maps.size D = n ∧ MV.Agr D f
section
variable {P : Program} {K : TypeId} {w w' : World} {b n : Nat} {f g : Lit → Option Value}
theorem MapN.mv (h : MapN P K w b n f) : MV.MapV P K w b n f := by obtain ⟨D, h1, _, h2⟩ := h; exact ⟨D, h1, h2⟩
theorem MapN.lt (h : MapN P K w b n f) : b < w.heap.size := h.mv.lt
theorem MapN.obj (h : MapN P K w b n f) : ∃ es clock, w.heap[b]? = some (.map es clock) := h.mv.obj
theorem MapN.made (P : Program) (K : TypeId) (w : World) : MapN P K (w.alloc (.map #[] 0)) w.heap.size 0 fun _ => none := ⟨.map [], World.ownsMap_made _ _ _ _, rfl, MV.Agr.empty⟩
theorem MapN.keep (h : MapN P K w b n f) (e : w'.heap[b]? = w.heap[b]?) : MapN P K w' b n f := by
  obtain ⟨D, ⟨es, clock, hb, r⟩, hs, hf⟩ := h
  exact ⟨D, ⟨es, clock, e.trans hb, r⟩, hs, hf⟩
theorem MapN.congr (h : MapN P K w b n f) (e : ∀ k, f k = g k) : MapN P K w b n g := by rw [← show f = g from funext e]; exact h
theorem tight {D : DataW Value} {R : Value → Option (DataW Value × List MemPlace)} {m : Nat} (h : w.ownsMap P K R b m D) : w.ownsMap P K R b (Maps.size D) D := by
  obtain ⟨es, clock, hb, F, hs, hD⟩ := h
  refine ⟨es, clock, hb, F, ?_, hD⟩
  rw [hD]
  simp [Maps.size, length_sorted]
theorem MapN.len {t e : TypeId} (h : MapN P K w b n f) (ht : P.underlying t = some (.map K e)) (ty : TypeId) : (Builtin.len_ #[t] ty #[.map (some b)]).run P w = .ok (.int .i64 (n : Int)) w := by
  obtain ⟨D, h1, hs, _⟩ := h
  rw [h1.len ht ty, hs]
theorem MapN.put {t e : TypeId} (h : MapN P K w b n f) (hK : Keyed P K) (ht : P.underlying t = some (.map K e)) (hn : n < maxLen) {key : Value} {kl : Lit} (hkey : keyOf P K key = some kl) (v : Value) :
    ∃ w', (Instr.mapUpdate t (.map (some b)) key v).run P w = .ok () w' ∧ MapN P K w' b (if (f kl).isSome = true then n else n + 1) (fun x => if x = kl then some v else f x) ∧ w.mapTurned w' b := by
  obtain ⟨D, hm, hs, ha⟩ := h
  obtain ⟨w', h1, h2, h3⟩ := hm.store hK ht hn hkey (d := .held v) (ps := []) rfl
  have e1 := size_put (k := kl) (hm.tidy hK) (.held v)
  have e2 := (ha kl (hK.key hkey)).1
  have e3 : Maps.size (D.put kl (.held v)) = if (f kl).isSome = true then n else n + 1 := by rw [e1, e2, hs]
  refine ⟨w', h1, ⟨_, ?_, e3, ha.put hm.isMap (hK.key hkey) v⟩, h3⟩
  rw [← e3]
  exact tight h2
theorem MapN.drop {t e : TypeId} (h : MapN P K w b n f) (hK : Keyed P K) (ht : P.underlying t = some (.map K e)) {key : Value} {kl : Lit} (hkey : keyOf P K key = some kl) (ty : TypeId) :
    ∃ w', (Builtin.delete_ #[t, K] ty #[.map (some b), key]).run P w = .ok (.tuple #[]) w' ∧ MapN P K w' b (if (f kl).isSome = true then n - 1 else n) (fun x => if x = kl then none else f x) ∧ w.mapTurned w' b := by
  obtain ⟨D, hm, hs, ha⟩ := h
  obtain ⟨w', h1, h2, h3⟩ := hm.drop hK ht hkey ty
  have e1 := size_del (k := kl) (hm.tidy hK)
  have e2 := (ha kl (hK.key hkey)).1
  have e3 : Maps.size (D.del kl) = if (f kl).isSome = true then n - 1 else n := by
    rw [e2, hs] at e1
    split at e1
    · rename_i hh; rw [if_pos hh]; omega
    · rename_i hh; rw [if_neg hh]; omega
  refine ⟨w', h1, ⟨_, ?_, e3, ha.del⟩, h3⟩
  rw [← e3]
  exact tight h2
end
theorem turned_chg {w w' : World} {b : Nat} (h : w.mapTurned w' b) : Chg (fun x => x = b) w w' := (Chg.refl _ w).grown h.grown fun k hk _ => by injection hk with hk; exact hk.symm
/-- by each number a map, or none -/
structure Held (K : TypeId) (w : World) (h N : Nat) (F : Int → Option Nat) (cnt : Int → Nat) (g : Int → Lit → Option Value) : Prop where
  mo : MV.MapV Tryd.prog 3 w h N (MV.fI fun c => (F c).map mpV)
  mi : ∀ c b, F c = some b → MapN Tryd.prog K w b (cnt c) (g c)
  m0 : ∀ c, F c = none → cnt c = 0 ∧ ∀ kl, g c kl = none
  nh : ∀ c b, F c = some b → b ≠ h
  inj : ∀ c c' b, F c = some b → F c' = some b → c = c'
def Own (F : Int → Option Nat) (h b : Nat) : Prop := b = h ∨ ∃ c, F c = some b
section
variable {K : TypeId} {w w' : World} {h N : Nat} {F : Int → Option Nat} {cnt : Int → Nat} {g : Int → Lit → Option Value}
theorem Held.lt (H : Held K w h N F cnt g) {b : Nat} (hb : Own F h b) : b < w.heap.size := by
  rcases hb with rfl | ⟨c, hc⟩
  · exact H.mo.lt
  · exact (H.mi c b hc).lt
theorem Held.obj (H : Held K w h N F cnt g) {b : Nat} (hb : Own F h b) : ∃ es clock, w.heap[b]? = some (.map es clock) := by
  rcases hb with rfl | ⟨c, hc⟩
  · exact H.mo.obj
  · exact (H.mi c b hc).obj
theorem Held.keep (H : Held K w h N F cnt g) (e : ∀ b, Own F h b → w'.heap[b]? = w.heap[b]?) : Held K w' h N F cnt g :=
  ⟨H.mo.keep (e _ (.inl rfl)), fun c b hc => (H.mi c b hc).keep (e _ (.inr ⟨c, hc⟩)), H.m0, H.nh, H.inj⟩
theorem Held.mono (H : Held K w h N F cnt g) {n : Nat} (hn : N ≤ n) : Held K w h n F cnt g := ⟨H.mo.mono hn, H.mi, H.m0, H.nh, H.inj⟩
theorem Held.below (H : Held K w h N F cnt g) (hb : Below w.heap.size w w') : Held K w' h N F cnt g := H.keep fun b hk => hb.block b (H.lt hk)
theorem Held.congr (H : Held K w h N F cnt g) {cnt' : Int → Nat} {g' : Int → Lit → Option Value} (e1 : ∀ c, cnt c = cnt' c) (e2 : ∀ c kl, g c kl = g' c kl) : Held K w h N F cnt' g' := by
  rw [← show cnt = cnt' from funext e1, ← show g = g' from funext fun c => funext (e2 c)]; exact H
theorem Held.out {t e : TypeId} (H : Held K w h N F cnt g) (ht : Tryd.prog.underlying t = some (.map 3 e)) (hz : (zeroValue e).run Tryd.prog w = .ok (.map none) w) (c : Int) (hc : I9 c) :
    (Instr.lookup t (.map (some h)) (nV c) false).run Tryd.prog w = .ok (mO (F c)) w := by
  have := H.mo.look1 iK ht hz (keyI c hc)
  rw [this]
  simp only [MV.fI]
  cases F c <;> rfl
theorem Held.look {t e : TypeId} (H : Held K w h N F cnt g) (hK : Keyed Tryd.prog K) (ht : Tryd.prog.underlying t = some (.map K e)) {z : Value} (hz : (zeroValue e).run Tryd.prog w = .ok z w) (c : Int) {key : Value} {kl : Lit} (hkey : keyOf Tryd.prog K key = some kl) :
    (Instr.lookup t (mO (F c)) key true).run Tryd.prog w = .ok (.tuple #[(g c kl).getD z, .bool (g c kl).isSome]) w := by
  cases hc : F c with
  | none =>
    have := Maps.look_nil (P := Tryd.prog) (w := w) true hK ht hz hkey
    rw [(H.m0 c hc).2 kl]
    exact this
  | some b => exact (H.mi c b hc).mv.look hK ht hz hkey
theorem Held.len {t e : TypeId} (H : Held K w h N F cnt g) (ht : Tryd.prog.underlying t = some (.map K e)) (c : Int) (ty : TypeId) : (Builtin.len_ #[t] ty #[mO (F c)]).run Tryd.prog w = .ok (nV (cnt c : Int)) w := by
  cases hc : F c with
  | none =>
    rw [(H.m0 c hc).1]
    exact Maps.len_nil ht ty
  | some b => exact (H.mi c b hc).len ht ty
theorem Held.put {t e : TypeId} (H : Held K w h N F cnt g) (hK : Keyed Tryd.prog K) (ht : Tryd.prog.underlying t = some (.map K e)) {c : Int} {b : Nat} (hc : F c = some b) (hn : cnt c < maxLen) {key : Value} {kl : Lit} (hkey : keyOf Tryd.prog K key = some kl) (v : Value) :
    ∃ w', (Instr.mapUpdate t (.map (some b)) key v).run Tryd.prog w = .ok () w' ∧ Held K w' h N F (upd cnt c (if (g c kl).isSome = true then cnt c else cnt c + 1)) (upd g c (fun x => if x = kl then some v else g c x)) ∧ Chg (fun x => x = b) w w' := by
  obtain ⟨w', h1, h2, h3⟩ := (H.mi c b hc).put hK ht hn hkey v
  have hg := turned_chg h3
  refine ⟨w', h1, ⟨H.mo.keep (hg.block _ H.mo.lt (H.nh c b hc).symm), fun x y hx => ?_, fun x hx => ?_, H.nh, H.inj⟩, hg⟩
  · by_cases e : x = c
    · subst e
      rw [upd_at, upd_at]
      rw [hc] at hx
      injection hx with hx
      subst hx
      exact h2
    · rw [upd_ne _ _ e, upd_ne _ _ e]
      exact (H.mi x y hx).keep (hg.block _ (H.mi x y hx).lt fun e2 => e (H.inj x c b (by rw [hx, e2]) hc))
  · have e : x ≠ c := fun e => by rw [e, hc] at hx; cases hx
    rw [upd_ne _ _ e, upd_ne _ _ e]
    exact H.m0 x hx
theorem Held.del {t e : TypeId} (H : Held K w h N F cnt g) (hK : Keyed Tryd.prog K) (ht : Tryd.prog.underlying t = some (.map K e)) {c : Int} {b : Nat} (hc : F c = some b) {key : Value} {kl : Lit} (hkey : keyOf Tryd.prog K key = some kl) (ty : TypeId) :
    ∃ w', (Builtin.delete_ #[t, K] ty #[.map (some b), key]).run Tryd.prog w = .ok (.tuple #[]) w' ∧ Held K w' h N F (upd cnt c (if (g c kl).isSome = true then cnt c - 1 else cnt c)) (upd g c (fun x => if x = kl then none else g c x)) ∧ Chg (fun x => x = b) w w' := by
  obtain ⟨w', h1, h2, h3⟩ := (H.mi c b hc).drop hK ht hkey ty
  have hg := turned_chg h3
  refine ⟨w', h1, ⟨H.mo.keep (hg.block _ H.mo.lt (H.nh c b hc).symm), fun x y hx => ?_, fun x hx => ?_, H.nh, H.inj⟩, hg⟩
  · by_cases e : x = c
    · subst e
      rw [upd_at, upd_at]
      rw [hc] at hx
      injection hx with hx
      subst hx
      exact h2
    · rw [upd_ne _ _ e, upd_ne _ _ e]
      exact (H.mi x y hx).keep (hg.block _ (H.mi x y hx).lt fun e2 => e (H.inj x c b (by rw [hx, e2]) hc))
  · have e : x ≠ c := fun e => by rw [e, hc] at hx; cases hx
    rw [upd_ne _ _ e, upd_ne _ _ e]
    exact H.m0 x hx
theorem fI_map (F : Int → Option Nat) (c : Int) (o : Option Nat) (kl : Lit) : (if kl = .int .i64 c then o.map mpV else MV.fI (fun c => (F c).map mpV) kl) = MV.fI (fun x => (upd F c o x).map mpV) kl := by
  rw [MV.fI_put]
  congr 1
  funext x
  show (if x = c then _ else _) = (if x = c then o else F x).map mpV
  split <;> rfl
/-- a map for somebody who has none -/
theorem Held.opened {t e : TypeId} (H : Held K w h N F cnt g) (ht : Tryd.prog.underlying t = some (.map 3 e)) {c : Int} (hI : I9 c) (hc : F c = none) (hN : N < maxLen) :
    ∃ w', (Instr.mapUpdate t (.map (some h)) (nV c) (.map (some w.heap.size))).run Tryd.prog (w.alloc (.map #[] 0)) = .ok () w' ∧ Held K w' h (N + 1) (upd F c (some w.heap.size)) cnt g ∧ Chg (fun x => x = h) w w' := by
  have hb : Below w.heap.size w (w.alloc (.map #[] 0)) := (Below.refl _ _).alloc (Nat.le_refl _) _
  have H1 := H.below hb
  obtain ⟨w', h1, h2, h3⟩ := H1.mo.put iK ht hN (keyI c hI) (.map (some w.heap.size))
  have hg := turned_chg h3
  have hlt := H.mo.lt
  have hF : ∀ x y, upd F c (some w.heap.size) x = some y → (x = c ∧ y = w.heap.size) ∨ (x ≠ c ∧ F x = some y) := fun x y hx => by
    by_cases e : x = c
    · subst e; rw [upd_at] at hx; injection hx with hx; exact .inl ⟨rfl, hx.symm⟩
    · rw [upd_ne _ _ e] at hx; exact .inr ⟨e, hx⟩
  refine ⟨w', h1, ⟨h2.congr fun kl => fI_map F c (some w.heap.size) kl, fun x y hx => ?_, fun x hx => ?_, fun x y hx => ?_, fun x x' y hx hx' => ?_⟩, (Chg.of_below hb).trans' (S := fun x => x = h) hg fun _ _ e => e⟩
  · rcases hF x y hx with ⟨rfl, rfl⟩ | ⟨e, hx⟩
    · have hm := MapN.made Tryd.prog K w
      have := hm.keep (w' := w') (hg.block _ hm.lt (by omega))
      rw [(H.m0 x hc).1]
      exact this.congr fun kl => ((H.m0 x hc).2 kl).symm
    · have hm := H1.mi x y hx
      exact hm.keep (hg.block _ hm.lt (H.nh x y hx))
  · by_cases e : x = c
    · subst e; rw [upd_at] at hx; cases hx
    · rw [upd_ne _ _ e] at hx; exact H.m0 x hx
  · rcases hF x y hx with ⟨rfl, rfl⟩ | ⟨e, hx⟩
    · omega
    · exact H.nh x y hx
  · rcases hF x y hx with ⟨rfl, rfl⟩ | ⟨e, hx⟩
    · rcases hF x' _ hx' with ⟨rfl, _⟩ | ⟨e', hx'⟩
      · rfl
      · have := (H.mi x' _ hx').lt; omega
    · rcases hF x' _ hx' with ⟨rfl, rfl⟩ | ⟨e', hx2⟩
      · have := (H.mi x _ ‹F x = some w.heap.size›).lt; omega
      · exact H.inj x x' y ‹F x = some y› hx2
theorem Held.drop {t e : TypeId} (H : Held K w h N F cnt g) (ht : Tryd.prog.underlying t = some (.map 3 e)) {c : Int} (hI : I9 c) (ty : TypeId) :
    ∃ w', (Builtin.delete_ #[t, 3] ty #[.map (some h), nV c]).run Tryd.prog w = .ok (.tuple #[]) w' ∧ Held K w' h N (upd F c none) (upd cnt c 0) (upd g c (fun _ => none)) ∧ Chg (fun x => x = h) w w' := by
  obtain ⟨w', h1, h2, h3⟩ := H.mo.drop iK ht (keyI c hI) ty
  have hg := turned_chg h3
  have hF : ∀ x y, upd F c none x = some y → x ≠ c ∧ F x = some y := fun x y hx => by
    by_cases e : x = c
    · subst e; rw [upd_at] at hx; cases hx
    · rw [upd_ne _ _ e] at hx; exact ⟨e, hx⟩
  refine ⟨w', h1, ⟨h2.congr fun kl => fI_map F c none kl, fun x y hx => ?_, fun x hx => ?_, fun x y hx => H.nh x y (hF x y hx).2, fun x x' y hx hx' => H.inj x x' y (hF x y hx).2 (hF x' y hx').2⟩, hg⟩
  · obtain ⟨e, hx⟩ := hF x y hx
    rw [upd_ne _ _ e, upd_ne _ _ e]
    exact (H.mi x y hx).keep (hg.block _ (H.mi x y hx).lt (H.nh x y hx))
  · by_cases e : x = c
    · subst e; rw [upd_at, upd_at]; exact ⟨rfl, fun _ => rfl⟩
    · rw [upd_ne _ _ e] at hx; rw [upd_ne _ _ e, upd_ne _ _ e]; exact H.m0 x hx
theorem Held.made (K : TypeId) (w : World) : Held K (w.alloc (.map #[] 0)) w.heap.size 0 (fun _ => none) (fun _ => 0) (fun _ _ => none) :=
  ⟨(MV.MapV.made _ _ _).congr (fun kl => by
    unfold MV.fI
    cases kl with
    | int q n => cases q <;> rfl
    | _ => rfl), fun c b h => (by cases h), fun c _ => ⟨rfl, fun _ => rfl⟩, fun c b h => (by cases h), fun c c' b h => (by cases h)⟩
end
end Go.Proofs.YtkifmhdceobfhaaDoor.PP
