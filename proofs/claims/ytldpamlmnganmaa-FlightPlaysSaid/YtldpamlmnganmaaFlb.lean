/- A board of flights in memory, as plain data. Conditions: how long the parts of a key are. -/
import Derived.Test.YtldpamlmnganmaaFla
import Derived.Test.YtldpamlmnganmaaMpv
import Derived.Maps.Keyed
import Derived.DeepKeys4
import Derived.Sort.KeysCollected
import Derived.Lib.SlKeysI
namespace Go.Proofs.Ytldpamlmnganmaa.FL
open Go.ChangeShapes Go.WideShapes Go.ChangeAt Go.RowKit Go.Maps Go.ChangeMaps
open Go.Proofs.Ytldpamlmnganmaa.SL
set_option maxRecDepth 100000
set_option linter.unusedVariables false
set_option linter.unusedSimpArgs false

abbrev kC (k : Ky) : Array Value := #[.string k.1, .string k.2.1, .int .i64 k.2.2.1, .string k.2.2.2]
abbrev kyV (k : Ky) : Value := .agg (kC k)
theorem laidK : laidOutB Try.prog = true := by kernel_rfl
theorem kK : Keyed Try.prog 30 := Keyed.of_law (deep_law_laid laidK (m := 2) (by omega) (of_decide_eq_true (by kernel_rfl)) (by kernel_rfl) (by kernel_rfl))
theorem iK : Keyed Try.prog 3 := int_keyed Try.underlying3
/-- how a key is told -/
def kyL (k : Ky) : Lit := .string (keyBytes [.string k.1.data.toList, .string k.2.1.data.toList, .int .i64 k.2.2.1, .string k.2.2.2.data.toList])
theorem cellsS : Try.prog.cellsOf 9 = 1 := by kernel_rfl
theorem cellsI : Try.prog.cellsOf 3 = 1 := by kernel_rfl
theorem cellsK : Try.prog.cellsOf 30 = 4 := by kernel_rfl
theorem keyK (k : Ky) (h : FitK k) : keyOf Try.prog 30 (kyV k) = some (kyL k) := by
  obtain ⟨db, ro, fm, no⟩ := k
  obtain ⟨h1, h2, h3, h4, h5⟩ := h
  simp only at h1 h2 h3 h4 h5
  obtain ⟨d, hd⟩ : ∃ d, Try.prog.types.size = d + 1 := ⟨Try.prog.types.size - 1, by kernel_rfl⟩
  have ht : (Try.prog.keyType 30 && (kyV (db, ro, fm, no)).formed Try.prog 30) = true := by
    rw [show Try.prog.keyType 30 = true by kernel_rfl]
    unfold Value.formed
    simp [Try.underlying30, cellsK]
  have hw : (Lit.int IntKind.i64 fm).wf = true := by
    simp [Lit.wf, IntKind.min, IntKind.max, IntKind.signed, IntKind.bits]; omega
  have m1 : db.size ≤ maxLen := by unfold maxLen; omega
  have m2 : ro.size ≤ maxLen := by unfold maxLen; omega
  have m3 : no.size ≤ maxLen := by unfold maxLen; omega
  have hk : Try.prog.keyLits (Try.prog.types.size + 1) 30 (kyV (db, ro, fm, no)).cells.toList = some [.string db.data.toList, .string ro.data.toList, .int .i64 fm, .string no.data.toList] := by
    rw [hd]
    simp [Program.keyLits, Try.underlying30, Try.underlying9, Try.underlying3, cellsS, cellsI, cellsK, Value.cells, hw, m1, m2, m3]
  unfold keyOf
  rw [Try.underlying30]
  simp only
  rw [if_pos ht, hk]
  rfl
theorem kyL_inj {j k : Ky} (hj : FitK j) (hk : FitK k) (h : kyL j = kyL k) : j = k := by
  have h1 := keyK j hj
  have h2 := keyK k hk
  rw [h] at h1
  have := kK.inj h1 h2
  obtain ⟨a, b, c, d⟩ := j
  obtain ⟨a', b', c', d'⟩ := k
  simp [kyV, kC] at this
  obtain ⟨rfl, rfl, rfl, rfl⟩ := this
  rfl
theorem kyL_key (k : Ky) : WideAt.IsKeyLit (kyL k) := trivial
theorem keyI (n : Int) (h : I9 n) : keyOf Try.prog 3 (.int .i64 n) = some (.int .i64 n) := by
  obtain ⟨h1, h2⟩ := h
  have hw : (Lit.int IntKind.i64 n).wf = true := by
    simp [Lit.wf, IntKind.min, IntKind.max, IntKind.signed, IntKind.bits]; omega
  unfold keyOf
  rw [Try.underlying3]
  simp only [mapKey]
  simp [hw]
open Classical in
/-- a function of keys, as one of what is told -/
noncomputable def fK (g : Ky → Option Value) : Lit → Option Value := fun kl => if h : ∃ k, FitK k ∧ kyL k = kl then g h.choose else none
theorem fK_at (g : Ky → Option Value) (k : Ky) (hk : FitK k) : fK g (kyL k) = g k := by
  unfold fK
  have h : ∃ x, FitK x ∧ kyL x = kyL k := ⟨k, hk, rfl⟩
  rw [dif_pos h, kyL_inj h.choose_spec.1 hk h.choose_spec.2]
theorem fK_some {g : Ky → Option Value} {kl : Lit} (h : (fK g kl).isSome = true) : ∃ k, FitK k ∧ kyL k = kl ∧ (g k).isSome = true := by
  unfold fK at h
  by_cases e : ∃ x, FitK x ∧ kyL x = kl
  · rw [dif_pos e] at h
    exact ⟨e.choose, e.choose_spec.1, e.choose_spec.2, h⟩
  · rw [dif_neg e] at h; cases h
open Classical in
theorem fK_put (g : Ky → Option Value) (k : Ky) (hk : FitK k) (v : Option Value) (kl : Lit) : (if kl = kyL k then v else fK g kl) = fK (fun x => if x = k then v else g x) kl := by
  by_cases e : kl = kyL k
  · subst e
    rw [if_pos rfl, fK_at _ k hk, if_pos rfl]
  · rw [if_neg e]
    unfold fK
    by_cases h : ∃ x, FitK x ∧ kyL x = kl
    · rw [dif_pos h, dif_pos h]
      exact (if_neg fun h2 => e (by rw [← h.choose_spec.2, h2])).symm
    · rw [dif_neg h, dif_neg h]
theorem fI_some {g : Int → Option Value} {kl : Lit} (h : (MV.fI g kl).isSome = true) : ∃ n, kl = .int .i64 n ∧ (g n).isSome = true := by
  unfold MV.fI at h
  split at h
  · exact ⟨_, rfl, h⟩
  · cases h
/-- how many entries a map has, by a list of its keys -/
theorem mapV_len {P : Program} {K t e : TypeId} {w : World} {b n : Nat} {f : Lit → Option Value} (h : MV.MapV P K w b n f) (hK : Keyed P K) (ht : P.underlying t = some (.map K e)) (L : List Lit) (hn : L.Nodup) (hL : ∀ kl, WideAt.IsKeyLit kl → (kl ∈ L ↔ (f kl).isSome = true)) (hk : ∀ kl ∈ L, WideAt.IsKeyLit kl) (ty : TypeId) :
    (Builtin.len_ #[t] ty #[.map (some b)]).run P w = .ok (.int .i64 (L.length : Int)) w := by
  obtain ⟨D, hm, ha⟩ := h
  obtain ⟨es, hD, hpw, hkl⟩ := hm.entries hK
  have hlen := hm.len ht ty
  subst hD
  rw [hlen]
  have hp : (es.map (·.1)).Perm L := by
    refine (List.perm_ext_iff_of_nodup (List.pairwise_map.2 hpw) hn).2 fun kl => ?_
    constructor
    · intro h1
      obtain ⟨p, hp, rfl⟩ := List.mem_map.1 h1
      refine (hL _ (hkl p hp)).2 ?_
      rw [← (ha _ (hkl p hp)).1, has_eq, List.any_eq_true]
      exact ⟨p, hp, WideAt.sameKey_self (hkl p hp)⟩
    · intro h1
      have h2 := (hL kl (hk kl h1)).1 h1
      rw [← (ha kl (hk kl h1)).1, has_eq, List.any_eq_true] at h2
      obtain ⟨p, hp, hs⟩ := h2
      exact List.mem_map.2 ⟨p, hp, WideAt.sameKey_eq hs⟩
  have := hp.length_eq
  rw [List.length_map] at this
  rw [size_eq, this]
end Go.Proofs.Ytldpamlmnganmaa.FL
