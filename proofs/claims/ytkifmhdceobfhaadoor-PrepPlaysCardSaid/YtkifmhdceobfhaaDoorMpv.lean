/- Maps as functions from keys to values, whatever the values: what a lookup tells, a store, a delete, a length, a range do. No program; no condition. -/
import Derived.Test.YtkifmhdceobfhaaDoorRows
import Derived.WalkKit
import Derived.ProofKit
import Derived.Below
import Derived.Maps.OwnSet
import Derived.Maps.RangeWalk
import Derived.StringKeys
namespace Go.Proofs.YtkifmhdceobfhaaDoor.MV
open Go.ChangeShapes Go.WideShapes Go.ChangeAt Go.RowKit Go.Maps Go.ChangeMaps
open Classical
set_option maxRecDepth 100000
set_option linter.unusedVariables false
set_option linter.unusedSimpArgs false

/-- a value read as itself -/
def vE (v : Value) : Option (DataW Value × List MemPlace) := some (.held v, [])
/-- what D holds is f -/
def Agr (D : DataW Value) (f : Lit → Option Value) : Prop := ∀ kl, WideAt.IsKeyLit kl → Maps.has D kl = (f kl).isSome ∧ ∀ v, f kl = some v → ∀ zd, D.atKey kl zd = .held v
/-- the block is a map, of at most n entries, that holds f -/
def MapV (P : Program) (K : TypeId) (w : World) (b n : Nat) (f : Lit → Option Value) : Prop := ∃ D : DataW Value, w.ownsMap P K vE b n D ∧ Agr D f
section
variable {P : Program} {K : TypeId} {w w' : World} {b n : Nat} {f g : Lit → Option Value}
theorem Agr.empty : Agr (.map []) fun _ => none := fun kl _ => ⟨rfl, fun v h => by cases h⟩
theorem Agr.put {D : DataW Value} (h : Agr D f) (hm : IsMap D) {kl : Lit} (hk : WideAt.IsKeyLit kl) (v : Value) : Agr (D.put kl (.held v)) fun x => if x = kl then some v else f x := fun x hx => by
  show _ = (if x = kl then some v else f x).isSome ∧ ∀ u, (if x = kl then some v else f x) = some u → _
  by_cases e : x = kl
  · subst e
    rw [if_pos rfl]
    exact ⟨has_put_same hm hk _, fun u hu zd => by injection hu with hu; subst hu; exact atKey_put_same hm hk _ _⟩
  · rw [if_neg e]
    refine ⟨(has_put_other e _).trans (h x hx).1, fun u hu zd => ?_⟩
    rw [atKey_put_other e]; exact (h x hx).2 u hu zd
theorem Agr.del {D : DataW Value} (h : Agr D f) {kl : Lit} : Agr (D.del kl) fun x => if x = kl then none else f x := fun x hx => by
  show _ = (if x = kl then none else f x).isSome ∧ ∀ u, (if x = kl then none else f x) = some u → _
  by_cases e : x = kl
  · subst e
    rw [if_pos rfl]
    exact ⟨has_del_same, fun u hu => by cases hu⟩
  · rw [if_neg e]
    refine ⟨(has_del_other e).trans (h x hx).1, fun u hu zd => ?_⟩
    rw [atKey_del_other e]; exact (h x hx).2 u hu zd
theorem MapV.lt (h : MapV P K w b n f) : b < w.heap.size := by obtain ⟨D, h, _⟩ := h; exact h.lt
theorem MapV.obj (h : MapV P K w b n f) : ∃ es clock, w.heap[b]? = some (.map es clock) := by
  obtain ⟨D, ⟨es, clock, hb, _⟩, _⟩ := h
  exact ⟨es, clock, hb⟩
theorem MapV.made (P : Program) (K : TypeId) (w : World) : MapV P K (w.alloc (.map #[] 0)) w.heap.size 0 fun _ => none := ⟨.map [], World.ownsMap_made _ _ _ _, Agr.empty⟩
theorem MapV.keep (h : MapV P K w b n f) (e : w'.heap[b]? = w.heap[b]?) : MapV P K w' b n f := by
  obtain ⟨D, ⟨es, clock, hb, r⟩, hf⟩ := h
  exact ⟨D, ⟨es, clock, e.trans hb, r⟩, hf⟩
theorem MapV.below (h : MapV P K w b n f) (hb : Below w.heap.size w w') : MapV P K w' b n f := h.keep (hb.block b h.lt)
theorem MapV.congr (h : MapV P K w b n f) (e : ∀ k, f k = g k) : MapV P K w b n g := by rw [← show f = g from funext e]; exact h
theorem MapV.mono (h : MapV P K w b n f) {m : Nat} (hm : n ≤ m) : MapV P K w b m f := by
  obtain ⟨D, h1, h2⟩ := h
  exact ⟨D, h1.mono hm, h2⟩
theorem key_lit (hK : Keyed P K) {key : Value} {kl : Lit} (h : keyOf P K key = some kl) : WideAt.IsKeyLit kl := hK.key h
theorem held_inj {v : Value} {u : Value} {ps : List MemPlace} (h : vE v = some (.held u, ps)) : v = u := by
  unfold vE at h
  injection h with h
  injection h with h _
  injection h
/-- 'v, ok := m[k]' -/
theorem MapV.look {t e : TypeId} (h : MapV P K w b n f) (hK : Keyed P K) (ht : P.underlying t = some (.map K e)) {z : Value} (hz : (zeroValue e).run P w = .ok z w) {key : Value} {kl : Lit} (hkey : keyOf P K key = some kl) :
    (Instr.lookup t (.map (some b)) key true).run P w = .ok (.tuple #[(f kl).getD z, .bool (f kl).isSome]) w := by
  obtain ⟨D, hm, ha⟩ := h
  have hl := ha kl (hK.key hkey)
  obtain ⟨v, ps, hr, hv⟩ := hm.look_ok hK ht hz (zd := .held z) (zp := []) rfl hkey
  rw [hr, hl.1]
  congr 4
  cases hf : f kl with
  | none =>
    rw [hf] at hl
    rw [atKey_of_not_has hl.1] at hv
    exact held_inj hv
  | some u =>
    rw [hl.2 u hf] at hv
    exact held_inj hv
/-- 'm[k]' -/
theorem MapV.look1 {t e : TypeId} (h : MapV P K w b n f) (hK : Keyed P K) (ht : P.underlying t = some (.map K e)) {z : Value} (hz : (zeroValue e).run P w = .ok z w) {key : Value} {kl : Lit} (hkey : keyOf P K key = some kl) :
    (Instr.lookup t (.map (some b)) key false).run P w = .ok ((f kl).getD z) w := by
  obtain ⟨D, hm, ha⟩ := h
  have hl := ha kl (hK.key hkey)
  obtain ⟨v, ps, hr, hv⟩ := hm.lookup hK ht hz (zd := .held z) (zp := []) rfl hkey
  rw [hr]
  congr 1
  cases hf : f kl with
  | none =>
    rw [hf] at hl
    rw [atKey_of_not_has hl.1] at hv
    exact held_inj hv
  | some u =>
    rw [hl.2 u hf] at hv
    exact held_inj hv
/-- 'm[k] = v' -/
theorem MapV.put {t e : TypeId} (h : MapV P K w b n f) (hK : Keyed P K) (ht : P.underlying t = some (.map K e)) (hn : n < maxLen) {key : Value} {kl : Lit} (hkey : keyOf P K key = some kl) (v : Value) :
    ∃ w', (Instr.mapUpdate t (.map (some b)) key v).run P w = .ok () w' ∧ MapV P K w' b (n + 1) (fun x => if x = kl then some v else f x) ∧ w.mapTurned w' b := by
  obtain ⟨D, hm, ha⟩ := h
  obtain ⟨w', h1, h2, h3⟩ := hm.store hK ht hn hkey (d := .held v) (ps := []) rfl
  exact ⟨w', h1, ⟨_, h2, ha.put hm.isMap (hK.key hkey) v⟩, h3⟩
/-- 'delete(m, k)' -/
theorem MapV.drop {t e : TypeId} (h : MapV P K w b n f) (hK : Keyed P K) (ht : P.underlying t = some (.map K e)) {key : Value} {kl : Lit} (hkey : keyOf P K key = some kl) (ty : TypeId) :
    ∃ w', (Builtin.delete_ #[t, K] ty #[.map (some b), key]).run P w = .ok (.tuple #[]) w' ∧ MapV P K w' b n (fun x => if x = kl then none else f x) ∧ w.mapTurned w' b := by
  obtain ⟨D, hm, ha⟩ := h
  obtain ⟨w', h1, h2, h3⟩ := hm.drop hK ht hkey ty
  exact ⟨w', h1, ⟨_, h2, ha.del⟩, h3⟩
end
section
variable {P : Program} {w : World} {ops : Array Oper} {rest : List Oper} {o : Oper} {a : Act} {Q : Exit → Act → World → Prop} {K : TypeId} {b n : Nat} {f : Lit → Option Value}
theorem wpList_put (hg : o.guard = none) (m x v : Operand) (t : TypeId) (hop : o.op = Op.mapUpdate t m x v) (e : TypeId) (hK : Keyed P K) (ht : P.underlying t = some (.map K e)) (hm : a.eval m = .map (some b)) (h : MapV P K w b n f) (hn : n < maxLen) (key val : Value) (kl : Lit) (hx : a.eval x = key) (hv : a.eval v = val) (hkey : keyOf P K key = some kl)
    (hk : ∀ w', MapV P K w' b (n + 1) (fun x => if x = kl then some val else f x) → w.mapTurned w' b → wpList P ops Q rest (a.put o.dst (.tuple #[])) w') : wpList P ops Q (o :: rest) a w := by
  obtain ⟨D, hown, ha⟩ := h
  refine wpList_mapUpdate_in w hg m x v t hop K e hK ht vE b n D hm hown hn key val kl hx hv hkey (.held val) [] rfl fun w' h1 h2 => ?_
  exact hk w' ⟨_, h1, ha.put hown.isMap (hK.key hkey) val⟩ h2
theorem wpList_del (hg : o.guard = none) (m x : Operand) (t : TypeId) (hop : o.op = Op.call { callee := Callee.builtin Builtin.delete, args := #[m, x], argTypes := #[t, K] }) (e : TypeId) (hK : Keyed P K) (ht : P.underlying t = some (.map K e)) (hm : a.eval m = .map (some b)) (h : MapV P K w b n f) (key : Value) (kl : Lit) (hx : a.eval x = key) (hkey : keyOf P K key = some kl)
    (hk : ∀ w', MapV P K w' b n (fun x => if x = kl then none else f x) → w.mapTurned w' b → wpList P ops Q rest (a.put o.dst (.tuple #[])) w') : wpList P ops Q (o :: rest) a w := by
  obtain ⟨D, hown, ha⟩ := h
  refine wpList_delete_own w hg m x t K hop e hK ht vE b n D hm hown key kl hx hkey fun w' h1 h2 => ?_
  exact hk w' ⟨_, h1, ha.del⟩ h2
/-- a range over a map under way: which keys are still to come -/
def RangeV (P : Program) (K : TypeId) (w : World) (b r n : Nat) (f : Lit → Option Value) (left : Lit → Bool) (cnt : Nat) : Prop := ∃ D : DataW Value, w.ranges P K vE b r n D left cnt ∧ Agr D f
theorem RangeV.left_eq {r cnt : Nat} {left : Lit → Bool} (h : RangeV P K w b r n f left cnt) : w.rangeLeft b r = cnt := by obtain ⟨D, h, _⟩ := h; exact h.left_eq
theorem RangeV.map {r cnt : Nat} {left : Lit → Bool} (h : RangeV P K w b r n f left cnt) : MapV P K w b n f := by obtain ⟨D, h, ha⟩ := h; exact ⟨D, h.owns, ha⟩
theorem RangeV.kept {w' : World} {r cnt : Nat} {left : Lit → Bool} (h : RangeV P K w b r n f left cnt) (h1 : w'.heap[b]? = w.heap[b]?) (h2 : w'.heap[r]? = w.heap[r]?) : RangeV P K w' b r n f left cnt := by
  obtain ⟨D, ⟨es, clock, since, seen, c0, hb, F, hs, hD, hr, rest⟩, ha⟩ := h
  exact ⟨D, ⟨es, clock, since, seen, c0, h1.trans hb, F, hs, hD, h2.trans hr, rest⟩, ha⟩
theorem RangeV.lt {r cnt : Nat} {left : Lit → Bool} (h : RangeV P K w b r n f left cnt) : r < w.heap.size := by obtain ⟨D, h, _⟩ := h; exact h.lt
theorem RangeV.ne {r cnt : Nat} {left : Lit → Bool} (h : RangeV P K w b r n f left cnt) : r ≠ b := by obtain ⟨D, h, _⟩ := h; exact h.ne
theorem RangeV.below {w' : World} {r cnt : Nat} {left : Lit → Bool} (h : RangeV P K w b r n f left cnt) (hb : Below w.heap.size w w') : RangeV P K w' b r n f left cnt := h.kept (hb.block b h.map.lt) (hb.block r h.lt)
theorem wpList_range (hg : o.guard = none) (m : Operand) (t : TypeId) (hop : o.op = Op.range t m) (e : TypeId) (hK : Keyed P K) (ht : P.underlying t = some (.map K e)) (hm : a.eval m = .map (some b)) (h : MapV P K w b n f)
    (hk : ∀ w' cnt left, RangeV P K w' b w.heap.size n f left cnt → (∀ kl, WideAt.IsKeyLit kl → left kl = (f kl).isSome) → cnt ≤ n → w.grownBy w' none → w'.heap.size = w.heap.size + 1 → wpList P ops Q rest (a.put o.dst (.pointer (some ⟨w.heap.size, 0, none⟩))) w') : wpList P ops Q (o :: rest) a w := by
  obtain ⟨D, hown, ha⟩ := h
  exact wpList_range_own w hg m t hop K e hK ht vE b n D hm hown fun w' h1 h2 h3 => hk w' _ _ ⟨D, h1, ha⟩ (fun kl hkl => (ha kl hkl).1) hown.size_le h2 h3
theorem wpList_step {α : Type} (mkK : α → Value) (invK : ∀ key kl, keyOf P K key = some kl → ∃ x, key = mkK x) (hg : o.guard = none) (it : Operand) (hop : o.op = Op.next it false) (hK : Keyed P K) (r : Nat) (left : Lit → Bool) (cnt : Nat)
    (hit : a.eval it = .pointer (some ⟨r, 0, none⟩)) (h : RangeV P K w b r n f left cnt)
    (hDone : (∀ kl, left kl = false) → wpList P ops Q rest (a.put o.dst (.tuple #[.bool false])) w)
    (hMore : ∀ (x : α) (c : Value) (kl : Lit) (w' : World) (cnt' : Nat), keyOf P K (mkK x) = some kl → left kl = true → f kl = some c → RangeV P K w' b r n f (fun z => left z && !z.sameKey kl) cnt' → cnt' < cnt →
      w.grownBy w' (some r) → w'.heap.size = w.heap.size → (Instr.entry (.pointer (some ⟨r, 0, none⟩))).run P w' = .ok (.tuple #[mkK x, c]) w' → wpList P ops Q rest (a.put o.dst (.tuple #[.bool true, mkK x, c])) w') :
    wpList P ops Q (o :: rest) a w := by
  obtain ⟨D, hr, ha⟩ := h
  refine wpList_next_ranges w hg it hop K hK vE mkK (fun v : Value => v) invK (fun v y _ => ⟨v, rfl⟩) b r n D left cnt hit hr (fun _ h0 => hDone h0) fun x c kl y w' cnt' hkey hlk hv hat hrg hlt hgr hsz hen => ?_
  have hkl := hK.key hkey
  have hy : y.1 = .held c := by
    unfold vE at hv
    injection hv with hv
    rw [← hv]
  have hhas : Maps.has D kl = true := Maps.has_true_of_atKey hat
  have hf : f kl = some c := by
    have h1 := (ha kl hkl).1
    rw [hhas] at h1
    obtain ⟨v, hv2⟩ := Option.isSome_iff_exists.1 h1.symm
    have h2 := (ha kl hkl).2 v hv2 (.held c)
    rw [hat, hy] at h2
    injection h2 with h2
    rw [hv2, h2]
  exact hMore x c kl w' cnt' hkey hlk hf ⟨D, hrg, ha⟩ hlt hgr hsz hen
end
/-- a function of texts, as one of keys -/
def fS (g : ByteArray → Option Value) : Lit → Option Value
  | .string l => g ⟨l.toArray⟩
  | _ => none
theorem fS_at (g : ByteArray → Option Value) (x : ByteArray) : fS g (.string x.data.toList) = g x := rfl
theorem ba_of {a b : ByteArray} (h : a.data.toList = b.data.toList) : a = b := by
  obtain ⟨⟨x⟩⟩ := a
  obtain ⟨⟨y⟩⟩ := b
  simp only at h
  rw [h]
theorem fS_put (g : ByteArray → Option Value) (k : ByteArray) (v : Option Value) (kl : Lit) : (if kl = .string k.data.toList then v else fS g kl) = fS (fun x => if x = k then v else g x) kl := by
  cases kl with
  | string l =>
    show _ = if (⟨l.toArray⟩ : ByteArray) = k then v else g ⟨l.toArray⟩
    by_cases h : l = k.data.toList
    · have e : (⟨l.toArray⟩ : ByteArray) = k := ba_of (by simp [h])
      rw [if_pos (by rw [h]), if_pos e]
    · rw [if_neg (fun e => h (by injection e)), if_neg (fun e => h (by rw [← e]))]; rfl
  | _ => exact if_neg (fun e => by cases e)
/-- a function of numbers, as one of keys -/
def fI (g : Int → Option Value) : Lit → Option Value
  | .int .i64 n => g n
  | _ => none
theorem fI_put (g : Int → Option Value) (k : Int) (v : Option Value) (kl : Lit) : (if kl = .int .i64 k then v else fI g kl) = fI (fun x => if x = k then v else g x) kl := by
  cases kl with
  | int q n =>
    cases q with
    | i64 =>
      show _ = if n = k then v else g n
      by_cases h : n = k
      · subst h; rw [if_pos rfl, if_pos rfl]
      · rw [if_neg (fun e => h (by injection e)), if_neg h]; rfl
    | _ => exact if_neg (fun e => by cases e)
  | _ => exact if_neg (fun e => by cases e)
end Go.Proofs.YtkifmhdceobfhaaDoor.MV
