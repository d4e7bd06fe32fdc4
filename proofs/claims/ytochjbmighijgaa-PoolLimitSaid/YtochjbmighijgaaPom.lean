/- Package pool, gather, its words: groups acted on, what each tells. No program is walked here but an append; conditions: how many. -/
import Derived.Test.YtochjbmighijgaaPol
import Derived.Test.YtochjbmighijgaaItr
import Derived.Sort.KeysCollected
namespace Go.Proofs.Ytochjbmighijgaa.PO
open Go.ChangeShapes Go.WideShapes Go.ChangeAt Go.RowKit Go.Maps Go.ChangeMaps
open Go.Proofs.Ytochjbmighijgaa.SL Go.Proofs.Ytochjbmighijgaa.RW
open Go.Proofs.Ytochjbmighijgaa.LN (tkY tkN pu OI IS RdP)
set_option maxRecDepth 100000
set_option linter.unusedVariables false
set_option linter.unusedSimpArgs false

/-- what those groups that were gone over became -/
def actR (R : Raw) (act : Row → Row) (left : ByteArray → Bool) : Nat → Option Row := fun g => (R.rows g).map fun q => if R.gm q.name = some g ∧ left q.name = false then act q else q
/-- what those groups told that were gone over, and told something -/
def gonR (R : Raw) (out : Row → List Int) (left : ByteArray → Bool) (k : ByteArray) : Option (List Int) := (R.gm k).bind fun g => (R.rows g).bind fun q => if left k = false ∧ out q ≠ [] then some (out q) else none
section
variable {R : Raw} {act : Row → Row} {out : Row → List Int} {left : ByteArray → Bool} {k : ByteArray} {g : Nat} {q : Row}
theorem actR_none (h : ∀ k g, R.gm k = some g → left k = true) : actR R act left = R.rows := by
  funext g
  unfold actR
  cases R.rows g with
  | none => rfl
  | some q =>
    simp only [Option.map_some]
    rw [if_neg]
    rintro ⟨h1, h2⟩
    rw [h _ _ h1] at h2
    cases h2
theorem gonR_none (h : ∀ k g, R.gm k = some g → left k = true) (k : ByteArray) : gonR R out left k = none := by
  unfold gonR
  cases hg : R.gm k with
  | none => rfl
  | some g =>
    simp only [Option.bind_some]
    cases R.rows g with
    | none => rfl
    | some q =>
      simp only [Option.bind_some]
      rw [if_neg]
      rintro ⟨h1, _⟩
      rw [h _ _ hg] at h1
      cases h1
theorem actR_at (hg : R.gm k = some g) (hq : R.rows g = some q) (hn : q.name = k) (hl : left k = true) : actR R act left g = some q := by
  unfold actR
  rw [hq]
  simp only [Option.map_some]
  rw [if_neg]
  rintro ⟨_, h2⟩
  rw [hn, hl] at h2
  cases h2
theorem actR_step (hg : R.gm k = some g) (hq : R.rows g = some q) (hn : q.name = k) (left' : ByteArray → Bool) (hl : ∀ x, left' x = if x = k then false else left x) : actR R act left' = upd (actR R act left) g (some (act q)) := by
  funext x
  by_cases e : x = g
  · subst e
    rw [upd_at]
    unfold actR
    rw [hq]
    simp only [Option.map_some]
    rw [if_pos ⟨by rw [hn]; exact hg, by rw [hn, hl, if_pos rfl]⟩]
  · rw [upd_ne _ _ e]
    unfold actR
    cases hx : R.rows x with
    | none => rfl
    | some y =>
      simp only [Option.map_some]
      congr 1
      by_cases hy : y.name = k
      · have hne : ¬ R.gm y.name = some x := by rw [hy, hg]; intro h; injection h with h; exact e h.symm
        rw [if_neg (fun h => hne h.1), if_neg (fun h => hne h.1)]
      · rw [hl, if_neg hy]
theorem gonR_step (hg : R.gm k = some g) (hq : R.rows g = some q) (left' : ByteArray → Bool) (hl : ∀ x, left' x = if x = k then false else left x) (x : ByteArray) : gonR R out left' x = if x = k then (if out q ≠ [] then some (out q) else none) else gonR R out left x := by
  by_cases e : x = k
  · subst e
    rw [if_pos rfl]
    unfold gonR
    rw [hg]
    simp only [Option.bind_some]
    rw [hq]
    simp only [Option.bind_some]
    rw [hl, if_pos rfl]
    simp
  · rw [if_neg e]
    unfold gonR
    rw [hl, if_neg e]
end
theorem keyStr_inv (key : Value) (kl : Lit) (h : keyOf Try.prog 9 key = some kl) : ∃ x : ByteArray, key = .string x := by
  cases key <;> simp [keyOf, mapKey, Try.underlying9] at h
  exact ⟨_, rfl⟩
theorem keyStr_lit {x : ByteArray} {kl : Lit} (h : keyOf Try.prog 9 (.string x) = some kl) : kl = .string x.data.toList ∧ x.size ≤ maxLen := by
  simp [keyOf, mapKey, Try.underlying9] at h
  exact ⟨h.2.symm, h.1⟩
theorem rangeV_iter {P : Program} {K : TypeId} {w : World} {b r n cnt : Nat} {f : Lit → Option Value} {left : Lit → Bool} (h : MV.RangeV P K w b r n f left cnt) : ∃ m s se c, w.heap[r]? = some (.mapIter m s se c) := by
  obtain ⟨D, ⟨es, clock, since, seen, c0, hb, F, hs, hD, hr, rest⟩, ha⟩ := h
  exact ⟨_, _, _, _, hr⟩
theorem PL.iter {B : Nat} {w w' : World} {a N r : Nat} {C : Cf} {R : Raw} (h : PL B w a N C R) (hr : ∃ m s se c, w.heap[r]? = some (.mapIter m s se c)) (hg : w.grownBy w' (some r)) : PL B w' a N C R := by
  obtain ⟨M, h⟩ := h
  obtain ⟨m, s, se, c, hx⟩ := hr
  refine ⟨M, h.keep fun b hb => hg.block b (h.lt hb) (fun e => ?_)⟩
  injection e with e
  subst e
  rcases hb with rfl | rfl | rfl | rfl | rfl | ⟨g, q, hq, hb⟩
  · have := h.bk; unfold Bk at this; rw [hx] at this; cases this
  · have := h.pk; unfold Bk at this; rw [hx] at this; cases this
  · obtain ⟨es, cl, he⟩ := h.mg.obj; rw [hx] at he; cases he
  · obtain ⟨es, cl, he⟩ := h.ms.obj; rw [hx] at he; cases he
  · obtain ⟨es, cl, he⟩ := h.mn.obj; rw [hx] at he; cases he
  · exact (h.row g q hq).not_own hx (fun _ _ _ e => by cases e) hb
/-- numbers behind numbers -/
theorem wpList_app_ints {w : World} {ops : Array Oper} {rest : List Oper} {o : Oper} {a : Act} {Q : Exit → Act → World → Prop} (B : Nat) (v : Value) (d e : List Int) (b off cap : Nat) (hgd : o.guard = none) (s x : Operand)
    (ho : o.op = .call { callee := .builtin .append, args := #[s, x], argTypes := #[38, 38] }) (hs : a.eval s = v) (hown : OI B w v d) (hx : a.eval x = .slice (some ⟨b, off, none⟩) e.length cap) (hb : ∀ (i : Nat) (y : Int), e[i]? = some y → w.cell? ⟨b, off + i, none⟩ = some (nV y)) (he : 0 < e.length)
    (hd : d.length + e.length ≤ 1099511627776) (hB : B ≤ w.heap.size)
    (hk : ∀ g cap w', OI B w' (.slice (some ⟨g, 0, none⟩) (d.length + e.length) cap) (d ++ e) → w.grownBy w' v.ownBlock → wpList Try.prog ops Q rest (a.put o.dst (.slice (some ⟨g, 0, none⟩) (d.length + e.length) cap)) w') : wpList Try.prog ops Q (o :: rest) a w := by
  obtain ⟨i, hi, hz, hsz, hby⟩ := LN.iInt
  refine wpList_append_lies _ hgd s x 38 ho B 3 i (nV 0) 1 8 Try.underlying38 hi hz hsz hby rfl (by decide) v d.length (d.map nV) hs hown ⟨b, off, none⟩ e.length cap (e.map nV) hx (by rw [List.length_map, Nat.mul_one]) (fun j u hj => ?_) (by intro u hu; obtain ⟨y, _, rfl⟩ := List.mem_map.1 hu; rfl) he (by unfold maxLen; omega) (by omega) hB _ rfl ?_
  · rw [List.getElem?_map] at hj
    cases hy : e[j]? with
    | none => rw [hy] at hj; cases hj
    | some y =>
      rw [hy] at hj
      injection hj with hj
      subst hj
      rw [Addr.add_lit]
      exact hb j y hy
  intro g cap w' h1 h2 h3 h4
  refine hk g cap w' ?_ h2
  unfold OI
  rw [List.length_append, List.map_append]
  exact h1
end Go.Proofs.Ytochjbmighijgaa.PO
