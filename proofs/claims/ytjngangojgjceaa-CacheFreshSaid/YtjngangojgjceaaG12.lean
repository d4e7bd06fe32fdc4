/- Two told lists of texts put together beside a store of slru; what Drop and Put make of plain lists. Conditions: how long.
   The document's store for slru: lists of entries, their sum, a key's place, their keys. Conditions: how many, how large.
   The document's store for slru: a key's place, a segment without a key, one with an entry ahead, keys. Conditions: how many.
   The document's store for slru: a segment without a key; a segment with an entry ahead of all. Conditions: how many.
   The document's store for slru: what it is, as plain lists; Has, Drop. Conditions: how many.
   The document's store for slru: Drop. Condition: how many.
   The document's store for slru: what its loops leave, on plain lists. No program; no condition.
   The document's store for slru: Put. Conditions: each key once, how large.
   The document's store for slru: Put of what is too small, too big; New. No condition.
   The document's store for slru: Touch of what is not there. Condition: how many.
   The code's store and the document's, one beside the other. Conditions: as each.
   The document's store for slru: Touch of what is there. Conditions: each key once, how large.
   The document's store for slru: Touch of what is there, where the kept segment may give up some. Conditions: each key once, how large.
   The document's store for slru: Touch of what is there, where the kept segment may give up some. Conditions: each key once, how large.
   The document's store for slru: Touch, whatever there is; what both stores tell, one beside the other. Conditions: each key once, how large.
   Package slru's Copy: a store of its own with the same entries. Conditions: how long keys are.
   What both stores of slru tell, one beside the other, with what a call leaves as it was; a copy in a store's place. Conditions: how many, how long. -/
import Derived.Test.YtjngangojgjceaaG6
set_option linter.unusedSimpArgs false
set_option linter.unusedVariables false
namespace Go.Proofs.Ytjngangojgjceaa.SL
open Go.ChangeShapes Go.WideShapes Go.ChangeAt Go.RowKit Go.Maps Go.ChangeMaps
set_option maxRecDepth 100000
set_option linter.unusedVariables false
set_option linter.unusedSimpArgs false

theorem run_app_nothing {P : Program} {w : World} (base : Nat) (t ty e : TypeId) (i : TypeInfo) (size : Nat) (ht : P.underlying t = some (.slice e)) (hi : P.info? e = some i)
    (v : Value) (n : Nat) (xs : List Value) (hown : w.ownsRow base e size v n xs) (p : Option Addr) (c : Nat) : (Builtin.append_ #[t, t] ty #[v, .slice p 0 c]).run P w = .ok v w := by
  have hf : (Builtin.firstCells i.size 0 (.slice p 0 c)).run P w = .ok #[] w := by
    cases p with
    | none => exact run_firstCells_none w i.size 0 0 c
    | some ad => exact run_firstCells_some w i.size 0 ad 0 c [] (by simp) (fun j v hj => by simp at hj)
  rcases hown.2 with ⟨rfl, rfl⟩ | ⟨g, cap, cur, rfl, _, _, hnc, _⟩
  · simp [Builtin.append_, run_underlying ht, sizeOf, typeInfo, hi, Builtin.lenOf, hf]
  · simp [Builtin.append_, run_underlying ht, sizeOf, typeInfo, hi, Builtin.lenOf, hf, hnc, storeCells]
section
variable {w0 w : World} {g n : Nat} {al ke mo : Int} {T K : List En} {O : List Kp}
theorem LS.grown (h : LS w0 w g n al ke mo T K O) {v : Value} {d : List ByteArray} (hp : Kp.txt v d ∈ O) {w' : World} (hgr : w.grownBy w' v.ownBlock) {v' : Value} {d' : List ByteArray} (hv : OT w0.heap.size w' v' d')
    (hq : ∀ q, v'.ownBlock = some q → v.ownBlock = some q ∨ w.heap.size ≤ q) : LS w0 w' g n al ke mo T K [.txt v' d'] := by
  obtain ⟨x, h1, h2, h3, h4, h5, h6⟩ := h
  obtain ⟨h7, h8⟩ := h6 _ hp
  have hc : Chg (fun b => v.ownBlock = some b) w w' := (Chg.refl _ w).grown hgr fun k hk _ => hk
  refine ⟨x, h1.chg hc fun b ho hs => h8 b hs ho, h2, h3, h4, below_chg h5 hc fun b hb => (World.ownsRow.lt h7 b hb).1, fun p hp => ?_⟩
  rw [List.mem_singleton.1 hp]
  refine ⟨hv, fun q hqq ho => ?_⟩
  rcases hq q hqq with e | e
  · exact h8 q e ho
  · have := h1.lt ho; omega
/-- a told list put behind a told list -/
theorem wpList_app_ls {ops : Array Oper} {rest : List Oper} {o : Oper} {a : Act} {Q : Exit → Act → World → Prop} (h : LS w0 w g n al ke mo T K O) {v : Value} {d : List ByteArray} (hp : Kp.txt v d ∈ O) {v2 : Value} {e : List ByteArray} (h2 : TS w v2 e)
    (hd : d.length + e.length ≤ 1099511627776) (hgd : o.guard = none) (s x : Operand)
    (ho : o.op = .call { callee := .builtin .append, args := #[s, x], argTypes := #[66, 66] }) (hs : a.eval s = v) (hx : a.eval x = v2)
    (hk : ∀ va c w', LS w0 w' g n al ke mo T K [.txt (.slice va (d ++ e).length c) (d ++ e)] → wpList Try.prog ops Q rest (a.put o.dst (.slice va (d ++ e).length c)) w') : wpList Try.prog ops Q (o :: rest) a w := by
  obtain ⟨i, hi, hz, hsz, hby⟩ := iStr
  have hown : OT w0.heap.size w v d := h.told hp
  rcases h2 with ⟨A, cap, rfl, rfl⟩ | ⟨b, off, cap, rfl, hcap, hx2⟩
  · obtain ⟨va, vc, rfl⟩ := hown.form
    refine wpList_plain hgd fun K' hK => ?_
    have hrun := run_app_nothing (P := Try.prog) (w := w) w0.heap.size 66 o.type 9 i 1 Try.underlying66 hi _ _ _ hown A cap
    unfold Oper.wp
    simp [execOp, ho, resolve, invoke, builtin, hs, hx, hrun, Result.andThen]
    refine hK _ _ ?_
    have := hk va vc w (by rw [List.append_nil]; exact h.forget fun p hp' => by rw [List.mem_singleton.1 hp']; exact hp)
    rw [List.append_nil] at this
    exact this
  · by_cases h0 : e.length = 0
    · have e0 : e = [] := List.eq_nil_of_length_eq_zero h0
      subst e0
      obtain ⟨va, vc, rfl⟩ := hown.form
      refine wpList_plain hgd fun K' hK => ?_
      have hrun := run_app_nothing (P := Try.prog) (w := w) w0.heap.size 66 o.type 9 i 1 Try.underlying66 hi _ _ _ hown (some ⟨b, off, none⟩) cap
      unfold Oper.wp
      simp [execOp, ho, resolve, invoke, builtin, hs, hx, hrun, Result.andThen]
      refine hK _ _ ?_
      have := hk va vc w (by rw [List.append_nil]; exact h.forget fun p hp' => by rw [List.mem_singleton.1 hp']; exact hp)
      rw [List.append_nil] at this
      exact this
    · refine wpList_append_lies _ hgd s x 66 ho w0.heap.size 9 i (.string ByteArray.empty) 1 16 Try.underlying66 hi hz hsz hby rfl (by decide) v d.length (d.map bV) hs hown ⟨b, off, none⟩ e.length cap (e.map bV) hx (by simp) ?_ (by intro u hu; obtain ⟨y, _, rfl⟩ := List.mem_map.1 hu; rfl) (by omega) (by unfold maxLen; omega) (by omega) h.bel.size _ rfl ?_
      · intro j u hu
        rw [List.getElem?_map] at hu
        cases hj : e[j]? with
        | none => rw [hj] at hu; cases hu
        | some y =>
          rw [hj] at hu
          injection hu with hu
          subst hu
          rw [Addr.add_lit]
          exact hx2 j y hj
      · intro g' cap' w' o1 o2 o3 o4
        have e1 : d.length + e.length = (d ++ e).length := by rw [List.length_append]
        rw [e1] at o1 ⊢
        refine hk _ _ _ (h.grown hp o2 (v' := .slice (some ⟨g', 0, none⟩) (d ++ e).length cap') (d' := d ++ e) (by unfold OT; rw [List.map_append]; exact o1) fun q hq => ?_)
        have : q = g' := by simpa [Value.ownBlock] using hq.symm
        subst this
        rcases o3 with o3 | o3
        · exact .inl o3
        · exact .inr (by omega)
theorem wpList_app_to {ops : Array Oper} {rest : List Oper} {o : Oper} {a : Act} {Q : Exit → Act → World → Prop} (h : LS w0 w g n al ke mo T K O) {v : Value} {d : List ByteArray} (hp : Kp.txt v d ∈ O) {v2 : Value} {e : List ByteArray} (h2 : TS w v2 e) (L : List ByteArray) (hL : d ++ e = L)
    (hd : d.length + e.length ≤ 1099511627776) (hgd : o.guard = none) (s x : Operand)
    (ho : o.op = .call { callee := .builtin .append, args := #[s, x], argTypes := #[66, 66] }) (hs : a.eval s = v) (hx : a.eval x = v2)
    (hk : ∀ va c w', LS w0 w' g n al ke mo T K [.txt (.slice va L.length c) L] → wpList Try.prog ops Q rest (a.put o.dst (.slice va L.length c)) w') : wpList Try.prog ops Q (o :: rest) a w := by
  subst hL; exact wpList_app_ls h hp h2 hd hgd s x ho hs hx hk
theorem LS.nodup (h : LS w0 w g n al ke mo T K O) : (keysE T).Nodup ∧ (keysE K).Nodup := by
  obtain ⟨x, h1, rfl, rfl, _⟩ := h
  have key : ∀ L : List Nat, L.Nodup → (∀ b ∈ L, b ∈ x.T ∨ b ∈ x.K) → (keysE (en x.F L)).Nodup := by
    intro L hn hm
    have e : keysE (en x.F L) = L.map fun b => (x.F b).k := by unfold keysE en; rw [List.map_map]; rfl
    rw [e]
    exact List.pairwise_map.2 (List.Pairwise.imp_of_mem (fun ha hb hne he => hne (h1.gg.uq _ _ (hm _ ha) (hm _ hb) he)) hn)
  exact ⟨key x.T (List.nodup_cons.1 h1.gg.n0).2 (fun b hb => .inl hb), key x.K (List.nodup_cons.1 h1.gg.n1).2 fun b hb => .inr hb⟩
end
theorem mem_keys {k : ByteArray} {l : List En} (h : k ∉ keysE l) : ∀ y ∈ l, y.1 ≠ k := fun y hy e => h (e ▸ List.mem_map_of_mem hy)
theorem del_head {k : ByteArray} {z : Int} {T : List En} (h : (keysE ((k, z) :: T)).Nodup) : delE k ((k, z) :: T) = T := by
  have e : delE k ((k, z) :: T) = delE k T := by unfold delE; rw [List.filter_cons, if_neg (by simp)]
  rw [e]
  exact del_no (mem_keys (List.nodup_cons.1 h).1)
/-- a drop of the first key of both -/
theorem drop_step {T K : List En} {k : ByteArray} {R : List ByteArray} (hT : (keysE T).Nodup) (hK : (keysE K).Nodup) (hap : ∀ k, k ∈ keysE T → k ∉ keysE K) (h : keysE T ++ keysE K = k :: R) :
    keysE (delE k T) ++ keysE (delE k K) = R ∧ (hasS k T K).isSome = true := by
  cases T with
  | nil =>
    cases K with
    | nil => cases h
    | cons y K' =>
      obtain ⟨k0, z⟩ := y
      have h' : k0 :: keysE K' = k :: R := h
      injection h' with h1 h2
      subst h1
      refine ⟨?_, has_mk ⟨(k0, z), .inr (by simp), rfl⟩⟩
      rw [del_head hK, show delE k0 [] = [] from rfl]
      exact h2
  | cons y T' =>
    obtain ⟨k0, z⟩ := y
    have h' : k0 :: (keysE T' ++ keysE K) = k :: R := h
    injection h' with h1 h2
    subst h1
    refine ⟨?_, has_mk ⟨(k0, z), .inl (by simp), rfl⟩⟩
    rw [del_head hT, del_no (mem_keys (hap k0 (by simp [keysE])))]
    exact h2
theorem room_none {al z : Int} : ∀ (n : Nat) (T K : List En), (roomE al z n T K).2.2 = [] → roomE al z n T K = (T, K, [])
  | 0, T, K, _ => rfl
  | n + 1, T, K, h => by
    unfold roomE at h ⊢
    split
    · rename_i hc
      rw [if_pos hc] at h
      split
      · rename_i y hy
        rw [hy] at h
        cases h
      · rename_i hn
        rw [hn] at h
        split
        · rename_i y hy
          rw [hy] at h
          cases h
        · rfl
    · rfl
/-- a put with nothing gone: three bytes more -/
theorem put_sum {al z : Int} {k : ByteArray} {T K T2 K2 : List En} {G : List ByteArray} (hT : ∀ y ∈ T, y.1 ≠ k) (hK : ∀ y ∈ K, y.1 ≠ k) (h : putE al k z T K = ((k, z) :: T2, K2, G)) :
    (G = [] → sumE ((k, z) :: T2) + sumE K2 = sumE T + sumE K + z) ∧ (∀ y ∈ T2, y.1 ≠ k) ∧ (∀ y ∈ K2, y.1 ≠ k) := by
  unfold putE at h
  rw [del_no hT, del_no hK] at h
  injection h with h1 h2
  injection h1 with _ h1
  injection h2 with h2 h3
  have hs := room_sub (al := al) (z := z) (T.length + K.length) T K
  refine ⟨fun hG => ?_, fun y hy => hT y (hs.1 y (h1 ▸ hy)), fun y hy => hK y (hs.2 y (h2 ▸ hy))⟩
  rw [hG] at h3
  have h4 := room_none _ _ _ h3
  rw [h4] at h1 h2
  simp only at h1 h2
  rw [← h1, ← h2, sumE]
  simp only
  omega
theorem keys_emp {l : List En} (h : keysE l = []) : l = [] := List.map_eq_nil_iff.1 h
end Go.Proofs.Ytjngangojgjceaa.SL
namespace Go.Proofs.Ytjngangojgjceaa.SL
open Go.ChangeShapes Go.WideShapes Go.ChangeAt Go.RowKit Go.Maps Go.ChangeMaps
set_option maxRecDepth 100000
set_option linter.unusedVariables false
set_option linter.unusedSimpArgs false

/-- entries as cells -/
def eC : List En → List Value
  | [] => []
  | y :: l => .string y.1 :: .int .i64 y.2 :: eC l
theorem eC_len : ∀ l : List En, (eC l).length = l.length * 2
  | [] => rfl
  | y :: l => by rw [eC, List.length_cons, List.length_cons, eC_len l, List.length_cons]; omega
theorem eC_app : ∀ a b : List En, eC (a ++ b) = eC a ++ eC b
  | [], b => rfl
  | y :: a, b => by rw [List.cons_append, eC, eC_app a b]; rfl
theorem eC_at : ∀ (l : List En) (i : Nat) (y : En), l[i]? = some y → (eC l)[i * 2]? = some (.string y.1) ∧ (eC l)[i * 2 + 1]? = some (.int .i64 y.2)
  | [], i, y, h => by simp at h
  | x :: l, 0, y, h => by simp at h; subst h; exact ⟨rfl, rfl⟩
  | x :: l, i + 1, y, h => by
    have := eC_at l i y (by simpa using h)
    rw [show (i + 1) * 2 = i * 2 + 1 + 1 by omega]
    exact this
theorem eC_inv : ∀ (l : List En) (j : Nat) (u : Value), (eC l)[j]? = some u → ∃ i y, l[i]? = some y ∧ ((j = i * 2 ∧ u = .string y.1) ∨ (j = i * 2 + 1 ∧ u = .int .i64 y.2))
  | [], j, u, h => by simp [eC] at h
  | x :: l, 0, u, h => ⟨0, x, rfl, .inl ⟨rfl, by simpa [eC] using h.symm⟩⟩
  | x :: l, 1, u, h => ⟨0, x, rfl, .inr ⟨rfl, by simpa [eC] using h.symm⟩⟩
  | x :: l, j + 2, u, h => by
    obtain ⟨i, y, h1, h2⟩ := eC_inv l j u (by simpa [eC] using h)
    exact ⟨i + 1, y, by simpa using h1, by rcases h2 with ⟨h2, h3⟩ | ⟨h2, h3⟩; exact .inl ⟨by omega, h3⟩; exact .inr ⟨by omega, h3⟩⟩
theorem eC_one {l : List En} : ∀ u ∈ eC l, u.oneCell' = true := by
  intro u hu
  obtain ⟨j, hj⟩ := List.getElem?_of_mem hu
  obtain ⟨i, y, _, h | h⟩ := eC_inv l j u hj
  · rw [h.2]; rfl
  · rw [h.2]; rfl
/-- v is a slice of entries that reads as l -/
def ER (w : World) (v : Value) (l : List En) : Prop :=
  (∃ A cap, v = .slice A 0 cap ∧ l = []) ∨
  ∃ b off cap, v = .slice (some ⟨b, off, none⟩) l.length cap ∧ l.length ≤ cap ∧ ∀ (i : Nat) (y : En), l[i]? = some y → w.cell? ⟨b, off + i * 2, none⟩ = some (.string y.1) ∧ w.cell? ⟨b, off + i * 2 + 1, none⟩ = some (.int .i64 y.2)
theorem ER.below {w w' : World} {v : Value} {l : List En} (h : ER w v l) (hb : Below w.heap.size w w') : ER w' v l := by
  have hk : ∀ (p : Addr) (u : Value), w.cell? p = some u → w'.cell? p = some u := fun p u hp => (hb.cell (World.block_lt_of_cell? w p hp)).trans hp
  rcases h with h | ⟨b, off, cap, e, hc, hx⟩
  · exact .inl h
  · exact .inr ⟨b, off, cap, e, hc, fun i y hi => ⟨hk _ _ (hx i y hi).1, hk _ _ (hx i y hi).2⟩⟩
theorem ER.form {w : World} {v : Value} {l : List En} (h : ER w v l) : ∃ a cap, v = .slice a l.length cap := by
  rcases h with ⟨A, cap, rfl, rfl⟩ | ⟨b, off, cap, rfl, _⟩
  · exact ⟨_, _, rfl⟩
  · exact ⟨_, _, rfl⟩
theorem ER.inv {w : World} {v : Value} {l : List En} (h : ER w v l) (hp : 0 < l.length) : ∃ b off cap, v = .slice (some ⟨b, off, none⟩) l.length cap ∧ l.length ≤ cap ∧ ∀ (i : Nat) (y : En), l[i]? = some y → w.cell? ⟨b, off + i * 2, none⟩ = some (.string y.1) ∧ w.cell? ⟨b, off + i * 2 + 1, none⟩ = some (.int .i64 y.2) := by
  rcases h with ⟨A, cap, rfl, rfl⟩ | h
  · simp at hp
  · exact h
end Go.Proofs.Ytjngangojgjceaa.SL
namespace Go.Proofs.Ytjngangojgjceaa.SL
open Go.ChangeShapes Go.WideShapes Go.ChangeAt Go.RowKit Go.Maps Go.ChangeMaps
set_option maxRecDepth 100000
set_option linter.unusedVariables false
set_option linter.unusedSimpArgs false

theorem keysE_take {l : List En} {i : Nat} {y : En} (h : l[i]? = some y) : keysE (l.take (i + 1)) = keysE (l.take i) ++ [y.1] := by
  rw [List.take_add_one, h]; unfold keysE; rw [List.map_append]; rfl
theorem delE_take {l : List En} {i : Nat} {y : En} {k : ByteArray} (h : l[i]? = some y) : delE k (l.take (i + 1)) = if y.1 = k then delE k (l.take i) else delE k (l.take i) ++ [y] := by
  rw [List.take_add_one, h]; unfold delE; rw [List.filter_append]
  by_cases e : y.1 = k
  · rw [if_pos e]; simp [e]
  · rw [if_neg e]; simp [e]
/-- where a key stands first -/
def placeE (l : List En) (k : ByteArray) : Option Nat := l.findIdx? fun x => decide (x.1 = k)
end Go.Proofs.Ytjngangojgjceaa.SL
namespace Go.Proofs.Ytjngangojgjceaa.SL
open Go.ChangeShapes Go.WideShapes Go.ChangeAt Go.RowKit Go.Maps Go.ChangeMaps
set_option maxRecDepth 100000
set_option linter.unusedVariables false
set_option linter.unusedSimpArgs false

end Go.Proofs.Ytjngangojgjceaa.SL
namespace Go.Proofs.Ytjngangojgjceaa.SL
open Go.ChangeShapes Go.WideShapes Go.ChangeAt Go.RowKit Go.Maps Go.ChangeMaps
set_option maxRecDepth 100000
set_option linter.unusedVariables false
set_option linter.unusedSimpArgs false

theorem place_has (k : ByteArray) : ∀ l : List En, (placeE l k = none ∧ hasE k l = none) ∨ ∃ i y, placeE l k = some i ∧ l[i]? = some y ∧ hasE k l = some y.2
  | [] => .inl ⟨rfl, rfl⟩
  | x :: l => by
    by_cases e : x.1 = k
    · refine .inr ⟨0, x, ?_, rfl, ?_⟩
      · unfold placeE; rw [List.findIdx?_cons]; simp [e]
      · unfold hasE; rw [List.find?_cons_of_pos (by simp [e])]; rfl
    · have e1 : placeE (x :: l) k = (placeE l k).map (· + 1) := by unfold placeE; rw [List.findIdx?_cons]; simp [e]
      have e2 : hasE k (x :: l) = hasE k l := by unfold hasE; rw [List.find?_cons_of_neg (by simp [e])]
      rw [e1, e2]
      rcases place_has k l with ⟨h1, h2⟩ | ⟨i, y, h1, h2, h3⟩
      · exact .inl ⟨by rw [h1]; rfl, h2⟩
      · exact .inr ⟨i + 1, y, by rw [h1]; rfl, by simpa using h2, h3⟩
section
variable {w0 w w' : World} {g : Nat} {al ke mo : Int} {T K : List En}
end
end Go.Proofs.Ytjngangojgjceaa.SL
namespace Go.Proofs.Ytjngangojgjceaa.SL
open Go.ChangeShapes Go.WideShapes Go.ChangeAt Go.RowKit Go.Maps Go.ChangeMaps
set_option maxRecDepth 100000
set_option linter.unusedVariables false
set_option linter.unusedSimpArgs false

theorem hasV_form (o : Option Int) : ∃ z, HasV o = .tuple #[.int .i64 z, .bool o.isSome] := by
  cases o with
  | none => exact ⟨_, rfl⟩
  | some z => exact ⟨_, rfl⟩
end Go.Proofs.Ytjngangojgjceaa.SL
namespace Go.Proofs.Ytjngangojgjceaa.SL
open Go.ChangeShapes Go.WideShapes Go.ChangeAt Go.RowKit Go.Maps Go.ChangeMaps
set_option maxRecDepth 100000
set_option linter.unusedVariables false
set_option linter.unusedSimpArgs false

/-- each key once -/
structure UK (T K : List En) : Prop where
  t : (keysE T).Nodup
  k : (keysE K).Nodup
  ap : ∀ k, k ∈ keysE T → k ∉ keysE K
theorem UK.swap {T K : List En} (h : UK T K) : UK K T := ⟨h.k, h.t, fun k h1 h2 => h.ap k h2 h1⟩
theorem keysE_app (a b : List En) : keysE (a ++ b) = keysE a ++ keysE b := by unfold keysE; rw [List.map_append]
theorem delE_app (k : ByteArray) (a b : List En) : delE k (a ++ b) = delE k a ++ delE k b := by unfold delE; rw [List.filter_append]
theorem UK.last {T K : List En} (h : UK T K) {x : En} (hx : T.getLast? = some x) : delE x.1 T = T.dropLast ∧ delE x.1 K = K ∧ UK T.dropLast K := by
  have e := last_app hx
  have ht := h.t
  rw [e, keysE_app] at ht
  have hn := List.nodup_append.1 ht
  have hx0 : x.1 ∈ keysE T := by rw [e, keysE_app]; exact List.mem_append.2 (.inr (by simp [keysE]))
  refine ⟨?_, del_no (mem_keys (h.ap _ hx0)), ⟨hn.1, h.k, fun k hk => h.ap k (by rw [e, keysE_app]; exact List.mem_append.2 (.inl hk))⟩⟩
  have e1 : delE x.1 T.dropLast = T.dropLast := del_no (mem_keys fun hk => hn.2.2 x.1 hk x.1 (by simp [keysE]) rfl)
  have e2 : delE x.1 [x] = [] := by unfold delE; rw [List.filter_cons, if_neg (by simp)]; rfl
  calc delE x.1 T = delE x.1 (T.dropLast ++ [x]) := by rw [← e]
    _ = T.dropLast := by rw [delE_app, e1, e2, List.append_nil]
theorem UK.lastK {T K : List En} (h : UK T K) {x : En} (hx : K.getLast? = some x) : delE x.1 K = K.dropLast ∧ delE x.1 T = T ∧ UK T K.dropLast := by
  obtain ⟨h1, h2, h3⟩ := h.swap.last hx
  exact ⟨h1, h2, h3.swap⟩
theorem UK.del {T K : List En} (h : UK T K) (k : ByteArray) : UK (delE k T) (delE k K) := by
  have hs : ∀ l : List En, (keysE (delE k l)).Sublist (keysE l) := fun l => (List.filter_sublist).map _
  exact ⟨h.t.sublist (hs T), h.k.sublist (hs K), fun q hq hq2 => h.ap q ((hs T).subset hq) ((hs K).subset hq2)⟩
theorem LS.uk {w0 w : World} {g n : Nat} {al ke mo : Int} {T K : List En} {O : List Kp} (h : LS w0 w g n al ke mo T K O) : UK T K := ⟨h.nodup.1, h.nodup.2, h.apart⟩
/-- a round of the document's loop that makes room -/
theorem room_T {al z : Int} {T K : List En} {x : En} (n : Nat) (hc : al < sumE T + sumE K + z) (hx : T.getLast? = some x) : roomE al z (n + 1) T K = ((roomE al z n T.dropLast K).1, (roomE al z n T.dropLast K).2.1, x.1 :: (roomE al z n T.dropLast K).2.2) := by
  conv => lhs; unfold roomE
  rw [if_pos hc, hx]
theorem room_K {al z : Int} {K : List En} {x : En} (n : Nat) (hc : al < sumE [] + sumE K + z) (hx : K.getLast? = some x) : roomE al z (n + 1) [] K = ((roomE al z n [] K.dropLast).1, (roomE al z n [] K.dropLast).2.1, x.1 :: (roomE al z n [] K.dropLast).2.2) := by
  conv => lhs; unfold roomE
  rw [if_pos hc]
  simp only [List.getLast?_nil, hx]
/-- a round of the document's loop that shrinks the kept segment -/
theorem shr_K {ke : Int} {T K : List En} {x : En} (n : Nat) (hc : ke < sumE K) (hx : K.getLast? = some x) : shrE ke (n + 1) T K = ((shrE ke n (x :: T) K.dropLast).1, (shrE ke n (x :: T) K.dropLast).2.1, x.1 :: (shrE ke n (x :: T) K.dropLast).2.2) := by
  conv => lhs; unfold shrE
  rw [if_pos hc, hx]
theorem shr_no {ke : Int} {T K : List En} (h : sumE K ≤ ke) : ∀ n, shrE ke n T K = (T, K, [])
  | 0 => rfl
  | n + 1 => by unfold shrE; rw [if_neg (by omega)]
end Go.Proofs.Ytjngangojgjceaa.SL
namespace Go.Proofs.Ytjngangojgjceaa.SL
open Go.ChangeShapes Go.WideShapes Go.ChangeAt Go.RowKit Go.Maps Go.ChangeMaps
set_option maxRecDepth 100000
set_option linter.unusedVariables false
set_option linter.unusedSimpArgs false

theorem OT.ty {B : Nat} {w : World} {v : Value} {d : List ByteArray} (h : OT B w v d) : ∀ b, v.ownBlock = some b → B ≤ b ∧ ∃ cur fz, w.heap[b]? = some (.cells cur 9 fz) := by
  intro b hb
  rcases h.2 with ⟨rfl, _⟩ | ⟨q, cap, cur, rfl, hbb, hg, hr⟩
  · cases hb
  · injection hb with hb
    subst hb
    exact ⟨hbb, cur, _, hg⟩
theorem sum_dl {l : List En} (h : posE l) : sumE l.dropLast ≤ sumE l := by
  cases hl : l.getLast? with
  | none => rw [List.getLast?_eq_none_iff.1 hl]; exact Int.le_refl _
  | some x =>
    have e := last_app hl
    have := congrArg sumE e
    rw [sum_app, sumE, sumE] at this
    have := h x (List.mem_of_getLast? hl)
    omega
theorem posE.dl {l : List En} (h : posE l) : posE l.dropLast := fun y hy => h y (List.dropLast_subset _ hy)
theorem last_at {l : List En} {x : En} (h : l.getLast? = some x) : ∃ m, l.length = m + 1 ∧ l[m]? = some x ∧ l.dropLast.length = m := by
  have e := last_app h
  refine ⟨l.dropLast.length, ?_, ?_, rfl⟩
  · have := congrArg List.length e
    rw [List.length_append] at this
    simpa using this
  · have : (l.dropLast ++ [x])[l.dropLast.length]? = some x := by simp
    rwa [← e] at this
end Go.Proofs.Ytjngangojgjceaa.SL
namespace Go.Proofs.Ytjngangojgjceaa.SL
open Go.ChangeShapes Go.WideShapes Go.ChangeAt Go.RowKit Go.Maps Go.ChangeMaps
set_option maxRecDepth 100000
set_option linter.unusedVariables false
set_option linter.unusedSimpArgs false

end Go.Proofs.Ytjngangojgjceaa.SL
namespace Go.Proofs.Ytjngangojgjceaa.SL
open Go.ChangeShapes Go.WideShapes Go.ChangeAt Go.RowKit Go.Maps Go.ChangeMaps
set_option maxRecDepth 100000
set_option linter.unusedVariables false
set_option linter.unusedSimpArgs false

end Go.Proofs.Ytjngangojgjceaa.SL
namespace Go.Proofs.Ytjngangojgjceaa.SL
open Go.ChangeShapes Go.WideShapes Go.ChangeAt Go.RowKit Go.Maps Go.ChangeMaps
set_option maxRecDepth 100000
set_option linter.unusedVariables false
set_option linter.unusedSimpArgs false

/-- blocks of other types are none of the store's -/
theorem St.other {w : World} {g n : Nat} {al ke mo : Int} {x : Sx} (h : St w g n al ke mo x) {b : Nat} {cur : Array Value} {t : TypeId} {fz : Nat × Nat} (hb : w.heap[b]? = some (.cells cur t fz)) (h1 : t ≠ 110) (h2 : t ≠ 124) : ¬ x.own g b := by
  intro ho
  rcases ho with rfl | rfl | ho
  · have := h.bk
    unfold Bk at this
    rw [hb] at this
    injection this with this
    injection this with _ ht
    exact h1 ht
  · obtain ⟨D, ⟨es, clock, hm, _⟩, _⟩ := h.mp
    rw [hb] at hm
    cases hm
  · have := h.nn b ho
    unfold Bk at this
    rw [hb] at this
    injection this with this
    injection this with _ ht
    exact h2 ht
def RSo (g : Nat) (v1 v2 : Value) (b : Nat) : Prop := b = g ∨ v1.ownBlock = some b ∨ v2.ownBlock = some b
section
variable {w0 w w' : World} {g n r : Nat} {al ke mo : Int} {T K T' K' : List En} {O : List Kp}
abbrev two (a v : Value) : Value := .tuple #[v, a]
end
end Go.Proofs.Ytjngangojgjceaa.SL
namespace Go.Proofs.Ytjngangojgjceaa.SL
open Go.ChangeShapes Go.WideShapes Go.ChangeAt Go.RowKit Go.Maps Go.ChangeMaps
set_option maxRecDepth 100000
set_option linter.unusedVariables false
set_option linter.unusedSimpArgs false

end Go.Proofs.Ytjngangojgjceaa.SL
namespace Go.Proofs.Ytjngangojgjceaa.SL
open Go.ChangeShapes Go.WideShapes Go.ChangeAt Go.RowKit Go.Maps Go.ChangeMaps
set_option maxRecDepth 100000
set_option linter.unusedVariables false
set_option linter.unusedSimpArgs false

theorem key_del (k : ByteArray) (l : List En) : k ∉ keysE (delE k l) := fun h => by
  obtain ⟨y, hy, e⟩ := List.mem_map.1 h
  have := (List.mem_filter.1 hy).2
  simp at this
  exact this e
theorem UK.ins {T K : List En} (h : UK T K) (k : ByteArray) (z : Int) : UK (delE k T) ((k, z) :: delE k K) := by
  have hd := h.del k
  refine ⟨hd.t, ?_, fun q hq hq2 => ?_⟩
  · show (k :: keysE (delE k K)).Nodup
    exact List.nodup_cons.2 ⟨key_del k K, hd.k⟩
  · rcases List.mem_cons.1 (show q ∈ k :: keysE (delE k K) from hq2) with rfl | hq2
    · exact key_del _ _ hq
    · exact hd.ap q hq hq2
theorem UK.mv {T K : List En} (h : UK T K) {x : En} (hx : K.getLast? = some x) : UK (x :: T) K.dropLast := by
  obtain ⟨e1, e2, h3⟩ := h.lastK hx
  refine ⟨?_, h3.k, fun q hq hq2 => ?_⟩
  · show (x.1 :: keysE T).Nodup
    exact List.nodup_cons.2 ⟨fun hm => h.ap _ hm (List.mem_map_of_mem (List.mem_of_getLast? hx)), h.t⟩
  · rcases List.mem_cons.1 (show q ∈ x.1 :: keysE T from hq) with rfl | hq
    · rw [← e1] at hq2
      exact key_del _ _ hq2
    · exact h3.ap q hq hq2
theorem sum_mv {K : List En} {x : En} (hx : K.getLast? = some x) : sumE K = sumE K.dropLast + x.2 := by
  have := congrArg sumE (last_app hx)
  rw [sum_app, sumE, sumE] at this
  omega
end Go.Proofs.Ytjngangojgjceaa.SL
namespace Go.Proofs.Ytjngangojgjceaa.SL
open Go.ChangeShapes Go.WideShapes Go.ChangeAt Go.RowKit Go.Maps Go.ChangeMaps
set_option maxRecDepth 100000
set_option linter.unusedVariables false
set_option linter.unusedSimpArgs false

end Go.Proofs.Ytjngangojgjceaa.SL
namespace Go.Proofs.Ytjngangojgjceaa.SL
open Go.ChangeShapes Go.WideShapes Go.ChangeAt Go.RowKit Go.Maps Go.ChangeMaps
set_option maxRecDepth 100000
set_option linter.unusedVariables false
set_option linter.unusedSimpArgs false

theorem posE.ins {l : List En} (h : posE l) (k : ByteArray) {z : Int} (hz : 1 ≤ z) : posE ((k, z) :: delE k l) := fun y hy => by
  rcases List.mem_cons.1 hy with rfl | hy
  · exact hz
  · exact h.del k y hy
theorem hasS_t {k : ByteArray} {T K : List En} {y : Int} (h : hasE k T = some y) : hasS k T K = some y := by unfold hasS; rw [h]; rfl
theorem hasS_k {k : ByteArray} {T K : List En} (h : hasE k T = none) : hasS k T K = hasE k K := by unfold hasS; rw [h]; rfl
/-- the parts of what is told when a key that is there is used -/
theorem touch_parts {T K : List En} (hT : posE T) (hK : posE K) {k : ByteArray} {z : Int} (hz : hasS k T K = some z) :
    1 ≤ z ∧ sumE (delE k T) + (z + sumE (delE k K)) ≤ sumE T + sumE K ∧ (hasE k T = none → z ≤ sumE K) := by
  obtain ⟨t1, t2⟩ := sum_del_has (k := k) hT
  obtain ⟨k1, k2⟩ := sum_del_has (k := k) hK
  have hn := sum_nonneg (hK.del k)
  cases ht : hasE k T with
  | none =>
    rw [hasS_k ht] at hz
    have := k1 z hz
    exact ⟨has_pos hK hz, by omega, fun _ => by omega⟩
  | some y =>
    rw [hasS_t ht] at hz
    injection hz with hz
    subst hz
    have := t1 y ht
    exact ⟨has_pos hT ht, by omega, fun h => by cases h⟩
section
variable {w0 w w' : World} {g n r : Nat} {al ke mo : Int} {T K T' K' : List En} {O : List Kp}
end
end Go.Proofs.Ytjngangojgjceaa.SL
namespace Go.Proofs.Ytjngangojgjceaa.SL
open Go.ChangeShapes Go.WideShapes Go.ChangeAt Go.RowKit Go.Maps Go.ChangeMaps
set_option maxRecDepth 100000
set_option linter.unusedVariables false
set_option linter.unusedSimpArgs false

/-- a copy under way: it lies in memory made since w -/
def CpS (w wx : World) (gc : Nat) (al ke mo : Int) (T K : List En) : Prop :=
  ∃ n x, St wx gc n al ke mo x ∧ x.tE = T ∧ x.kE = K ∧ (∀ b, x.own gc b → w.heap.size ≤ b) ∧ Below w.heap.size w wx ∧ n = T.length + K.length
theorem CpS.bel {w wx : World} {gc : Nat} {al ke mo : Int} {T K : List En} (h : CpS w wx gc al ke mo T K) : Below w.heap.size w wx := by obtain ⟨_, _, _, _, _, _, h, _⟩ := h; exact h
theorem CpS.below {w wx wy : World} {gc : Nat} {al ke mo : Int} {T K : List En} (h : CpS w wx gc al ke mo T K) (hb : Below wx.heap.size wx wy) : CpS w wy gc al ke mo T K := by
  obtain ⟨n, x, h1, h2, h3, h4, h5, h6⟩ := h
  exact ⟨n, x, h1.below hb, h2, h3, h4, h5.trans (hb.mono h5.size), h6⟩
theorem St.none_of {w : World} {g n : Nat} {al ke mo : Int} {x : Sx} (h : St w g n al ke mo x) {k : ByteArray} (h1 : k ∉ keysE x.tE) (h2 : k ∉ keysE x.kE) : x.f k = none := by
  cases hf : x.f k with
  | none => rfl
  | some b =>
    exfalso
    obtain ⟨hb, hk⟩ := (h.lk k b).1 hf
    rcases hb with hb | hb
    · exact h1 (List.mem_map.2 ⟨((x.F b).k, (x.F b).z), List.mem_map.2 ⟨b, hb, rfl⟩, hk⟩)
    · exact h2 (List.mem_map.2 ⟨((x.F b).k, (x.F b).z), List.mem_map.2 ⟨b, hb, rfl⟩, hk⟩)
theorem CpS.addT {w wx : World} {gc : Nat} {al ke mo : Int} {T K : List En} (h : CpS w wx gc al ke mo T K) (k : ByteArray) (hk : k.size ≤ 281474976710656) (z : Int) (hz : 1 ≤ z) (h1 : k ∉ keysE T) (h2 : k ∉ keysE K) (hl : sumE T + sumE K + z ≤ 1073741824) :
    Calls Try.prog 55 #[ptr gc, .agg #[.string k, .int .i64 z], .int .i64 0] wx (RetP fun w' => CpS w w' gc al ke mo ((k, z) :: T) K) := by
  obtain ⟨n, x, s1, rfl, rfl, s4, s5, s6⟩ := h
  have hlen := s1.len
  refine (add_T wx gc n al ke mo x s1 k hk (s1.none_of h1 h2) z hz hl (by omega)).mono ?_
  rintro e w' ⟨rfl, x', q1, q2, q3, q4, q5⟩
  refine ⟨rfl, n + 1, x', q1, q2, q3, fun b hb => (q4 b hb).elim (s4 b) fun h => Nat.le_trans s5.size h, below_chg s5 q5 s4, ?_⟩
  rw [List.length_cons]; omega
theorem CpS.addK {w wx : World} {gc : Nat} {al ke mo : Int} {T K : List En} (h : CpS w wx gc al ke mo T K) (k : ByteArray) (hk : k.size ≤ 281474976710656) (z : Int) (hz : 1 ≤ z) (h1 : k ∉ keysE T) (h2 : k ∉ keysE K) (hl : sumE T + sumE K + z ≤ 1073741824) :
    Calls Try.prog 55 #[ptr gc, .agg #[.string k, .int .i64 z], .int .i64 1] wx (RetP fun w' => CpS w w' gc al ke mo T ((k, z) :: K)) := by
  obtain ⟨n, x, s1, rfl, rfl, s4, s5, s6⟩ := h
  have hlen := s1.len
  refine (add_K wx gc n al ke mo x s1 k hk (s1.none_of h1 h2) z hz hl (by omega)).mono ?_
  rintro e w' ⟨rfl, x', q1, q2, q3, q4, q5⟩
  refine ⟨rfl, n + 1, x', q1, q2, q3, fun b hb => (q4 b hb).elim (s4 b) fun h => Nat.le_trans s5.size h, below_chg s5 q5 s4, ?_⟩
  rw [List.length_cons]; omega
theorem snoc_form (e : Nat) (A : List Nat) : ∃ C c, e :: A = C ++ [c] := by
  rcases List.eq_nil_or_concat (e :: A) with h | ⟨C, c, h⟩
  · cases h
  · exact ⟨C, c, by simpa using h⟩
theorem ring_last {F : Nat → Nd} {e : Nat} {L : List Nat} (hl : Lnk F (e :: (L ++ [e]))) {C : List Nat} {c : Nat} (hc : e :: L = C ++ [c]) : (F e).nw = some c := by
  have e1 : e :: (L ++ [e]) = C ++ c :: [e] := by rw [← List.cons_append, hc]; simp
  rw [e1, Lnk.split] at hl
  exact hl.2.2.1
theorem St.ring2 {w : World} {g n : Nat} {al ke mo : Int} {x : Sx} (h : St w g n al ke mo x) : (keysE x.tE).Nodup ∧ (keysE x.kE).Nodup ∧ ∀ k, k ∈ keysE x.tE → k ∉ keysE x.kE := by
  have hls : LS w w g n al ke mo x.tE x.kE [] → True := fun _ => trivial
  have key : ∀ L : List Nat, keysE (en x.F L) = L.map fun b => (x.F b).k := fun L => by show ((en x.F L).map (·.1)) = _; unfold en; rw [List.map_map]; rfl
  have nd : ∀ L : List Nat, L.Nodup → (∀ b ∈ L, b ∈ x.T ∨ b ∈ x.K) → (L.map fun b => (x.F b).k).Nodup := by
    intro L hn hs
    induction L with
    | nil => exact List.nodup_nil
    | cons a L ih =>
      obtain ⟨h1, h2⟩ := List.nodup_cons.1 hn
      rw [List.map_cons]
      refine List.nodup_cons.2 ⟨fun hm => ?_, ih h2 fun b hb => hs b (List.mem_cons_of_mem _ hb)⟩
      obtain ⟨b, hb, e⟩ := List.mem_map.1 hm
      have := h.gg.uq b a (hs b (List.mem_cons_of_mem _ hb)) (hs a (List.mem_cons_self ..)) e
      subst this
      exact h1 hb
  refine ⟨?_, ?_, fun k hk hk2 => ?_⟩
  · show (keysE (en x.F x.T)).Nodup
    rw [key]; exact nd _ (List.nodup_cons.1 h.gg.n0).2 fun b hb => .inl hb
  · show (keysE (en x.F x.K)).Nodup
    rw [key]; exact nd _ (List.nodup_cons.1 h.gg.n1).2 fun b hb => .inr hb
  · have hk : k ∈ keysE (en x.F x.T) := hk
    have hk2 : k ∈ keysE (en x.F x.K) := hk2
    rw [key] at hk hk2
    obtain ⟨b, hb, e1⟩ := List.mem_map.1 hk
    obtain ⟨c, hc, e2⟩ := List.mem_map.1 hk2
    have := h.gg.uq b c (.inl hb) (.inr hc) (e1.trans e2.symm)
    subst this
    exact h.gg.ap b (.inr hb) (.inr hc)
end Go.Proofs.Ytjngangojgjceaa.SL
namespace Go.Proofs.Ytjngangojgjceaa.SL
open Go.ChangeShapes Go.WideShapes Go.ChangeAt Go.RowKit Go.Maps Go.ChangeMaps
set_option maxRecDepth 100000
set_option linter.unusedVariables false
set_option linter.unusedSimpArgs false

section
variable {w0 w w' : World} {g n r : Nat} {al ke mo : Int} {T K T' K' : List En} {O : List Kp}
end
theorem bel_drew {w w' : World} {m : Nat} (h : w' = w.drewN m) : Below w.heap.size w w' := by rw [h]; exact below_drewN _ _ _
theorem room_len {al z : Int} : ∀ (n : Nat) (T K : List En), (roomE al z n T K).2.2.length ≤ n
  | 0, T, K => Nat.le_refl _
  | n + 1, T, K => by
    unfold roomE
    split
    · split
      · simp only [List.length_cons]; exact Nat.succ_le_succ (room_len n _ _)
      · split
        · simp only [List.length_cons]; exact Nat.succ_le_succ (room_len n _ _)
        · simp
    · simp
theorem shr_len {ke : Int} : ∀ (n : Nat) (T K : List En), (shrE ke n T K).2.2.length ≤ n
  | 0, T, K => Nat.le_refl _
  | n + 1, T, K => by
    unfold shrE
    split
    · split
      · simp only [List.length_cons]; exact Nat.succ_le_succ (shr_len n _ _)
      · simp
    · simp
theorem del_len (k : ByteArray) (l : List En) : (delE k l).length ≤ l.length := List.length_filter_le _ _
theorem put_len {al : Int} {k : ByteArray} {z : Int} {T K : List En} : (putE al k z T K).2.2.length ≤ T.length + K.length := by
  have h1 := room_len (al := al) (z := z) ((delE k T).length + (delE k K).length) (delE k T) (delE k K)
  have h2 := del_len k T
  have h3 := del_len k K
  unfold putE
  simp only
  omega
theorem touch_len {ke : Int} {k : ByteArray} {z : Int} {T K : List En} : (touchE ke k z T K).2.2.length ≤ K.length + 1 := by
  have h1 := shr_len (ke := ke) ((delE k K).length + 1) (delE k T) ((k, z) :: delE k K)
  have h3 := del_len k K
  unfold touchE
  split
  · omega
  · simp
end Go.Proofs.Ytjngangojgjceaa.SL
