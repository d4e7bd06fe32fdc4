/- Two told lists of texts put together beside a store of slru; what Drop and Put make of plain lists. Conditions: how long.
   The document's store for slru: lists of entries, their sum, a key's place, their keys. Conditions: how many, how large.
   The document's store for slru: a key's place, a segment without a key, one with an entry ahead, keys. Conditions: how many.
   The document's store for slru: a segment without a key; a segment with an entry ahead of all. Conditions: how many.
   The document's store for slru: what it is, as plain lists; Has, Drop. Conditions: how many.
   The document's store for slru: Drop. Condition: how many.
   The document's store for slru: what its loops leave, on plain lists. No program; no condition.
   The document's store for slru: Put. Conditions: each key once, how large.
   The document's store for slru: Put of what is too small, too big; New. No condition.
   The document's store for slru: Touch of what is not there. Condition: how many.
   The code's store and the document's, one beside the other. Conditions: as each.
   The document's store for slru: Touch of what is there. Conditions: each key once, how large.
   The document's store for slru: Touch of what is there, where the kept segment may give up some. Conditions: each key once, how large.
   The document's store for slru: Touch of what is there, where the kept segment may give up some. Conditions: each key once, how large.
   The document's store for slru: Touch, whatever there is; what both stores tell, one beside the other. Conditions: each key once, how large.
   Package slru's Copy: a store of its own with the same entries. Conditions: how long keys are.
   What both stores of slru tell, one beside the other, with what a call leaves as it was; a copy in a store's place. Conditions: how many, how long. -/
import Derived.Test.YtjngangojgjceaaGreatG6
set_option linter.unusedSimpArgs false
set_option linter.unusedVariables false
namespace Go.Proofs.YtjngangojgjceaaGreat.SL
open Go.ChangeShapes Go.WideShapes Go.ChangeAt Go.RowKit Go.Maps Go.ChangeMaps
set_option maxRecDepth 100000
set_option linter.unusedVariables false
set_option linter.unusedSimpArgs false

theorem run_app_nothing {P : Program} {w : World} (base : Nat) (t ty e : TypeId) (i : TypeInfo) (size : Nat) (ht : P.underlying t = some (.slice e)) (hi : P.info? e = some i)
    (v : Value) (n : Nat) (xs : List Value) (hown : w.ownsRow base e size v n xs) (p : Option Addr) (c : Nat) : (Builtin.append_ #[t, t] ty #[v, .slice p 0 c]).run P w = .ok v w := by
  have hf : (Builtin.firstCells i.size 0 (.slice p 0 c)).run P w = .ok #[] w := by
    cases p with
    | none => exact run_firstCells_none w i.size 0 0 c
    | some ad => exact run_firstCells_some w i.size 0 ad 0 c [] (by simp) (fun j v hj => by simp at hj)
  rcases hown.2 with ⟨rfl, rfl⟩ | ⟨g, cap, cur, rfl, _, _, hnc, _⟩
  · simp [Builtin.append_, run_underlying ht, sizeOf, typeInfo, hi, Builtin.lenOf, hf]
  · simp [Builtin.append_, run_underlying ht, sizeOf, typeInfo, hi, Builtin.lenOf, hf, hnc, storeCells]
section
variable {w0 w : World} {g n : Nat} {al ke mo : Int} {T K : List En} {O : List Kp}
theorem LS.grown (h : LS w0 w g n al ke mo T K O) {v : Value} {d : List ByteArray} (hp : Kp.txt v d ∈ O) {w' : World} (hgr : w.grownBy w' v.ownBlock) {v' : Value} {d' : List ByteArray} (hv : OT w0.heap.size w' v' d')
    (hq : ∀ q, v'.ownBlock = some q → v.ownBlock = some q ∨ w.heap.size ≤ q) : LS w0 w' g n al ke mo T K [.txt v' d'] := by
  obtain ⟨x, h1, h2, h3, h4, h5, h6⟩ := h
  obtain ⟨h7, h8⟩ := h6 _ hp
  have hc : Chg (fun b => v.ownBlock = some b) w w' := (Chg.refl _ w).grown hgr fun k hk _ => hk
  refine ⟨x, h1.chg hc fun b ho hs => h8 b hs ho, h2, h3, h4, below_chg h5 hc fun b hb => (World.ownsRow.lt h7 b hb).1, fun p hp => ?_⟩
  rw [List.mem_singleton.1 hp]
  refine ⟨hv, fun q hqq ho => ?_⟩
  rcases hq q hqq with e | e
  · exact h8 q e ho
  · have := h1.lt ho; omega
/-- a told list put behind a told list -/
theorem wpList_app_ls {ops : Array Oper} {rest : List Oper} {o : Oper} {a : Act} {Q : Exit → Act → World → Prop} (h : LS w0 w g n al ke mo T K O) {v : Value} {d : List ByteArray} (hp : Kp.txt v d ∈ O) {v2 : Value} {e : List ByteArray} (h2 : TS w v2 e)
    (hd : d.length + e.length ≤ 1099511627776) (hgd : o.guard = none) (s x : Operand)
    (ho : o.op = .call { callee := .builtin .append, args := #[s, x], argTypes := #[80, 80] }) (hs : a.eval s = v) (hx : a.eval x = v2)
    (hk : ∀ va c w', LS w0 w' g n al ke mo T K [.txt (.slice va (d ++ e).length c) (d ++ e)] → wpList Tryz.prog ops Q rest (a.put o.dst (.slice va (d ++ e).length c)) w') : wpList Tryz.prog ops Q (o :: rest) a w := by
  obtain ⟨i, hi, hz, hsz, hby⟩ := iStr
  have hown : OT w0.heap.size w v d := h.told hp
  rcases h2 with ⟨A, cap, rfl, rfl⟩ | ⟨b, off, cap, rfl, hcap, hx2⟩
  · obtain ⟨va, vc, rfl⟩ := hown.form
    refine wpList_plain hgd fun K' hK => ?_
    have hrun := run_app_nothing (P := Tryz.prog) (w := w) w0.heap.size 80 o.type 9 i 1 Tryz.underlying80 hi _ _ _ hown A cap
    unfold Oper.wp
    simp [execOp, ho, resolve, invoke, builtin, hs, hx, hrun, Result.andThen]
    refine hK _ _ ?_
    have := hk va vc w (by rw [List.append_nil]; exact h.forget fun p hp' => by rw [List.mem_singleton.1 hp']; exact hp)
    rw [List.append_nil] at this
    exact this
  · by_cases h0 : e.length = 0
    · have e0 : e = [] := List.eq_nil_of_length_eq_zero h0
      subst e0
      obtain ⟨va, vc, rfl⟩ := hown.form
      refine wpList_plain hgd fun K' hK => ?_
      have hrun := run_app_nothing (P := Tryz.prog) (w := w) w0.heap.size 80 o.type 9 i 1 Tryz.underlying80 hi _ _ _ hown (some ⟨b, off, none⟩) cap
      unfold Oper.wp
      simp [execOp, ho, resolve, invoke, builtin, hs, hx, hrun, Result.andThen]
      refine hK _ _ ?_
      have := hk va vc w (by rw [List.append_nil]; exact h.forget fun p hp' => by rw [List.mem_singleton.1 hp']; exact hp)
      rw [List.append_nil] at this
      exact this
    · refine wpList_append_lies _ hgd s x 80 ho w0.heap.size 9 i (.string ByteArray.empty) 1 16 Tryz.underlying80 hi hz hsz hby rfl (by decide) v d.length (d.map bV) hs hown ⟨b, off, none⟩ e.length cap (e.map bV) hx (by simp) ?_ (by intro u hu; obtain ⟨y, _, rfl⟩ := List.mem_map.1 hu; rfl) (by omega) (by unfold maxLen; omega) (by omega) h.bel.size _ rfl ?_
      · intro j u hu
        rw [List.getElem?_map] at hu
        cases hj : e[j]? with
        | none => rw [hj] at hu; cases hu
        | some y =>
          rw [hj] at hu
          injection hu with hu
          subst hu
          rw [Addr.add_lit]
          exact hx2 j y hj
      · intro g' cap' w' o1 o2 o3 o4
        have e1 : d.length + e.length = (d ++ e).length := by rw [List.length_append]
        rw [e1] at o1 ⊢
        refine hk _ _ _ (h.grown hp o2 (v' := .slice (some ⟨g', 0, none⟩) (d ++ e).length cap') (d' := d ++ e) (by unfold OT; rw [List.map_append]; exact o1) fun q hq => ?_)
        have : q = g' := by simpa [Value.ownBlock] using hq.symm
        subst this
        rcases o3 with o3 | o3
        · exact .inl o3
        · exact .inr (by omega)
theorem wpList_app_to {ops : Array Oper} {rest : List Oper} {o : Oper} {a : Act} {Q : Exit → Act → World → Prop} (h : LS w0 w g n al ke mo T K O) {v : Value} {d : List ByteArray} (hp : Kp.txt v d ∈ O) {v2 : Value} {e : List ByteArray} (h2 : TS w v2 e) (L : List ByteArray) (hL : d ++ e = L)
    (hd : d.length + e.length ≤ 1099511627776) (hgd : o.guard = none) (s x : Operand)
    (ho : o.op = .call { callee := .builtin .append, args := #[s, x], argTypes := #[80, 80] }) (hs : a.eval s = v) (hx : a.eval x = v2)
    (hk : ∀ va c w', LS w0 w' g n al ke mo T K [.txt (.slice va L.length c) L] → wpList Tryz.prog ops Q rest (a.put o.dst (.slice va L.length c)) w') : wpList Tryz.prog ops Q (o :: rest) a w := by
  subst hL; exact wpList_app_ls h hp h2 hd hgd s x ho hs hx hk
theorem LS.nodup (h : LS w0 w g n al ke mo T K O) : (keysE T).Nodup ∧ (keysE K).Nodup := by
  obtain ⟨x, h1, rfl, rfl, _⟩ := h
  have key : ∀ L : List Nat, L.Nodup → (∀ b ∈ L, b ∈ x.T ∨ b ∈ x.K) → (keysE (en x.F L)).Nodup := by
    intro L hn hm
    have e : keysE (en x.F L) = L.map fun b => (x.F b).k := by unfold keysE en; rw [List.map_map]; rfl
    rw [e]
    exact List.pairwise_map.2 (List.Pairwise.imp_of_mem (fun ha hb hne he => hne (h1.gg.uq _ _ (hm _ ha) (hm _ hb) he)) hn)
  exact ⟨key x.T (List.nodup_cons.1 h1.gg.n0).2 (fun b hb => .inl hb), key x.K (List.nodup_cons.1 h1.gg.n1).2 fun b hb => .inr hb⟩
end
theorem mem_keys {k : ByteArray} {l : List En} (h : k ∉ keysE l) : ∀ y ∈ l, y.1 ≠ k := fun y hy e => h (e ▸ List.mem_map_of_mem hy)
theorem del_head {k : ByteArray} {z : Int} {T : List En} (h : (keysE ((k, z) :: T)).Nodup) : delE k ((k, z) :: T) = T := by
  have e : delE k ((k, z) :: T) = delE k T := by unfold delE; rw [List.filter_cons, if_neg (by simp)]
  rw [e]
  exact del_no (mem_keys (List.nodup_cons.1 h).1)
/-- a drop of the first key of both -/
theorem drop_step {T K : List En} {k : ByteArray} {R : List ByteArray} (hT : (keysE T).Nodup) (hK : (keysE K).Nodup) (hap : ∀ k, k ∈ keysE T → k ∉ keysE K) (h : keysE T ++ keysE K = k :: R) :
    keysE (delE k T) ++ keysE (delE k K) = R ∧ (hasS k T K).isSome = true := by
  cases T with
  | nil =>
    cases K with
    | nil => cases h
    | cons y K' =>
      obtain ⟨k0, z⟩ := y
      have h' : k0 :: keysE K' = k :: R := h
      injection h' with h1 h2
      subst h1
      refine ⟨?_, has_mk ⟨(k0, z), .inr (by simp), rfl⟩⟩
      rw [del_head hK, show delE k0 [] = [] from rfl]
      exact h2
  | cons y T' =>
    obtain ⟨k0, z⟩ := y
    have h' : k0 :: (keysE T' ++ keysE K) = k :: R := h
    injection h' with h1 h2
    subst h1
    refine ⟨?_, has_mk ⟨(k0, z), .inl (by simp), rfl⟩⟩
    rw [del_head hT, del_no (mem_keys (hap k0 (by simp [keysE])))]
    exact h2
theorem room_none {al z : Int} : ∀ (n : Nat) (T K : List En), (roomE al z n T K).2.2 = [] → roomE al z n T K = (T, K, [])
  | 0, T, K, _ => rfl
  | n + 1, T, K, h => by
    unfold roomE at h ⊢
    split
    · rename_i hc
      rw [if_pos hc] at h
      split
      · rename_i y hy
        rw [hy] at h
        cases h
      · rename_i hn
        rw [hn] at h
        split
        · rename_i y hy
          rw [hy] at h
          cases h
        · rfl
    · rfl
/-- a put with nothing gone: three bytes more -/
theorem put_sum {al z : Int} {k : ByteArray} {T K T2 K2 : List En} {G : List ByteArray} (hT : ∀ y ∈ T, y.1 ≠ k) (hK : ∀ y ∈ K, y.1 ≠ k) (h : putE al k z T K = ((k, z) :: T2, K2, G)) :
    (G = [] → sumE ((k, z) :: T2) + sumE K2 = sumE T + sumE K + z) ∧ (∀ y ∈ T2, y.1 ≠ k) ∧ (∀ y ∈ K2, y.1 ≠ k) := by
  unfold putE at h
  rw [del_no hT, del_no hK] at h
  injection h with h1 h2
  injection h1 with _ h1
  injection h2 with h2 h3
  have hs := room_sub (al := al) (z := z) (T.length + K.length) T K
  refine ⟨fun hG => ?_, fun y hy => hT y (hs.1 y (h1 ▸ hy)), fun y hy => hK y (hs.2 y (h2 ▸ hy))⟩
  rw [hG] at h3
  have h4 := room_none _ _ _ h3
  rw [h4] at h1 h2
  simp only at h1 h2
  rw [← h1, ← h2, sumE]
  simp only
  omega
theorem keys_emp {l : List En} (h : keysE l = []) : l = [] := List.map_eq_nil_iff.1 h
end Go.Proofs.YtjngangojgjceaaGreat.SL
namespace Go.Proofs.YtjngangojgjceaaGreat.SL
open Go.ChangeShapes Go.WideShapes Go.ChangeAt Go.RowKit Go.Maps Go.ChangeMaps
set_option maxRecDepth 100000
set_option linter.unusedVariables false
set_option linter.unusedSimpArgs false

/-- entries as cells -/
def eC : List En → List Value
  | [] => []
  | y :: l => .string y.1 :: .int .i64 y.2 :: eC l
theorem eC_len : ∀ l : List En, (eC l).length = l.length * 2
  | [] => rfl
  | y :: l => by rw [eC, List.length_cons, List.length_cons, eC_len l, List.length_cons]; omega
theorem eC_app : ∀ a b : List En, eC (a ++ b) = eC a ++ eC b
  | [], b => rfl
  | y :: a, b => by rw [List.cons_append, eC, eC_app a b]; rfl
theorem eC_at : ∀ (l : List En) (i : Nat) (y : En), l[i]? = some y → (eC l)[i * 2]? = some (.string y.1) ∧ (eC l)[i * 2 + 1]? = some (.int .i64 y.2)
  | [], i, y, h => by simp at h
  | x :: l, 0, y, h => by simp at h; subst h; exact ⟨rfl, rfl⟩
  | x :: l, i + 1, y, h => by
    have := eC_at l i y (by simpa using h)
    rw [show (i + 1) * 2 = i * 2 + 1 + 1 by omega]
    exact this
theorem eC_inv : ∀ (l : List En) (j : Nat) (u : Value), (eC l)[j]? = some u → ∃ i y, l[i]? = some y ∧ ((j = i * 2 ∧ u = .string y.1) ∨ (j = i * 2 + 1 ∧ u = .int .i64 y.2))
  | [], j, u, h => by simp [eC] at h
  | x :: l, 0, u, h => ⟨0, x, rfl, .inl ⟨rfl, by simpa [eC] using h.symm⟩⟩
  | x :: l, 1, u, h => ⟨0, x, rfl, .inr ⟨rfl, by simpa [eC] using h.symm⟩⟩
  | x :: l, j + 2, u, h => by
    obtain ⟨i, y, h1, h2⟩ := eC_inv l j u (by simpa [eC] using h)
    exact ⟨i + 1, y, by simpa using h1, by rcases h2 with ⟨h2, h3⟩ | ⟨h2, h3⟩; exact .inl ⟨by omega, h3⟩; exact .inr ⟨by omega, h3⟩⟩
theorem eC_one {l : List En} : ∀ u ∈ eC l, u.oneCell' = true := by
  intro u hu
  obtain ⟨j, hj⟩ := List.getElem?_of_mem hu
  obtain ⟨i, y, _, h | h⟩ := eC_inv l j u hj
  · rw [h.2]; rfl
  · rw [h.2]; rfl
/-- v is a slice of entries that reads as l -/
def ER (w : World) (v : Value) (l : List En) : Prop :=
  (∃ A cap, v = .slice A 0 cap ∧ l = []) ∨
  ∃ b off cap, v = .slice (some ⟨b, off, none⟩) l.length cap ∧ l.length ≤ cap ∧ ∀ (i : Nat) (y : En), l[i]? = some y → w.cell? ⟨b, off + i * 2, none⟩ = some (.string y.1) ∧ w.cell? ⟨b, off + i * 2 + 1, none⟩ = some (.int .i64 y.2)
theorem ER.below {w w' : World} {v : Value} {l : List En} (h : ER w v l) (hb : Below w.heap.size w w') : ER w' v l := by
  have hk : ∀ (p : Addr) (u : Value), w.cell? p = some u → w'.cell? p = some u := fun p u hp => (hb.cell (World.block_lt_of_cell? w p hp)).trans hp
  rcases h with h | ⟨b, off, cap, e, hc, hx⟩
  · exact .inl h
  · exact .inr ⟨b, off, cap, e, hc, fun i y hi => ⟨hk _ _ (hx i y hi).1, hk _ _ (hx i y hi).2⟩⟩
theorem ER.form {w : World} {v : Value} {l : List En} (h : ER w v l) : ∃ a cap, v = .slice a l.length cap := by
  rcases h with ⟨A, cap, rfl, rfl⟩ | ⟨b, off, cap, rfl, _⟩
  · exact ⟨_, _, rfl⟩
  · exact ⟨_, _, rfl⟩
theorem ER.inv {w : World} {v : Value} {l : List En} (h : ER w v l) (hp : 0 < l.length) : ∃ b off cap, v = .slice (some ⟨b, off, none⟩) l.length cap ∧ l.length ≤ cap ∧ ∀ (i : Nat) (y : En), l[i]? = some y → w.cell? ⟨b, off + i * 2, none⟩ = some (.string y.1) ∧ w.cell? ⟨b, off + i * 2 + 1, none⟩ = some (.int .i64 y.2) := by
  rcases h with ⟨A, cap, rfl, rfl⟩ | h
  · simp at hp
  · exact h
/-- the call owns the entries -/
def EO (B : Nat) (w : World) (v : Value) (l : List En) : Prop := w.ownsRow B 138 2 v l.length (eC l)
theorem EO.er {B : Nat} {w : World} {v : Value} {l : List En} (h : EO B w v l) : ER w v l := by
  rcases h.2 with ⟨rfl, hz⟩ | ⟨g, cap, cur, rfl, hb, hh, hc, hm, hs, ht⟩
  · exact .inl ⟨none, 0, rfl, List.eq_nil_of_length_eq_zero hz⟩
  · refine .inr ⟨g, 0, cap, rfl, hc, fun i y hi => ?_⟩
    obtain ⟨e1, e2⟩ := eC_at l i y hi
    have h1 := World.ownsRow.cells h (g := g) rfl _ _ e1
    have h2 := World.ownsRow.cells h (g := g) rfl _ _ e2
    rw [Addr.add_lit] at h1 h2
    exact ⟨h1, by rw [Nat.add_assoc]; exact h2⟩
theorem EO.nil (B : Nat) (w : World) : EO B w (.slice none 0 0) [] := World.ownsRow_nil _ _ _ _
theorem EO.below {B : Nat} {w w' : World} {v : Value} {l : List En} (h : EO B w v l) (hb : Below w.heap.size w w') : EO B w' v l := by
  refine ⟨h.1, ?_⟩
  rcases h.2 with h2 | ⟨g, cap, cur, rfl, hbb, hg, hr⟩
  · exact .inl h2
  · exact .inr ⟨g, cap, cur, rfl, hbb, (hb.block g (World.ownsRow.lt h g rfl).2).trans hg, hr⟩
theorem iEnt : ∃ i, Tryz.prog.info? 138 = some i ∧ i.zero = some (.agg #[.string ByteArray.empty, .int .i64 0]) ∧ i.size = 2 ∧ i.bytes = 24 := by
  have h : (Tryz.prog.info? 138).bind (fun i => if i.size = 2 ∧ i.bytes = 24 then i.zero else none) = some (.agg #[.string ByteArray.empty, .int .i64 0]) := by kernel_rfl
  cases hi : Tryz.prog.info? 138 with
  | none => rw [hi] at h; cases h
  | some j =>
    rw [hi] at h
    by_cases hc : j.size = 2 ∧ j.bytes = 24
    · simp [hc] at h
      exact ⟨j, rfl, h, hc.1, hc.2⟩
    · simp [hc] at h
/-- a list of entries put behind a list that the call owns -/
theorem wpList_app_ens {w : World} {ops : Array Oper} {rest : List Oper} {o : Oper} {a : Act} {Q : Exit → Act → World → Prop} (B : Nat) (v : Value) (d : List En) (v2 : Value) (e : List En) (L : List En) (hL : d ++ e = L) (hgd : o.guard = none) (s x : Operand)
    (ho : o.op = .call { callee := .builtin .append, args := #[s, x], argTypes := #[69, 69] }) (hs : a.eval s = v) (hown : EO B w v d) (hx : a.eval x = v2) (h2 : ER w v2 e)
    (hd : d.length + e.length ≤ 1099511627776) (hB : B ≤ w.heap.size)
    (hk : ∀ va c w', EO B w' (.slice va L.length c) L → Below B w w' → wpList Tryz.prog ops Q rest (a.put o.dst (.slice va L.length c)) w') : wpList Tryz.prog ops Q (o :: rest) a w := by
  subst hL
  obtain ⟨i, hi, hz, hsz, hby⟩ := iEnt
  have none_ : ∀ p c, v2 = .slice p 0 c → e = [] → wpList Tryz.prog ops Q (o :: rest) a w := by
    rintro p c rfl rfl
    have hown0 := hown
    obtain ⟨va, vc, rfl⟩ := hown.er.form
    refine wpList_plain hgd fun K' hK => ?_
    have hrun := run_app_nothing (P := Tryz.prog) (w := w) B 69 o.type 138 i 2 Tryz.underlying69 hi _ _ _ hown p c
    unfold Oper.wp
    simp [execOp, ho, resolve, invoke, builtin, hs, hx, hrun, Result.andThen]
    refine hK _ _ ?_
    have := hk va vc w (by rw [List.append_nil]; exact hown0) (Below.refl _ _)
    rw [List.append_nil] at this
    exact this
  rcases h2 with ⟨A, cap, e1, e2⟩ | ⟨b, off, cap, e1, hcap, hx2⟩
  · exact none_ A cap e1 e2
  · by_cases h0 : e.length = 0
    · exact none_ _ cap (by rw [e1, h0]) (List.eq_nil_of_length_eq_zero h0)
    · subst e1
      refine wpList_append_lies _ hgd s x 69 ho B 138 i (.agg #[.string ByteArray.empty, .int .i64 0]) 2 24 Tryz.underlying69 hi hz hsz hby rfl (by decide) v d.length (eC d) hs hown ⟨b, off, none⟩ e.length cap (eC e) hx (eC_len e) ?_ eC_one (by omega) (by unfold maxLen; omega) (by omega) hB _ rfl ?_
      · intro j u hu
        obtain ⟨q, y, hq, h | h⟩ := eC_inv e j u hu
        · rw [Addr.add_lit, h.1, h.2]; exact (hx2 q y hq).1
        · rw [Addr.add_lit, h.1, h.2, ← Nat.add_assoc]; exact (hx2 q y hq).2
      · intro g' cap' w' o1 o2 o3 o4
        have e1 : d.length + e.length = (d ++ e).length := by rw [List.length_append]
        rw [e1] at o1 ⊢
        exact hk _ _ _ (by unfold EO; rw [eC_app]; exact o1) ((Below.refl B w).grown o2 hB fun q hq => (World.ownsRow.lt hown q hq).1)
theorem one_er {w : World} {b : Nat} {y : En} (h : Bk w b 138 #[.string y.1, .int .i64 y.2]) : ER w (.slice (some ⟨b, 0, none⟩) 1 1) [y] :=
  .inr ⟨b, 0, 1, rfl, Nat.le_refl _, fun i x hi => by
    cases i with
    | zero => simp at hi; subst hi; exact ⟨h.cell 0, h.cell 1⟩
    | succ i => simp at hi⟩
set_option maxHeartbeats 2000000 in
theorem rsum_any (v : Value) (l : List En) (w : World) (h : ER w v l) (hp : ∀ y ∈ l, 1 ≤ y.2) (hs : sumE l ≤ 4611686018427387904) :
    Calls Tryz.prog 61 #[v] w fun e w' => e = .returned (.int .i64 (sumE l)) ∧ ∃ n, w' = w.drewN n := by
  obtain ⟨va, vc, rfl⟩ := h.form
  have HE := Lib.hid h
  have HP := Lib.hid hp
  have HSU := Lib.hid hs
  have hlen := sum_pos hp
  have HLEN : Hid (l.length ≤ 4611686018427387904) := Lib.hid (by omega)
  clear h hp hs hlen
  go_enter Tryz.func61, Tryz.ntmps61
  go_wp2
  go_loopg [3, 4] l.length (fun g u3 u4 wx => ∃ i : Nat, u4 = .int .i64 (i : Int) ∧ u3 = .int .i64 (sumE (l.take i)) ∧ i + g = l.length ∧ ∃ n, wx = w.drewN n)
  case atStart => exact ⟨0, rfl, rfl, by omega, 0, rfl⟩
  case round =>
    obtain ⟨i, rfl, rfl, hi, n0, rfl⟩ := hrel
    cases gk with
    | zero =>
      have hil : i = l.length := by omega
      have l1 : ¬ ((i : Int) < (l.length : Int)) := by omega
      rw [hil, List.take_length]
      have l1' : ¬ ((l.length : Int) < (l.length : Int)) := by omega
      clear hi hil
      go_wp2
      go_ret
      exact ⟨rfl, _, rfl⟩
    | succ g =>
      have hlt : i < l.length := by omega
      obtain ⟨b, off, cap, he, hc, hx⟩ := HE.out.inv (by omega)
      injection he with e1 _ e3
      subst e1 e3
      obtain ⟨y, hy⟩ : ∃ y, l[i] = y := ⟨_, rfl⟩
      have hyi : l[i]? = some y := by rw [List.getElem?_eq_getElem hlt, hy]
      obtain ⟨x0, x1⟩ := hx i y hyi
      have l0 : (0 : Int) ≤ (i : Int) := by omega
      have l1 : (i : Int) < (l.length : Int) := by omega
      obtain ⟨i1, hi1⟩ : ∃ i1, i + 1 = i1 := ⟨_, rfl⟩
      have wk : IntKind.i64.wrap ((i : Int) + 1) = (i1 : Int) := by rw [show (i : Int) + 1 = (i1 : Int) by omega]; exact IntWalk.i64_in _ (by have := HLEN.out; omega)
      obtain ⟨S, hS⟩ : ∃ S, sumE (l.take i) = S := ⟨_, rfl⟩
      have hs1 : sumE (l.take i1) = S + y.2 := by
        rw [← hi1, List.take_add_one, hyi, Option.toList, sum_app, hS, sumE, sumE]; omega
      have hsp := sum_app (l.take i1) (l.drop i1)
      rw [List.take_append_drop] at hsp
      have hd0 := sum_nonneg (l := l.drop i1) fun z hz => HP.out z (List.mem_of_mem_drop hz)
      have ht0 := sum_nonneg (l := l.take i1) fun z hz => HP.out z (List.mem_of_mem_take hz)
      have wz : IntKind.i64.wrap (S + y.2) = S + y.2 := IntWalk.i64_in _ (by have := HSU.out; omega)
      rw [hS]
      have HS1 := Lib.hid hs1
      have HI1 : Hid (i1 + g = l.length) := Lib.hid (by omega)
      clear hi hx hc hy hyi hi1 hS hs1 hsp hd0 ht0 hlt
      go_wp2
      go_roundg g
      case measure => exact Nat.lt_succ_self _
      case rel => exact ⟨i1, rfl, by rw [HS1.out], HI1.out, _, rfl⟩
end Go.Proofs.YtjngangojgjceaaGreat.SL
namespace Go.Proofs.YtjngangojgjceaaGreat.SL
open Go.ChangeShapes Go.WideShapes Go.ChangeAt Go.RowKit Go.Maps Go.ChangeMaps
set_option maxRecDepth 100000
set_option linter.unusedVariables false
set_option linter.unusedSimpArgs false

theorem keysE_take {l : List En} {i : Nat} {y : En} (h : l[i]? = some y) : keysE (l.take (i + 1)) = keysE (l.take i) ++ [y.1] := by
  rw [List.take_add_one, h]; unfold keysE; rw [List.map_append]; rfl
theorem delE_take {l : List En} {i : Nat} {y : En} {k : ByteArray} (h : l[i]? = some y) : delE k (l.take (i + 1)) = if y.1 = k then delE k (l.take i) else delE k (l.take i) ++ [y] := by
  rw [List.take_add_one, h]; unfold delE; rw [List.filter_append]
  by_cases e : y.1 = k
  · rw [if_pos e]; simp [e]
  · rw [if_neg e]; simp [e]
/-- where a key stands first -/
def placeE (l : List En) (k : ByteArray) : Option Nat := l.findIdx? fun x => decide (x.1 = k)
set_option maxHeartbeats 2000000 in
theorem rkeys_any (v : Value) (l : List En) (w : World) (h : ER w v l) (hl : l.length ≤ 1073741824) :
    Calls Tryz.prog 59 #[v] w fun e w' => ∃ u, e = .returned u ∧ OT w.heap.size w' u (keysE l) ∧ Below w.heap.size w w' := by
  obtain ⟨va, vc, rfl⟩ := h.form
  have HE := Lib.hid h
  have HLEN := Lib.hid hl
  clear h hl
  go_enter Tryz.func59, Tryz.ntmps59
  go_wp2
  go_loopg [3, 4] l.length (fun g u3 u4 wx => ∃ i : Nat, u4 = .int .i64 (i : Int) ∧ i + g = l.length ∧ OT w.heap.size wx u3 (keysE (l.take i)) ∧ Below w.heap.size w wx)
  case atStart => exact ⟨0, rfl, by omega, OT.nil _ _, Below.refl _ _⟩
  case round =>
    obtain ⟨i, rfl, hi, hO, hB⟩ := hrel
    obtain ⟨ua, uc, rfl⟩ := hO.ts.form
    have HO := Lib.hid hO
    have HB := Lib.hid hB
    cases gk with
    | zero =>
      have hil : i = l.length := by omega
      have l1 : ¬ ((i : Int) < (l.length : Int)) := by omega
      have HIL := Lib.hid hil
      obtain ⟨D, hD⟩ : ∃ D, keysE (l.take i) = D := ⟨_, rfl⟩
      have hD2 : D = keysE l := by rw [← hD, hil, List.take_length]
      have HD := Lib.hid hD
      have HD2 := Lib.hid hD2
      rw [hD]
      clear hi hil hO hB hD hD2
      go_wp2
      go_ret
      exact ⟨_, rfl, by have := HO.out; rw [HD.out] at this; rw [← HD2.out]; exact this, HB.out⟩
    | succ g =>
      have hlt : i < l.length := by omega
      obtain ⟨b, off, cap, he, hc, hx⟩ := (HE.out.below hB).inv (by omega)
      injection he with e1 _ e3
      subst e1 e3
      obtain ⟨y, hy⟩ : ∃ y, l[i] = y := ⟨_, rfl⟩
      have hyi : l[i]? = some y := by rw [List.getElem?_eq_getElem hlt, hy]
      obtain ⟨x0, x1⟩ := hx i y hyi
      have l0 : (0 : Int) ≤ (i : Int) := by omega
      have l1 : (i : Int) < (l.length : Int) := by omega
      obtain ⟨i1, hi1⟩ : ∃ i1, i + 1 = i1 := ⟨_, rfl⟩
      have wk : IntKind.i64.wrap ((i : Int) + 1) = (i1 : Int) := by rw [show (i : Int) + 1 = (i1 : Int) by omega]; exact IntWalk.i64_in _ (by have := HLEN.out; omega)
      have hk := keysE_take hyi
      rw [hi1] at hk
      obtain ⟨D, hD⟩ : ∃ D, keysE (l.take i) = D := ⟨_, rfl⟩
      have HDL : Hid (D.length ≤ 1073741824) := Lib.hid (by rw [← hD]; unfold keysE; rw [List.length_map, List.length_take]; have := HLEN.out; omega)
      rw [hD] at hk
      have HK := Lib.hid hk
      have HO := Lib.hid (show OT w.heap.size wr (.slice ua D.length uc) D by rw [← hD]; exact hO)
      have HI1 : Hid (i1 + g = l.length) := Lib.hid (by omega)
      obtain ⟨yk, yz⟩ := y
      rw [hD]
      clear hi hx hc hy hyi hi1 hk hO hB hlt hD
      have hbx : Below wr.heap.size wr (wr.alloc (.cells #[.string yk] 9)) := (Below.refl _ _).alloc (Nat.le_refl _) _
      have HBX := Lib.hid hbx
      clear hbx
      go_wp2_with (at_builtin; refine wpList_app_text w.heap.size (.slice ua D.length uc) D yk wr.heap.size rfl _ _ rfl rfl (HO.out.below HBX.out) rfl (Bk.new wr _ _) (by have := HDL.out; omega) (by have := HB.out.size; simp; omega) ?_; intro g9 cap9 w9 o9 gr9)
      have HB9 : Hid (Below w.heap.size w w9) := Lib.hid ((HB.out.alloc HB.out.size _).grown gr9 (by have := HB.out.size; simp; omega) fun k hk => (World.ownsRow.lt HO.out k hk).1)
      have HO9 := Lib.hid o9
      clear o9 gr9
      go_wp2
      go_roundg g
      case measure => exact Nat.lt_succ_self _
      case rel =>
        refine ⟨i1, rfl, HI1.out, ?_, HB9.out⟩
        rw [HK.out]
        have := HO9.out
        simpa using this
set_option maxHeartbeats 2000000 in
theorem rplace_any (v : Value) (l : List En) (k : ByteArray) (w : World) (h : ER w v l) (hl : l.length ≤ 1073741824) :
    Calls Tryz.prog 88 #[v, .string k] w fun e w' => e = .returned (.int .i64 (match placeE l k with | some i => (i : Int) | none => -1)) ∧ ∃ n, w' = w.drewN n := by
  obtain ⟨R, hR⟩ : ∃ R : Int, (match placeE l k with | some i => (i : Int) | none => -1) = R := ⟨_, rfl⟩
  rw [hR]
  obtain ⟨va, vc, rfl⟩ := h.form
  have HE := Lib.hid h
  have HLEN := Lib.hid hl
  have HR := Lib.hid hR
  clear h hl hR
  go_enter Tryz.func88, Tryz.ntmps88
  go_wp2
  go_loopg [5] l.length (fun g u5 wx => ∃ i : Nat, u5 = .int .i64 (i : Int) ∧ i + g = l.length ∧ (∀ j y, j < i → l[j]? = some y → y.1 ≠ k) ∧ ∃ n, wx = w.drewN n)
  case atStart => exact ⟨0, rfl, by omega, fun j y hj => by omega, 0, rfl⟩
  case round =>
    obtain ⟨i, rfl, hi, hno, n0, rfl⟩ := hrel
    cases gk with
    | zero =>
      have hil : i = l.length := by omega
      have l1 : ¬ ((i : Int) < (l.length : Int)) := by omega
      have hn : placeE l k = none := by
        unfold placeE
        rw [List.findIdx?_eq_none_iff]
        intro y hy
        obtain ⟨j, hj⟩ := List.getElem?_of_mem hy
        have := hno j y (by have := (List.getElem?_eq_some_iff.1 hj).1; omega) hj
        simpa using this
      have hr : R = -1 := by rw [← HR.out, hn]
      subst hr
      clear hi hil hno hn HR
      go_wp2
      go_ret
      exact ⟨rfl, _, rfl⟩
    | succ g =>
      have hlt : i < l.length := by omega
      obtain ⟨b, off, cap, he, hc, hx⟩ := HE.out.inv (by omega)
      injection he with e1 _ e3
      subst e1 e3
      obtain ⟨y, hy⟩ : ∃ y, l[i] = y := ⟨_, rfl⟩
      have hyi : l[i]? = some y := by rw [List.getElem?_eq_getElem hlt, hy]
      obtain ⟨x0, x1⟩ := hx i y hyi
      have l0 : (0 : Int) ≤ (i : Int) := by omega
      have l1 : (i : Int) < (l.length : Int) := by omega
      obtain ⟨i1, hi1⟩ : ∃ i1, i + 1 = i1 := ⟨_, rfl⟩
      have wk : IntKind.i64.wrap ((i : Int) + 1) = (i1 : Int) := by rw [show (i : Int) + 1 = (i1 : Int) by omega]; exact IntWalk.i64_in _ (by have := HLEN.out; omega)
      have HI1 : Hid (i1 + g = l.length) := Lib.hid (by omega)
      obtain ⟨yk, yz⟩ := y
      by_cases hk : yk = k
      · have es : (yk.toList == k.toList) = true := by rw [tl_dec]; exact decide_eq_true hk
        have hp : placeE l k = some i := by
          unfold placeE
          rw [List.findIdx?_eq_some_iff_getElem]
          refine ⟨hlt, by rw [hy]; simp [hk], fun j hj => ?_⟩
          have := hno j l[j] hj (List.getElem?_eq_getElem (by omega))
          simpa using this
        have hr : R = (i : Int) := by rw [← HR.out, hp]
        subst hr
        clear hi hx hc hy hyi hi1 hno hp HR hk hlt
        go_wp2
        go_ret
        exact ⟨rfl, _, rfl⟩
      · have es : (yk.toList == k.toList) = false := by rw [tl_dec]; exact decide_eq_false hk
        have hno1 : ∀ j y, j < i1 → l[j]? = some y → y.1 ≠ k := by
          intro j q hj hq
          by_cases hji : j < i
          · exact hno j q hji hq
          · have : j = i := by omega
            subst this
            rw [hyi] at hq
            injection hq with hq
            subst hq
            exact hk
        have HNO := Lib.hid hno1
        clear hi hx hc hy hyi hi1 hno hno1 hk hlt
        go_wp2
        go_roundg g
        case measure => exact Nat.lt_succ_self _
        case rel => exact ⟨i1, rfl, HI1.out, HNO.out, _, rfl⟩
end Go.Proofs.YtjngangojgjceaaGreat.SL
namespace Go.Proofs.YtjngangojgjceaaGreat.SL
open Go.ChangeShapes Go.WideShapes Go.ChangeAt Go.RowKit Go.Maps Go.ChangeMaps
set_option maxRecDepth 100000
set_option linter.unusedVariables false
set_option linter.unusedSimpArgs false

def EnsP (B : Nat) (w : World) (L : List En) (e : Ending) (w' : World) : Prop := ∃ v c, e = .returned (.slice v L.length c) ∧ EO B w' (.slice v L.length c) L ∧ Below w.heap.size w w'
set_option maxHeartbeats 2000000 in
theorem rahead_any (v : Value) (l : List En) (y : En) (w : World) (h : ER w v l) (hl : l.length ≤ 1073741824) :
    Calls Tryz.prog 80 #[v, .agg #[.string y.1, .int .i64 y.2]] w (EnsP w.heap.size w (y :: l)) := by
  obtain ⟨va, vc, rfl⟩ := h.form
  have HE := Lib.hid h
  have HLEN := Lib.hid hl
  obtain ⟨yk, yz⟩ := y
  obtain ⟨L, hL⟩ : ∃ L, ([(yk, yz)] : List En) ++ l = L := ⟨_, rfl⟩
  rw [show ((yk, yz) :: l) = L from hL]
  have HL := Lib.hid hL
  clear h hl hL
  go_enter Tryz.func80, Tryz.ntmps80
  have hb1 : Below w.heap.size w ((w.alloc (.cells #[.string yk, .int .i64 yz] 138)).alloc (.cells #[.string yk, .int .i64 yz] 138)) := ((Below.refl _ _).alloc (Nat.le_refl _) _).alloc (by simp) _
  have HB1 := Lib.hid hb1
  have hk1 := Bk.new (w.alloc (.cells #[.string yk, .int .i64 yz] 138)) 138 #[.string yk, .int .i64 yz]
  have e1 : (w.alloc (.cells #[.string yk, .int .i64 yz] 138)).heap.size = w.heap.size + 1 := by simp
  rw [e1] at hk1
  have HK1 := Lib.hid hk1
  clear hb1 hk1 e1
  go_wp2_with (at_builtin; first
    | (refine wpList_app_ens w.heap.size (.slice none 0 0) [] (.slice (some ⟨w.heap.size + 1, 0, none⟩) 1 1) [(yk, yz)] [(yk, yz)] rfl rfl _ _ rfl rfl (EO.nil _ _) rfl (one_er HK1.out) (by simp) (by simp; omega) ?_; intro va5 c5 w5 o5 b5; have HO5 := Lib.hid o5; have HB5 := Lib.hid (HB1.out.trans b5); clear o5 b5)
    | (refine wpList_app_ens w.heap.size (.slice va5 1 c5) [(yk, yz)] (.slice va l.length vc) l L HL.out rfl _ _ rfl rfl HO5.out rfl (HE.out.below HB5.out) (by have := HLEN.out; simp; omega) HB5.out.size ?_; intro va6 c6 w6 o6 b6; have HO6 := Lib.hid o6; have HB6 := Lib.hid (HB5.out.trans b6); clear o6 b6))
  go_ret
  exact ⟨_, _, rfl, HO6.out, HB6.out⟩
set_option maxHeartbeats 2000000 in
theorem rwithout_any (v : Value) (l : List En) (k : ByteArray) (w : World) (h : ER w v l) (hl : l.length ≤ 1073741824) :
    Calls Tryz.prog 89 #[v, .string k] w (EnsP w.heap.size w (delE k l)) := by
  obtain ⟨va, vc, rfl⟩ := h.form
  have HE := Lib.hid h
  have HLEN := Lib.hid hl
  clear h hl
  obtain ⟨R, hR⟩ : ∃ R, delE k l = R := ⟨_, rfl⟩
  rw [hR]
  have HR := Lib.hid hR
  clear hR
  go_enter Tryz.func89, Tryz.ntmps89
  go_wp2
  go_loopg [5, 6] l.length (fun g u5 u6 wx => ∃ (i : Nat) (D : List En), u6 = .int .i64 (i : Int) ∧ i + g = l.length ∧ delE k (l.take i) = D ∧ (∃ a c, u5 = .slice a D.length c) ∧ EO w.heap.size wx u5 D ∧ Below w.heap.size w wx)
  case atStart => exact ⟨0, [], rfl, by omega, rfl, ⟨_, _, rfl⟩, EO.nil _ _, Below.refl _ _⟩
  case round =>
    obtain ⟨i, D, rfl, hi, hD, ⟨ua, uc, rfl⟩, hO, hB⟩ := hrel
    have HO := Lib.hid hO
    have HB := Lib.hid hB
    cases gk with
    | zero =>
      have hil : i = l.length := by omega
      have l1 : ¬ ((i : Int) < (l.length : Int)) := by omega
      have hd2 : D = R := by rw [← hD, hil, List.take_length]; exact HR.out
      subst hd2
      clear hi hil hO hB hD
      go_wp2
      go_ret
      exact ⟨_, _, rfl, HO.out, HB.out⟩
    | succ g =>
      have hlt : i < l.length := by omega
      obtain ⟨b, off, cap, he, hc, hx⟩ := (HE.out.below hB).inv (by omega)
      injection he with e1 _ e3
      subst e1 e3
      obtain ⟨y, hy⟩ : ∃ y, l[i] = y := ⟨_, rfl⟩
      have hyi : l[i]? = some y := by rw [List.getElem?_eq_getElem hlt, hy]
      obtain ⟨x0, x1⟩ := hx i y hyi
      have l0 : (0 : Int) ≤ (i : Int) := by omega
      have l1 : (i : Int) < (l.length : Int) := by omega
      obtain ⟨i1, hi1⟩ : ∃ i1, i + 1 = i1 := ⟨_, rfl⟩
      have wk : IntKind.i64.wrap ((i : Int) + 1) = (i1 : Int) := by rw [show (i : Int) + 1 = (i1 : Int) by omega]; exact IntWalk.i64_in _ (by have := HLEN.out; omega)
      have hdl := delE_take (k := k) hyi
      rw [hi1, hD] at hdl
      have HDL : Hid (D.length ≤ 1073741824) := Lib.hid (by
        rw [← hD]
        unfold delE
        have := List.length_filter_le (fun x : En => decide (x.1 ≠ k)) (l.take i)
        rw [List.length_take] at this
        have := HLEN.out; omega)
      have HI1 : Hid (i1 + g = l.length) := Lib.hid (by omega)
      obtain ⟨yk, yz⟩ := y
      simp only at hdl x0 x1
      by_cases hk : yk = k
      · have es : (yk.toList == k.toList) = true := by rw [tl_dec]; exact decide_eq_true hk
        have es2 : (!(yk.toList == k.toList)) = false := by rw [es]; rfl
        rw [if_pos hk] at hdl
        have HDD := Lib.hid hdl
        clear hi hx hc hy hyi hi1 hk hlt hdl hD hO hB
        go_wp2
        go_roundg g
        case measure => exact Nat.lt_succ_self _
        case rel => exact ⟨i1, D, rfl, HI1.out, HDD.out, ⟨_, _, rfl⟩, HO.out, HB.out⟩
      · have es : (yk.toList == k.toList) = false := by rw [tl_dec]; exact decide_eq_false hk
        have es2 : (!(yk.toList == k.toList)) = true := by rw [es]; rfl
        rw [if_neg hk] at hdl
        obtain ⟨D2, hD2⟩ : ∃ D2, D ++ [(yk, yz)] = D2 := ⟨_, rfl⟩
        rw [hD2] at hdl
        have HDD := Lib.hid hdl
        have HD2 := Lib.hid hD2
        clear hi hx hc hy hyi hi1 hk hlt hdl hD hO hB hD2
        have hbx : Below wr.heap.size wr (wr.alloc (.cells #[.string yk, .int .i64 yz] 138)) := (Below.refl _ _).alloc (Nat.le_refl _) _
        have HBX := Lib.hid hbx
        clear hbx
        go_wp2_with (at_builtin; refine wpList_app_ens w.heap.size (.slice ua D.length uc) D (.slice (some ⟨wr.heap.size, 0, none⟩) 1 1) [(yk, yz)] D2 HD2.out rfl _ _ rfl rfl (HO.out.below HBX.out) rfl (one_er (Bk.new wr _ _)) (by have := HDL.out; simp; omega) (by have := HB.out.size; simp; omega) ?_; intro va9 c9 w9 o9 b9)
        have HB9 : Hid (Below w.heap.size w w9) := Lib.hid ((HB.out.alloc HB.out.size _).trans b9)
        have HO9 := Lib.hid o9
        clear o9 b9
        go_wp2
        go_roundg g
        case measure => exact Nat.lt_succ_self _
        case rel => exact ⟨i1, D2, rfl, HI1.out, HDD.out, ⟨_, _, rfl⟩, HO9.out, HB9.out⟩
end Go.Proofs.YtjngangojgjceaaGreat.SL
namespace Go.Proofs.YtjngangojgjceaaGreat.SL
open Go.ChangeShapes Go.WideShapes Go.ChangeAt Go.RowKit Go.Maps Go.ChangeMaps
set_option maxRecDepth 100000
set_option linter.unusedVariables false
set_option linter.unusedSimpArgs false

theorem place_has (k : ByteArray) : ∀ l : List En, (placeE l k = none ∧ hasE k l = none) ∨ ∃ i y, placeE l k = some i ∧ l[i]? = some y ∧ hasE k l = some y.2
  | [] => .inl ⟨rfl, rfl⟩
  | x :: l => by
    by_cases e : x.1 = k
    · refine .inr ⟨0, x, ?_, rfl, ?_⟩
      · unfold placeE; rw [List.findIdx?_cons]; simp [e]
      · unfold hasE; rw [List.find?_cons_of_pos (by simp [e])]; rfl
    · have e1 : placeE (x :: l) k = (placeE l k).map (· + 1) := by unfold placeE; rw [List.findIdx?_cons]; simp [e]
      have e2 : hasE k (x :: l) = hasE k l := by unfold hasE; rw [List.find?_cons_of_neg (by simp [e])]
      rw [e1, e2]
      rcases place_has k l with ⟨h1, h2⟩ | ⟨i, y, h1, h2, h3⟩
      · exact .inl ⟨by rw [h1]; rfl, h2⟩
      · exact .inr ⟨i + 1, y, by rw [h1]; rfl, by simpa using h2, h3⟩
/-- at block g stands the document's store with these entries, made since w0 -/
def RS (w0 w : World) (g : Nat) (al ke mo : Int) (T K : List En) : Prop :=
  ∃ aT cT aK cK, Bk w g 71 #[.slice aT T.length cT, .slice aK K.length cK, .int .i64 al, .int .i64 ke, .int .i64 mo] ∧ EO w0.heap.size w (.slice aT T.length cT) T ∧ EO w0.heap.size w (.slice aK K.length cK) K ∧
    (∀ q, (Value.slice aT T.length cT).ownBlock = some q → q ≠ g) ∧ (∀ q, (Value.slice aK K.length cK).ownBlock = some q → q ≠ g) ∧ w0.heap.size ≤ g ∧ Below w0.heap.size w0 w
section
variable {w0 w w' : World} {g : Nat} {al ke mo : Int} {T K : List En}
theorem RS.bel (h : RS w0 w g al ke mo T K) : Below w0.heap.size w0 w := by obtain ⟨_, _, _, _, _, _, _, _, _, _, h⟩ := h; exact h
theorem RS.below (h : RS w0 w g al ke mo T K) (hb : Below w.heap.size w w') : RS w0 w' g al ke mo T K := by
  obtain ⟨aT, cT, aK, cK, h1, h2, h3, h4, h5, h6, h7⟩ := h
  exact ⟨aT, cT, aK, cK, h1.below hb, h2.below hb, h3.below hb, h4, h5, h6, h7.trans (hb.mono h7.size)⟩
theorem EO.mono {B B' : Nat} {w : World} {v : Value} {l : List En} (h : EO B w v l) (hB : B' ≤ B) : EO B' w v l := by
  refine ⟨h.1, ?_⟩
  rcases h.2 with h2 | ⟨g, cap, cur, rfl, hbb, hg, hr⟩
  · exact .inl h2
  · exact .inr ⟨g, cap, cur, rfl, Nat.le_trans hB hbb, hg, hr⟩
theorem EO.far {B : Nat} {w : World} {v : Value} {l : List En} (h : EO B w v l) {p : Addr} (hp : ∀ q, v.ownBlock = some q → q ≠ p.block) (u : Value) : EO B (w.setCell p u) v l := by
  refine ⟨h.1, ?_⟩
  rcases h.2 with h2 | ⟨g, cap, cur, rfl, hbb, hg, hr⟩
  · exact .inl h2
  · exact .inr ⟨g, cap, cur, rfl, hbb, (Below.heap_setCell w p u g (hp g rfl)).trans hg, hr⟩
/-- a new list in the first segment's, the second segment's place -/
theorem RS.setT (h : RS w0 w g al ke mo T K) {a : Option Addr} {c : Nat} {L : List En} (hL : EO w0.heap.size w (.slice a L.length c) L) (hq : ∀ q, (Value.slice a L.length c).ownBlock = some q → q ≠ g) : RS w0 (w.setCell ⟨g, 0, none⟩ (.slice a L.length c)) g al ke mo L K := by
  obtain ⟨aT, cT, aK, cK, h1, h2, h3, h4, h5, h6, h7⟩ := h
  exact ⟨a, c, aK, cK, h1.set_ 0 _, hL.far hq _, h3.far h5 _, hq, h5, h6, h7.setCell (p := ⟨g, 0, none⟩) h6 _⟩
theorem RS.setK (h : RS w0 w g al ke mo T K) {a : Option Addr} {c : Nat} {L : List En} (hL : EO w0.heap.size w (.slice a L.length c) L) (hq : ∀ q, (Value.slice a L.length c).ownBlock = some q → q ≠ g) : RS w0 (w.setCell ⟨g, 1, none⟩ (.slice a L.length c)) g al ke mo T L := by
  obtain ⟨aT, cT, aK, cK, h1, h2, h3, h4, h5, h6, h7⟩ := h
  exact ⟨aT, cT, a, c, h1.set_ 1 _, h2.far h4 _, hL.far hq _, h4, hq, h6, h7.setCell (p := ⟨g, 1, none⟩) h6 _⟩
end
theorem rplace_to (v : Value) (l : List En) (k : ByteArray) (w : World) (h : ER w v l) (hl : l.length ≤ 1073741824) (P : Int) (hP : (match placeE l k with | some i => (i : Int) | none => -1) = P) :
    Calls Tryz.prog 88 #[v, .string k] w fun e w' => e = .returned (.int .i64 P) ∧ ∃ n, w' = w.drewN n := by
  subst hP; exact rplace_any v l k w h hl
set_option maxHeartbeats 2000000 in
theorem rhas_any (w0 w : World) (g : Nat) (al ke mo : Int) (T K : List En) (h : RS w0 w g al ke mo T K) (hl : T.length ≤ 1073741824 ∧ K.length ≤ 1073741824) (k : ByteArray) :
    Calls Tryz.prog 87 #[ptr g, .string k] w fun e w' => e = .returned (HasV (hasS k T K)) ∧ ∃ n, w' = w.drewN n := by
  obtain ⟨aT, cT, aK, cK, h1, h2, h3, h4, h5, h6, h7⟩ := h
  have q0 := h1.cell 0
  have q1 := h1.cell 1
  have HT := Lib.hid h2.er
  have HK := Lib.hid h3.er
  have HL := Lib.hid hl
  obtain ⟨RV, hRV⟩ : ∃ r, HasV (hasS k T K) = r := ⟨_, rfl⟩
  rw [hRV]
  obtain ⟨PK, hPK⟩ : ∃ P : Int, (match placeE K k with | some i => (i : Int) | none => -1) = P := ⟨_, rfl⟩
  have HPK := Lib.hid hPK
  rcases place_has k T with ⟨p1, p2⟩ | ⟨i, y, p1, p2, p3⟩
  · have HP : Hid ((match placeE T k with | some i => (i : Int) | none => -1) = -1) := Lib.hid (by rw [p1])
    rcases place_has k K with ⟨r1, r2⟩ | ⟨i, y, r1, r2, r3⟩
    · have hr : RV = .tuple #[.int .i64 0, .bool false] := by rw [← hRV]; unfold hasS; rw [p2, r2]; rfl
      have hk : PK = -1 := by rw [← hPK, r1]
      subst hr hk
      clear h1 h2 h3 h4 h5 h6 h7 hl hRV hPK p1 p2 r1 r2
      go_enter Tryz.func87, Tryz.ntmps87
      go_wp2_with fail
      refine (rplace_to _ T k _ HT.out HL.out.1 _ HP.out).mono ?_
      rintro e w1 ⟨rfl, n1, rfl⟩
      go_wp2_with fail
      refine (rplace_to _ K k _ (HK.out.below (below_drewN _ _ _)) HL.out.2 _ HPK.out).mono ?_
      rintro e w2 ⟨rfl, n2, rfl⟩
      go_wp2
      go_ret2
      refine ⟨rfl, ?_⟩
      first | exact ⟨_, rfl⟩ | (rw [World.drewN_drewN]; exact ⟨_, rfl⟩)
    · have hr : RV = .tuple #[.int .i64 y.2, .bool true] := by rw [← hRV]; unfold hasS; rw [p2, r3]; rfl
      have hk : PK = (i : Int) := by rw [← hPK, r1]
      subst hr hk
      have hlt := (List.getElem?_eq_some_iff.1 r2).1
      obtain ⟨b, off, cap, he, hc, hx⟩ := HK.out.inv (by omega)
      injection he with e1 _ e3
      subst e1 e3
      obtain ⟨x0, x1⟩ := hx i y r2
      have l0 : (0 : Int) ≤ (i : Int) := by omega
      have l1 : (i : Int) < (K.length : Int) := by omega
      obtain ⟨yk, yz⟩ := y
      clear h1 h2 h3 h4 h5 h6 h7 hl hRV hPK p1 p2 r1 r2 r3 hlt hx hc
      go_enter Tryz.func87, Tryz.ntmps87
      go_wp2_with fail
      refine (rplace_to _ T k _ HT.out HL.out.1 _ HP.out).mono ?_
      rintro e w1 ⟨rfl, n1, rfl⟩
      go_wp2_with fail
      refine (rplace_to _ K k _ (HK.out.below (below_drewN _ _ _)) HL.out.2 _ HPK.out).mono ?_
      rintro e w2 ⟨rfl, n2, rfl⟩
      go_wp2
      go_ret2
      refine ⟨rfl, ?_⟩
      first | exact ⟨_, rfl⟩ | (rw [World.drewN_drewN]; exact ⟨_, rfl⟩)
  · have HP : Hid ((match placeE T k with | some i => (i : Int) | none => -1) = (i : Int)) := Lib.hid (by rw [p1])
    have hr : RV = .tuple #[.int .i64 y.2, .bool true] := by rw [← hRV]; unfold hasS; rw [p3]; rfl
    subst hr
    have hlt := (List.getElem?_eq_some_iff.1 p2).1
    obtain ⟨b, off, cap, he, hc, hx⟩ := HT.out.inv (by omega)
    injection he with e1 _ e3
    subst e1 e3
    obtain ⟨x0, x1⟩ := hx i y p2
    have l0 : (0 : Int) ≤ (i : Int) := by omega
    have l1 : (i : Int) < (T.length : Int) := by omega
    obtain ⟨yk, yz⟩ := y
    clear h1 h2 h3 h4 h5 h6 h7 hl hRV hPK p1 p2 p3 hlt hx hc
    go_enter Tryz.func87, Tryz.ntmps87
    go_wp2_with fail
    refine (rplace_to _ T k _ HT.out HL.out.1 _ HP.out).mono ?_
    rintro e w1 ⟨rfl, n1, rfl⟩
    go_wp2_with fail
    refine (rplace_to _ K k _ (HK.out.below (below_drewN _ _ _)) HL.out.2 _ HPK.out).mono ?_
    rintro e w2 ⟨rfl, n2, rfl⟩
    go_wp2
    go_ret2
    refine ⟨rfl, ?_⟩
    first | exact ⟨_, rfl⟩ | (rw [World.drewN_drewN]; exact ⟨_, rfl⟩)
end Go.Proofs.YtjngangojgjceaaGreat.SL
namespace Go.Proofs.YtjngangojgjceaaGreat.SL
open Go.ChangeShapes Go.WideShapes Go.ChangeAt Go.RowKit Go.Maps Go.ChangeMaps
set_option maxRecDepth 100000
set_option linter.unusedVariables false
set_option linter.unusedSimpArgs false

theorem rhas_to (w0 w : World) (g : Nat) (al ke mo : Int) (T K : List En) (h : RS w0 w g al ke mo T K) (hl : T.length ≤ 1073741824 ∧ K.length ≤ 1073741824) (k : ByteArray) (v : Value) (hv : HasV (hasS k T K) = v) :
    Calls Tryz.prog 87 #[ptr g, .string k] w fun e w' => e = .returned v ∧ ∃ n, w' = w.drewN n := by
  subst hv; exact rhas_any w0 w g al ke mo T K h hl k
theorem rwithout_to (v : Value) (l : List En) (k : ByteArray) (w : World) (h : ER w v l) (hl : l.length ≤ 1073741824) (R : List En) (hR : delE k l = R) :
    Calls Tryz.prog 89 #[v, .string k] w (EnsP w.heap.size w R) := by subst hR; exact rwithout_any v l k w h hl
theorem hasV_form (o : Option Int) : ∃ z, HasV o = .tuple #[.int .i64 z, .bool o.isSome] := by
  cases o with
  | none => exact ⟨_, rfl⟩
  | some z => exact ⟨_, rfl⟩
theorem EO.off {B g : Nat} {w : World} {v : Value} {l : List En} (h : EO B w v l) (hg : g < B) : ∀ q, v.ownBlock = some q → q ≠ g := fun q hq => by have := (World.ownsRow.lt h q hq).1; omega
set_option maxHeartbeats 4000000 in
theorem rdrop_to (w0 w : World) (g : Nat) (al ke mo : Int) (T K : List En) (h : RS w0 w g al ke mo T K) (hl : T.length ≤ 1073741824 ∧ K.length ≤ 1073741824) (k : ByteArray) (T2 K2 : List En) (b : Bool) (hT2 : delE k T = T2) (hK2 : delE k K = K2) (hb : (hasS k T K).isSome = b) :
    Calls Tryz.prog 79 #[ptr g, .string k] w fun e w' => e = .returned (.bool b) ∧ RS w0 w' g al ke mo T2 K2 ∧ Chg (fun b => b = g) w w' := by
  have HR := Lib.hid h
  obtain ⟨aT, cT, aK, cK, h1, h2, h3, h4, h5, h6, h7⟩ := h
  obtain ⟨z, hz⟩ := hasV_form (hasS k T K)
  rw [hb] at hz
  have HZ := Lib.hid hz
  have HL := Lib.hid hl
  have HT2 := Lib.hid hT2
  have HK2 := Lib.hid hK2
  have H1 := Lib.hid h1
  have H2 := Lib.hid h2
  have H3 := Lib.hid h3
  have H5 := Lib.hid h5
  have H7 := Lib.hid h7
  have q0 := h1.cell 0
  have q1 := h1.cell 1
  clear h1 h2 h3 h4 h5 h6 h7 hz hl hT2 hK2 hb
  go_enter Tryz.func79, Tryz.ntmps79
  go_wp2_with fail
  refine (rhas_to w0 w g al ke mo T K HR.out HL.out k _ HZ.out).mono ?_
  rintro e w1 ⟨rfl, n1, rfl⟩
  go_wp2_with fail
  refine (rwithout_to _ T k _ (H2.out.below (below_drewN _ _ n1)).er HL.out.1 T2 HT2.out).mono ?_
  rintro e w2 ⟨v2, c2, rfl, o2, b2⟩
  have hB2 : Below w.heap.size w w2 := (below_drewN w.heap.size w n1).trans b2
  have hr2 := (HR.out.below hB2).setT (o2.mono (Nat.le_trans H7.out.size (below_drewN w.heap.size w n1).size)) (o2.off (g := g) (by have := H1.out.lt; exact Nat.lt_of_lt_of_le this (below_drewN w.heap.size w n1).size))
  have hk2 := H1.out.below hB2
  have p0 := hk2.cell 0
  have p1 := hk2.cell 1
  have f0 := hk2.frozen 0
  have hk3 := (H3.out.below hB2).far (p := ⟨g, 0, none⟩) H5.out (.slice v2 T2.length c2)
  have hk4 := hk2.set_ 0 (.slice v2 T2.length c2)
  have HR2 := Lib.hid hr2
  have HC2 := Lib.hid ((Chg.of_below (S := fun b => b = g) hB2).setCell (p := ⟨g, 0, none⟩) rfl (.slice v2 T2.length c2))
  have HK3 := Lib.hid hk3
  have HK4 := Lib.hid hk4
  clear hr2 hk2 hk3 hk4 o2 b2 hB2 q0 q1
  go_wp2_with fail
  refine (rwithout_to _ K k _ HK3.out.er HL.out.2 K2 HK2.out).mono ?_
  rintro e w4 ⟨v4, c4, rfl, o4, b4⟩
  have hr4 := (HR2.out.below b4).setK (o4.mono HR2.out.bel.size) (o4.off (g := g) (by have := HK4.out.lt; exact this))
  have hk5 := HK4.out.below b4
  have p2 := hk5.cell 1
  have f2 := hk5.frozen 1
  have HR4 := Lib.hid hr4
  have HC4 := Lib.hid ((HC2.out.trans (Chg.of_below b4)).setCell (p := ⟨g, 1, none⟩) rfl (.slice v4 K2.length c4))
  clear hr4 hk5 o4 b4
  go_wp2
  go_ret
  exact ⟨rfl, HR4.out, HC4.out⟩
end Go.Proofs.YtjngangojgjceaaGreat.SL
namespace Go.Proofs.YtjngangojgjceaaGreat.SL
open Go.ChangeShapes Go.WideShapes Go.ChangeAt Go.RowKit Go.Maps Go.ChangeMaps
set_option maxRecDepth 100000
set_option linter.unusedVariables false
set_option linter.unusedSimpArgs false

/-- each key once -/
structure UK (T K : List En) : Prop where
  t : (keysE T).Nodup
  k : (keysE K).Nodup
  ap : ∀ k, k ∈ keysE T → k ∉ keysE K
theorem UK.swap {T K : List En} (h : UK T K) : UK K T := ⟨h.k, h.t, fun k h1 h2 => h.ap k h2 h1⟩
theorem keysE_app (a b : List En) : keysE (a ++ b) = keysE a ++ keysE b := by unfold keysE; rw [List.map_append]
theorem delE_app (k : ByteArray) (a b : List En) : delE k (a ++ b) = delE k a ++ delE k b := by unfold delE; rw [List.filter_append]
theorem UK.last {T K : List En} (h : UK T K) {x : En} (hx : T.getLast? = some x) : delE x.1 T = T.dropLast ∧ delE x.1 K = K ∧ UK T.dropLast K := by
  have e := last_app hx
  have ht := h.t
  rw [e, keysE_app] at ht
  have hn := List.nodup_append.1 ht
  have hx0 : x.1 ∈ keysE T := by rw [e, keysE_app]; exact List.mem_append.2 (.inr (by simp [keysE]))
  refine ⟨?_, del_no (mem_keys (h.ap _ hx0)), ⟨hn.1, h.k, fun k hk => h.ap k (by rw [e, keysE_app]; exact List.mem_append.2 (.inl hk))⟩⟩
  have e1 : delE x.1 T.dropLast = T.dropLast := del_no (mem_keys fun hk => hn.2.2 x.1 hk x.1 (by simp [keysE]) rfl)
  have e2 : delE x.1 [x] = [] := by unfold delE; rw [List.filter_cons, if_neg (by simp)]; rfl
  calc delE x.1 T = delE x.1 (T.dropLast ++ [x]) := by rw [← e]
    _ = T.dropLast := by rw [delE_app, e1, e2, List.append_nil]
theorem UK.lastK {T K : List En} (h : UK T K) {x : En} (hx : K.getLast? = some x) : delE x.1 K = K.dropLast ∧ delE x.1 T = T ∧ UK T K.dropLast := by
  obtain ⟨h1, h2, h3⟩ := h.swap.last hx
  exact ⟨h1, h2, h3.swap⟩
theorem UK.del {T K : List En} (h : UK T K) (k : ByteArray) : UK (delE k T) (delE k K) := by
  have hs : ∀ l : List En, (keysE (delE k l)).Sublist (keysE l) := fun l => (List.filter_sublist).map _
  exact ⟨h.t.sublist (hs T), h.k.sublist (hs K), fun q hq hq2 => h.ap q ((hs T).subset hq) ((hs K).subset hq2)⟩
theorem LS.uk {w0 w : World} {g n : Nat} {al ke mo : Int} {T K : List En} {O : List Kp} (h : LS w0 w g n al ke mo T K O) : UK T K := ⟨h.nodup.1, h.nodup.2, h.apart⟩
/-- a round of the document's loop that makes room -/
theorem room_T {al z : Int} {T K : List En} {x : En} (n : Nat) (hc : al < sumE T + sumE K + z) (hx : T.getLast? = some x) : roomE al z (n + 1) T K = ((roomE al z n T.dropLast K).1, (roomE al z n T.dropLast K).2.1, x.1 :: (roomE al z n T.dropLast K).2.2) := by
  conv => lhs; unfold roomE
  rw [if_pos hc, hx]
theorem room_K {al z : Int} {K : List En} {x : En} (n : Nat) (hc : al < sumE [] + sumE K + z) (hx : K.getLast? = some x) : roomE al z (n + 1) [] K = ((roomE al z n [] K.dropLast).1, (roomE al z n [] K.dropLast).2.1, x.1 :: (roomE al z n [] K.dropLast).2.2) := by
  conv => lhs; unfold roomE
  rw [if_pos hc]
  simp only [List.getLast?_nil, hx]
/-- a round of the document's loop that shrinks the kept segment -/
theorem shr_K {ke : Int} {T K : List En} {x : En} (n : Nat) (hc : ke < sumE K) (hx : K.getLast? = some x) : shrE ke (n + 1) T K = ((shrE ke n (x :: T) K.dropLast).1, (shrE ke n (x :: T) K.dropLast).2.1, x.1 :: (shrE ke n (x :: T) K.dropLast).2.2) := by
  conv => lhs; unfold shrE
  rw [if_pos hc, hx]
theorem shr_no {ke : Int} {T K : List En} (h : sumE K ≤ ke) : ∀ n, shrE ke n T K = (T, K, [])
  | 0 => rfl
  | n + 1 => by unfold shrE; rw [if_neg (by omega)]
end Go.Proofs.YtjngangojgjceaaGreat.SL
namespace Go.Proofs.YtjngangojgjceaaGreat.SL
open Go.ChangeShapes Go.WideShapes Go.ChangeAt Go.RowKit Go.Maps Go.ChangeMaps
set_option maxRecDepth 100000
set_option linter.unusedVariables false
set_option linter.unusedSimpArgs false

theorem ty_es : (138 : TypeId) ≠ 9 := by decide
theorem ty_ss : (71 : TypeId) ≠ 9 := by decide
/-- a step that turns the blocks of lists of texts at most -/
theorem RS.chg {w0 w w' : World} {g : Nat} {al ke mo : Int} {T K : List En} {S : Nat → Prop} (h : RS w0 w g al ke mo T K) (hc : Chg S w w') (hs : ∀ b, S b → w0.heap.size ≤ b ∧ ∃ cur fz, w.heap[b]? = some (.cells cur 9 fz)) : RS w0 w' g al ke mo T K := by
  obtain ⟨aT, cT, aK, cK, h1, h2, h3, h4, h5, h6, h7⟩ := h
  have ent : ∀ {v : Value} {l : List En}, EO w0.heap.size w v l → EO w0.heap.size w' v l := by
    intro v l he
    refine ⟨he.1, ?_⟩
    rcases he.2 with h2 | ⟨q, cap, cur, rfl, hbb, hg, hr⟩
    · exact .inl h2
    · refine .inr ⟨q, cap, cur, rfl, hbb, (hc.block q (World.ownsRow.lt he q rfl).2 fun hq => ?_).trans hg, hr⟩
      obtain ⟨_, cur2, fz2, h9⟩ := hs q hq
      rw [hg] at h9
      injection h9 with h9
      injection h9 with _ h9
      exact ty_es h9
  refine ⟨aT, cT, aK, cK, h1.heap (hc.block g h1.lt fun hq => ?_), ent h2, ent h3, h4, h5, h6, below_chg h7 hc fun b hb => (hs b hb).1⟩
  obtain ⟨_, cur2, fz2, h9⟩ := hs g hq
  unfold Bk at h1
  rw [h1] at h9
  injection h9 with h9
  injection h9 with _ h9
  exact ty_ss h9
theorem OT.ty {B : Nat} {w : World} {v : Value} {d : List ByteArray} (h : OT B w v d) : ∀ b, v.ownBlock = some b → B ≤ b ∧ ∃ cur fz, w.heap[b]? = some (.cells cur 9 fz) := by
  intro b hb
  rcases h.2 with ⟨rfl, _⟩ | ⟨q, cap, cur, rfl, hbb, hg, hr⟩
  · cases hb
  · injection hb with hb
    subst hb
    exact ⟨hbb, cur, _, hg⟩
theorem OT.ng {B g : Nat} {w : World} {v : Value} {d : List ByteArray} {cs : Array Value} (h : OT B w v d) (hg : Bk w g 71 cs) : ∀ b, v.ownBlock = some b → b ≠ g := by
  rintro b hb rfl
  obtain ⟨_, cur, fz, h9⟩ := h.ty b hb
  unfold Bk at hg
  rw [hg] at h9
  injection h9 with h9
  injection h9 with _ h9
  exact ty_ss h9
theorem rsum_to (v : Value) (l : List En) (w : World) (h : ER w v l) (hp : posE l) (hs : sumE l ≤ 4611686018427387904) (S : Int) (hS : sumE l = S) :
    Calls Tryz.prog 61 #[v] w fun e w' => e = .returned (.int .i64 S) ∧ ∃ n, w' = w.drewN n := by subst hS; exact rsum_any v l w h hp hs
theorem sum_dl {l : List En} (h : posE l) : sumE l.dropLast ≤ sumE l := by
  cases hl : l.getLast? with
  | none => rw [List.getLast?_eq_none_iff.1 hl]; exact Int.le_refl _
  | some x =>
    have e := last_app hl
    have := congrArg sumE e
    rw [sum_app, sumE, sumE] at this
    have := h x (List.mem_of_getLast? hl)
    omega
theorem posE.dl {l : List En} (h : posE l) : posE l.dropLast := fun y hy => h y (List.dropLast_subset _ hy)
theorem last_at {l : List En} {x : En} (h : l.getLast? = some x) : ∃ m, l.length = m + 1 ∧ l[m]? = some x ∧ l.dropLast.length = m := by
  have e := last_app h
  refine ⟨l.dropLast.length, ?_, ?_, rfl⟩
  · have := congrArg List.length e
    rw [List.length_append] at this
    simpa using this
  · have : (l.dropLast ++ [x])[l.dropLast.length]? = some x := by simp
    rwa [← e] at this
theorem rahead_to (v : Value) (l : List En) (y : En) (w : World) (h : ER w v l) (hl : l.length ≤ 1073741824) (L : List En) (hL : y :: l = L) :
    Calls Tryz.prog 80 #[v, .agg #[.string y.1, .int .i64 y.2]] w (EnsP w.heap.size w L) := by subst hL; exact rahead_any v l y w h hl
set_option maxHeartbeats 8000000 in
theorem rput_to (w0 w : World) (g : Nat) (al ke mo : Int) (T0 K0 : List En) (h : RS w0 w g al ke mo T0 K0) (hu : UK T0 K0) (hpT : posE T0) (hpK : posE K0) (hlim : sumE T0 + sumE K0 ≤ 1073741824) (hal : mo ≤ al ∧ al ≤ 1073741824) (k : ByteArray) (z : Int) (hz : 1 ≤ z) (hm : z ≤ mo)
    (T9 K9 : List En) (G : List ByteArray) (hR : putE al k z T0 K0 = (T9, K9, G)) :
    Calls Tryz.prog 40 #[ptr g, .string k, .int .i64 z] w fun e w' => ∃ v c, e = .returned (.tuple #[.slice v G.length c, .int .i64 0]) ∧ OT w.heap.size w' (.slice v G.length c) G ∧ RS w0 w' g al ke mo T9 K9 ∧ Chg (fun b => b = g) w w' := by
  have HR := Lib.hid h
  have hlenT := sum_pos hpT
  have hlenK := sum_pos hpK
  have hsT := sum_nonneg hpT
  have hsK := sum_nonneg hpK
  obtain ⟨T1, hT1⟩ : ∃ L, delE k T0 = L := ⟨_, rfl⟩
  obtain ⟨K1, hK1⟩ : ∃ L, delE k K0 = L := ⟨_, rfl⟩
  obtain ⟨b1, hb1⟩ : ∃ b, (hasS k T0 K0).isSome = b := ⟨_, rfl⟩
  have hu1 := hu.del k
  have hp1 := hpT.del k
  have hp2 := hpK.del k
  have hd1 := (sum_del_has (k := k) hpT).2
  have hd2 := (sum_del_has (k := k) hpK).2
  unfold putE at hR
  rw [hT1, hK1] at hR hu1
  rw [hT1] at hp1 hd1
  rw [hK1] at hp2 hd2
  simp only [Prod.mk.injEq] at hR
  obtain ⟨hR1, hR2, hR3⟩ := hR
  have HL0 : Hid (T0.length ≤ 1073741824 ∧ K0.length ≤ 1073741824) := Lib.hid (by omega)
  have HT1 := Lib.hid hT1
  have HK1 := Lib.hid hK1
  have HB1 := Lib.hid hb1
  have HU1 := Lib.hid hu1
  have HP1 := Lib.hid hp1
  have HP2 := Lib.hid hp2
  have HL1 : Hid (sumE T1 + sumE K1 ≤ 1073741824) := Lib.hid (by omega)
  have HR1 := Lib.hid hR1
  have HR2 := Lib.hid hR2
  have HR3 := Lib.hid hR3
  have hlt1 := sum_pos hp1
  have hlk1 := sum_pos hp2
  have HN0 : Hid (T1.length + K1.length ≤ 1073741824) := Lib.hid (by omega)
  clear hlt1 hlk1
  have HAL : Hid (z ≤ al ∧ al ≤ 1073741824 ∧ 1 ≤ z) := Lib.hid (by omega)
  obtain ⟨aT, cT, aK, cK, h1, _⟩ := h
  have q4 := h1.cell 4
  have nz1 : ¬ (z < 1) := by omega
  have nz2 : ¬ (mo < z) := by omega
  clear hT1 hK1 hb1 hu1 hp1 hp2 hd1 hd2 hR1 hR2 hR3 hlenT hlenK hsT hsK hu hpT hpK hlim hal hz hm h1
  go_enter Tryz.func40, Tryz.ntmps40
  go_wp2_with fail
  refine (rdrop_to w0 w g al ke mo T0 K0 HR.out HL0.out k T1 K1 b1 HT1.out HK1.out HB1.out).mono ?_
  rintro e w1 ⟨rfl, hr1, hc1⟩
  have HRS := Lib.hid hr1
  have HC := Lib.hid hc1
  clear hr1 hc1 q4
  go_wp2
  go_loopg [8, 9, 10] (T1.length + K1.length) (fun gk u8 u9 u10 wx => ∃ (T K : List En) (D : List ByteArray), gk = T.length + K.length ∧ UK T K ∧ posE T ∧ posE K ∧ sumE T + sumE K ≤ 1073741824 ∧ RS w0 wx g al ke mo T K ∧ Chg (fun b => b = g) w wx ∧ (∃ a c, u8 = .slice a D.length c) ∧ OT w.heap.size wx u8 D ∧ D.length + gk = T1.length + K1.length ∧
      roomE al z (T1.length + K1.length) T1 K1 = ((roomE al z gk T K).1, (roomE al z gk T K).2.1, D ++ (roomE al z gk T K).2.2))
  case atStart => exact ⟨T1, K1, [], rfl, HU1.out, HP1.out, HP2.out, HL1.out, HRS.out, HC.out, ⟨_, _, rfl⟩, OT.nil _ _, by simp, rfl⟩
  case round =>
    obtain ⟨T, K, D, hgk, hu, hpT, hpK, hlm, hrs, hch, ⟨ua, uc, rfl⟩, hot, hdl, hroom⟩ := hrel
    have HRS := Lib.hid hrs
    have HC := Lib.hid hch
    have HO := Lib.hid hot
    have HU := Lib.hid hu
    have HPT := Lib.hid hpT
    have HPK := Lib.hid hpK
    have HLM0 := Lib.hid hlm
    have hsT := sum_nonneg hpT
    have hsK := sum_nonneg hpK
    have hlT := sum_pos hpT
    have hlK := sum_pos hpK
    obtain ⟨ST, hST⟩ : ∃ S, sumE T = S := ⟨_, rfl⟩
    obtain ⟨SK, hSK⟩ : ∃ S, sumE K = S := ⟨_, rfl⟩
    have HST := Lib.hid hST
    have HSK := Lib.hid hSK
    have HLM : Hid (sumE T ≤ 1073741824 ∧ sumE K ≤ 1073741824) := Lib.hid (by omega)
    have HLN : Hid (T.length ≤ 1073741824 ∧ K.length ≤ 1073741824) := Lib.hid (by omega)
    rw [hST, hSK] at hlm
    rw [hST] at hsT
    rw [hSK] at hsK
    obtain ⟨aT, cT, aK, cK, h1, h2, h3, _⟩ := hrs
    have HET := Lib.hid h2.er
    have HEK := Lib.hid h3.er
    have HBK := Lib.hid h1
    have q0 := h1.cell 0
    have q1 := h1.cell 1
    have q2 := h1.cell 2
    have wa1 : IntKind.i64.wrap (ST + SK) = ST + SK := IntWalk.i64_in _ (by omega)
    have wa2 : IntKind.i64.wrap (ST + SK + z) = ST + SK + z := IntWalk.i64_in _ (by have := HAL.out; omega)
    have wb1 : wrap64 (ST + SK) = ST + SK := IntWalk.wrap64_in _ (by omega)
    have wb2 : wrap64 (ST + SK + z) = ST + SK + z := IntWalk.wrap64_in _ (by have := HAL.out; omega)
    by_cases hc : al < ST + SK + z
    case neg =>
      have hno : roomE al z gk T K = (T, K, []) := room_no (by rw [hST, hSK]; omega) gk
      rw [hno] at hroom
      have HRM := Lib.hid hroom
      clear hroom hno h1 h2 h3 hST hSK hlT hlK hu hpT hpK hch hot hgk
      go_wp2_with fail
      refine wp_region_held_drew (S := (fun w' => ∃ nn, w' = wr.drewN nn)) (by kernel_rfl) ?_ (fun hS => ?_)
      · exact ⟨1, rfl⟩
      refine tkY 0 ?_ rfl hS ?_ ?_
      rotate_left
      · rintro wz ⟨nz, rfl⟩
        go_simp
        all_goals first | with_reducible rfl | omega
      try simp only [Act.put, pu]
      refine tkY 1 ?_ rfl hS ?_ ?_
      rotate_left
      · rintro wz ⟨nz, rfl⟩
        go_simp
        all_goals first | with_reducible rfl | omega
      try simp only [Act.put, pu]
      refine tkY 2 ?_ rfl hS ?_ ?_
      rotate_left
      · rintro wz ⟨nz, rfl⟩
        go_simp
        all_goals first | with_reducible rfl | omega
      try simp only [Act.put, pu]
      refine tkY 3 ?_ rfl hS ?_ ?_
      rotate_left
      · rintro wz ⟨nz, rfl⟩
        go_simp
        all_goals first | with_reducible rfl | omega
      try simp only [Act.put, pu]
      refine tkY 5 ?_ rfl hS ?_ ?_
      rotate_left
      · rintro wz ⟨nz, rfl⟩
        go_simp
        all_goals first | with_reducible rfl | omega
      try simp only [Act.put, pu]
      refine tkY 6 ?_ rfl hS ?_ ?_
      rotate_left
      · rintro wz ⟨nz, rfl⟩
        go_simp
        all_goals first | with_reducible rfl | omega
      try simp only [Act.put, pu]
      refine tkY 7 ?_ rfl hS ?_ ?_
      rotate_left
      · rintro wz ⟨nz, rfl⟩
        go_simp
        all_goals first | with_reducible rfl | omega
      try simp only [Act.put, pu]
      refine tkY 8 ?_ rfl hS ?_ ?_
      rotate_left
      · rintro wz ⟨nz, rfl⟩
        go_simp
        all_goals first | with_reducible rfl | omega
      try simp only [Act.put, pu]
      refine tkY 11 ?_ rfl hS ?_ ?_
      rotate_left
      · rintro wz ⟨nz, rfl⟩
        go_simp
        all_goals first | with_reducible rfl | omega
      try simp only [Act.put, pu]
      refine tkY 13 ?_ rfl hS ?_ ?_
      rotate_left
      · rintro wz ⟨nz, rfl⟩
        go_simp
        all_goals first | with_reducible rfl | omega
      try simp only [Act.put, pu]
      refine tkY 14 ?_ rfl hS ?_ ?_
      rotate_left
      · rintro wz ⟨nz, rfl⟩
        go_simp
        all_goals first | with_reducible rfl | omega
      try simp only [Act.put, pu]
      refine tkY 15 ?_ rfl hS ?_ ?_
      rotate_left
      · rintro wz ⟨nz, rfl⟩
        go_simp
        all_goals first | with_reducible rfl | omega
      try simp only [Act.put, pu]
      refine tkY 16 ?_ rfl hS ?_ ?_
      rotate_left
      · rintro wz ⟨nz, rfl⟩
        go_simp
        all_goals first | with_reducible rfl | omega
      try simp only [Act.put, pu]
      refine wpAnyH_ready (rs := [4]) (by kernel_rfl) (by simp) (AllReadyH.cons rfl (fun K' hK' => ?_) AllReadyH.nil)
      · go_simp
        refine (rsum_to _ T _ (HET.out.below (show Below wr.heap.size wr wr.drew from below_drewN _ _ 1)) HPT.out (by have := HLM.out; omega) ST HST.out).mono ?_
        rintro e waT ⟨rfl, naT, rfl⟩
        refine hK'.out _ _ ?_ (fun hSn => ?_)
        · first | exact ⟨_, rfl⟩ | exact ⟨_, World.drewN_drewN wr 1 _⟩ | exact ⟨_, World.drewN_drewN wr _ _⟩
        clear hK' K' hS
        have hS := hSn
        clear hSn
        try simp only [Act.put, pu]
        refine wpAnyH_ready (rs := [9]) (by kernel_rfl) (by simp) (AllReadyH.cons rfl (fun K' hK' => ?_) AllReadyH.nil)
        go_simp
        refine (rsum_to _ K _ (HEK.out.below (below_drewN _ _ _)) HPK.out (by have := HLM.out; omega) SK HSK.out).mono ?_
        rintro e waK ⟨rfl, naK, rfl⟩
        refine hK'.out _ _ ?_ (fun hSn => ?_)
        · first | exact ⟨_, rfl⟩ | exact ⟨_, World.drewN_drewN wr 1 _⟩ | exact ⟨_, World.drewN_drewN wr _ _⟩
        clear hK' K' hS
        have hS := hSn
        clear hSn
        try simp only [Act.put, pu]
        refine tkY 10 ?_ rfl hS ?_ ?_
        rotate_left
        · rintro wz ⟨nz, rfl⟩
          go_simp
          all_goals first | with_reducible rfl | omega
        try simp only [Act.put, pu]
        refine tkY 12 ?_ rfl hS ?_ ?_
        rotate_left
        · rintro wz ⟨nz, rfl⟩
          go_simp
          all_goals first | with_reducible rfl | omega
        try simp only [Act.put, pu]
        refine tkY 17 (.bool false) rfl hS ?_ ?_
        · rintro wz ⟨nz, rfl⟩
          go_simp
          all_goals first | with_reducible rfl | omega
        try simp only [Act.put, pu]
        refine wpAnyH_done (by kernel_rfl) ?_ _
        clear hS
        obtain ⟨W, hW⟩ : ∃ W, (wr.drewN (1 + naT)).drewN naK = W := ⟨_, rfl⟩
        have hbd : Below wr.heap.size wr W := by rw [← hW]; exact (below_drewN _ _ _).trans (below_drewN _ _ _)
        rw [hW]
        have HBD := Lib.hid hbd
        have hbk := HBK.out.below hbd
        have p0 := hbk.cell 0
        have p1 := hbk.cell 1
        clear hW hbd hbk q0 q1 q2
        obtain ⟨L9, hL9⟩ : ∃ L, (((k, z) : En) :: T) = L := ⟨_, rfl⟩
        have hG : G = D := by rw [← HR3.out, HRM.out, List.append_nil]
        have hT9 : T9 = L9 := by rw [← HR1.out, HRM.out, ← hL9]
        have hK9 : K9 = K := by rw [← HR2.out, HRM.out]
        subst hG hT9 hK9
        have HL9 := Lib.hid hL9
        clear hL9 HR1 HR2 HR3 HRM
        go_wp2_with fail
        refine (rahead_to _ T (k, z) _ (HET.out.below HBD.out) HLN.out.1 _ HL9.out).mono ?_
        rintro e w2 ⟨v2, c2, rfl, o2, b2⟩
        have hr2 := ((HRS.out.below HBD.out).below b2).setT (o2.mono (Nat.le_trans HRS.out.bel.size HBD.out.size)) (o2.off (g := g) (Nat.lt_of_lt_of_le HBK.out.lt HBD.out.size))
        have hk2 := (HBK.out.below HBD.out).below b2
        have f0 := hk2.frozen 0
        have s0 := hk2.cell 0
        have hc2 : Chg (fun b => b = g) wr (w2.setCell ⟨g, 0, none⟩ (.slice v2 T9.length c2)) := ((Chg.of_below (S := fun b => b = g) HBD.out).trans (Chg.of_below b2)).setCell (p := ⟨g, 0, none⟩) rfl _
        have HR9 := Lib.hid hr2
        have HC9 := Lib.hid hc2
        have HO9 := Lib.hid (HO.out.chg hc2 (HO.out.ng HBK.out))
        clear hr2 hk2 hc2 o2 b2 p0 p1
        go_wp2
        go_ret2
        exact ⟨_, _, rfl, HO9.out, HR9.out, HC.out.trans HC9.out⟩
    case pos =>
      cases hxT : T.getLast? with
      | some x =>
        have hx := hxT
        clear hxT
        obtain ⟨m, hm, hmx, hmd⟩ := last_at hx
        have wm : IntKind.i64.wrap ((T.length : Int) - 1) = (m : Int) := by rw [show (T.length : Int) - 1 = (m : Int) by omega]; exact IntWalk.i64_in _ (by have := HLN.out; omega)
        have wm' : wrap64 ((T.length : Int) - 1) = (m : Int) := by rw [show (T.length : Int) - 1 = (m : Int) by omega]; exact IntWalk.wrap64_in _ (by have := HLN.out; omega)
        have l0 : (0 : Int) ≤ (m : Int) := by omega
        have l1 : (m : Int) < (T.length : Int) := by omega
        have l2 : ¬ ((T.length : Int) = 0) := by omega
        have l3 : ((T.length : Int) == 0) = false := beq_eq_false_iff_ne.2 l2
        obtain ⟨b, off, cap, he, hcp, hxx⟩ := HET.out.inv (by omega)
        injection he with e1 _ e3
        subst e1 e3
        have x0 := (hxx m x hmx).1
        obtain ⟨xk, xz⟩ := x
        simp only at x0
        obtain ⟨d1, d2, hu2⟩ := hu.last hx
        have hrm := room_T (al := al) (z := z) (K := K) (m + K.length) (by rw [hST, hSK]; exact hc) hx
        have hgk2 : gk = m + K.length + 1 := by omega
        have hs2 : sumE T.dropLast + sumE K ≤ 1073741824 := by have := sum_dl hpT; have := HLM0.out; omega
        obtain ⟨gk2, hg2⟩ : ∃ q, m + K.length = q := ⟨_, rfl⟩
        rw [hg2] at hrm hgk2
        subst hgk2
        rw [hrm] at hroom
        have HRM := Lib.hid hroom
        have HD1 := Lib.hid d1
        have HD2 := Lib.hid d2
        have HU2 := Lib.hid hu2
        have HS2 := Lib.hid hs2
        have HLL : Hid (gk2 = T.dropLast.length + K.length) := Lib.hid (by omega)
        have HDL := Lib.hid hdl
        obtain ⟨bq, hbq⟩ : ∃ q, (hasS xk T K).isSome = q := ⟨_, rfl⟩
        have HBQ := Lib.hid hbq
        clear hroom d1 d2 hu2 hs2 hrm hmx hmd hm hxx hcp hx hg2 hbq hdl hgk h1 h2 h3 hST hSK hlT hlK hu hpT hpK hch hot
        go_wp2_with fail
        refine wp_region_held_drew (S := (fun w' => ∃ nn, w' = wr.drewN nn)) (by kernel_rfl) ?_ (fun hS => ?_)
        · exact ⟨1, rfl⟩
        refine tkY 0 ?_ rfl hS ?_ ?_
        rotate_left
        · rintro wz ⟨nz, rfl⟩
          go_simp
          all_goals first | with_reducible rfl | omega
        try simp only [Act.put, pu]
        refine tkY 1 ?_ rfl hS ?_ ?_
        rotate_left
        · rintro wz ⟨nz, rfl⟩
          go_simp
          all_goals first | with_reducible rfl | omega
        try simp only [Act.put, pu]
        refine tkY 2 ?_ rfl hS ?_ ?_
        rotate_left
        · rintro wz ⟨nz, rfl⟩
          go_simp
          all_goals first | with_reducible rfl | omega
        try simp only [Act.put, pu]
        refine tkY 3 ?_ rfl hS ?_ ?_
        rotate_left
        · rintro wz ⟨nz, rfl⟩
          go_simp
          all_goals first | with_reducible rfl | omega
        try simp only [Act.put, pu]
        refine tkY 5 ?_ rfl hS ?_ ?_
        rotate_left
        · rintro wz ⟨nz, rfl⟩
          go_simp
          all_goals first | with_reducible rfl | omega
        try simp only [Act.put, pu]
        refine tkY 6 ?_ rfl hS ?_ ?_
        rotate_left
        · rintro wz ⟨nz, rfl⟩
          go_simp
          all_goals first | with_reducible rfl | omega
        try simp only [Act.put, pu]
        refine tkY 7 ?_ rfl hS ?_ ?_
        rotate_left
        · rintro wz ⟨nz, rfl⟩
          go_simp
          all_goals first | with_reducible rfl | omega
        try simp only [Act.put, pu]
        refine tkY 8 ?_ rfl hS ?_ ?_
        rotate_left
        · rintro wz ⟨nz, rfl⟩
          go_simp
          all_goals first | with_reducible rfl | omega
        try simp only [Act.put, pu]
        refine tkY 11 ?_ rfl hS ?_ ?_
        rotate_left
        · rintro wz ⟨nz, rfl⟩
          go_simp
          all_goals first | with_reducible rfl | omega
        try simp only [Act.put, pu]
        refine tkY 13 ?_ rfl hS ?_ ?_
        rotate_left
        · rintro wz ⟨nz, rfl⟩
          go_simp
          all_goals first | with_reducible rfl | omega
        try simp only [Act.put, pu]
        refine tkY 14 ?_ rfl hS ?_ ?_
        rotate_left
        · rintro wz ⟨nz, rfl⟩
          go_simp
          all_goals first | with_reducible rfl | omega
        try simp only [Act.put, pu]
        refine tkY 15 ?_ rfl hS ?_ ?_
        rotate_left
        · rintro wz ⟨nz, rfl⟩
          go_simp
          all_goals first | with_reducible rfl | omega
        try simp only [Act.put, pu]
        refine tkY 16 ?_ rfl hS ?_ ?_
        rotate_left
        · rintro wz ⟨nz, rfl⟩
          go_simp
          all_goals first | with_reducible rfl | omega
        try simp only [Act.put, pu]
        refine wpAnyH_ready (rs := [4]) (by kernel_rfl) (by simp) (AllReadyH.cons rfl (fun K' hK' => ?_) AllReadyH.nil)
        · go_simp
          refine (rsum_to _ T _ (HET.out.below (show Below wr.heap.size wr wr.drew from below_drewN _ _ 1)) HPT.out (by have := HLM.out; omega) ST HST.out).mono ?_
          rintro e waT ⟨rfl, naT, rfl⟩
          refine hK'.out _ _ ?_ (fun hSn => ?_)
          · first | exact ⟨_, rfl⟩ | exact ⟨_, World.drewN_drewN wr 1 _⟩ | exact ⟨_, World.drewN_drewN wr _ _⟩
          clear hK' K' hS
          have hS := hSn
          clear hSn
          try simp only [Act.put, pu]
          refine wpAnyH_ready (rs := [9]) (by kernel_rfl) (by simp) (AllReadyH.cons rfl (fun K' hK' => ?_) AllReadyH.nil)
          go_simp
          refine (rsum_to _ K _ (HEK.out.below (below_drewN _ _ _)) HPK.out (by have := HLM.out; omega) SK HSK.out).mono ?_
          rintro e waK ⟨rfl, naK, rfl⟩
          refine hK'.out _ _ ?_ (fun hSn => ?_)
          · first | exact ⟨_, rfl⟩ | exact ⟨_, World.drewN_drewN wr 1 _⟩ | exact ⟨_, World.drewN_drewN wr _ _⟩
          clear hK' K' hS
          have hS := hSn
          clear hSn
          try simp only [Act.put, pu]
          refine tkY 10 ?_ rfl hS ?_ ?_
          rotate_left
          · rintro wz ⟨nz, rfl⟩
            go_simp
            all_goals first | with_reducible rfl | omega
          try simp only [Act.put, pu]
          refine tkY 12 ?_ rfl hS ?_ ?_
          rotate_left
          · rintro wz ⟨nz, rfl⟩
            go_simp
            all_goals first | with_reducible rfl | omega
          try simp only [Act.put, pu]
          refine tkY 17 (.bool true) rfl hS ?_ ?_
          · rintro wz ⟨nz, rfl⟩
            go_simp
            all_goals first | with_reducible rfl | omega
          try simp only [Act.put, pu]
          refine wpAnyH_done (by kernel_rfl) ?_ _
          clear hS
          obtain ⟨W, hW⟩ : ∃ W, (wr.drewN (1 + naT)).drewN naK = W := ⟨_, rfl⟩
          have hbd : Below wr.heap.size wr W := by rw [← hW]; exact (below_drewN _ _ _).trans (below_drewN _ _ _)
          rw [hW]
          have HBD := Lib.hid hbd
          have hbk := HBK.out.below hbd
          have p0 := hbk.cell 0
          have p1 := hbk.cell 1
          clear hW hbd hbk q0 q1 q2
          have x0W := (HBD.out.cell (World.block_lt_of_cell? _ _ x0)).trans x0
          clear x0
          go_wp2_with fail
          refine (rdrop_to w0 W g al ke mo T K (HRS.out.below HBD.out) HLN.out xk T.dropLast K bq HD1.out HD2.out HBQ.out).mono ?_
          rintro e w2 ⟨rfl, hr2, hc2⟩
          have hcw : Chg (fun b => b = g) wr w2 := (Chg.of_below HBD.out).trans hc2
          have HO2 := Lib.hid (HO.out.chg hcw (HO.out.ng HBK.out))
          have HR2' := Lib.hid hr2
          have HC2 := Lib.hid (HC.out.trans hcw)
          have hbx : Below w2.heap.size w2 (w2.alloc (.cells #[.string xk] 9)) := (Below.refl _ _).alloc (Nat.le_refl _) _
          have HBX := Lib.hid hbx
          clear hr2 hc2 hcw hbx p0 p1 x0W
          go_wp2_with (at_builtin; refine wpList_app_text w.heap.size (.slice ua D.length uc) D xk w2.heap.size rfl _ _ rfl rfl (HO2.out.below HBX.out) rfl (Bk.new w2 _ _) (by have := HDL.out; have := HN0.out; omega) (by have := HC2.out.size; simp; omega) ?_; intro g9 cap9 w9 o9 gr9)
          have hty := (HO2.out.below HBX.out).ty
          have hr9 : RS w0 w9 g al ke mo T.dropLast K := (HR2'.out.below HBX.out).chg ((Chg.refl (fun b => (Value.slice ua D.length uc).ownBlock = some b) _).grown gr9 fun q hq _ => hq) fun q hq => ⟨Nat.le_trans HR.out.bel.size (hty q hq).1, (hty q hq).2⟩
          have hc9 : Chg (fun b => b = g) w w9 := (HC2.out.alloc _).grown gr9 fun q hq hlt => by have := (hty q hq).1; omega
          have HR9 := Lib.hid hr9
          have HC9 := Lib.hid hc9
          have HO9 := Lib.hid o9
          clear hty hr9 hc9 o9 gr9
          go_wp2
          go_roundg gk2
          case measure => exact Nat.lt_succ_self _
          case rel =>
            refine ⟨T.dropLast, K, D ++ [xk], HLL.out, HU2.out, HPT.out.dl, HPK.out, HS2.out, HR9.out, HC9.out, ⟨_, _, by rw [List.length_append]; rfl⟩, by have := HO9.out; simpa using this, by have := HDL.out; rw [List.length_append]; simp; omega, ?_⟩
            rw [HRM.out]
            simp
      | none =>
        have hT0 := List.getLast?_eq_none_iff.1 hxT
        subst hT0
        clear hxT
        cases hxK : K.getLast? with
        | none =>
          exfalso
          have hK0 := List.getLast?_eq_none_iff.1 hxK
          subst hK0
          have e1 : ST = 0 := hST.symm
          have e2 : SK = 0 := hSK.symm
          have := HAL.out
          omega
        | some x =>
          have hx := hxK
          clear hxK
          obtain ⟨m, hm, hmx, hmd⟩ := last_at hx
          have wm : IntKind.i64.wrap ((K.length : Int) - 1) = (m : Int) := by rw [show (K.length : Int) - 1 = (m : Int) by omega]; exact IntWalk.i64_in _ (by have := HLN.out; omega)
          have wm' : wrap64 ((K.length : Int) - 1) = (m : Int) := by rw [show (K.length : Int) - 1 = (m : Int) by omega]; exact IntWalk.wrap64_in _ (by have := HLN.out; omega)
          have l0 : (0 : Int) ≤ (m : Int) := by omega
          have l1 : (m : Int) < (K.length : Int) := by omega
          have l2 : ¬ ((K.length : Int) = 0) := by omega
          have l3 : ((K.length : Int) == 0) = false := beq_eq_false_iff_ne.2 l2
          obtain ⟨b, off, cap, he, hcp, hxx⟩ := HEK.out.inv (by omega)
          injection he with e1 _ e3
          subst e1 e3
          have x0 := (hxx m x hmx).1
          obtain ⟨xk, xz⟩ := x
          simp only at x0
          obtain ⟨d2, d1, hu2⟩ := hu.lastK hx
          have hrm := room_K (al := al) (z := z) m (by rw [hST, hSK]; exact hc) hx
          have hgk2 : gk = m + 1 := by rw [hgk]; simp; omega
          have hs2 : sumE ([] : List En) + sumE K.dropLast ≤ 1073741824 := by have := sum_dl hpK; have := HLM0.out; omega
          obtain ⟨gk2, hg2⟩ : ∃ q, m = q := ⟨_, rfl⟩
          rw [hg2] at hrm hgk2
          subst hgk2
          rw [hrm] at hroom
          have HRM := Lib.hid hroom
          have HD1 := Lib.hid d1
          have HD2 := Lib.hid d2
          have HU2 := Lib.hid hu2
          have HS2 := Lib.hid hs2
          have HLL : Hid (gk2 = ([] : List En).length + K.dropLast.length) := Lib.hid (by simp; omega)
          have HDL := Lib.hid hdl
          obtain ⟨bq, hbq⟩ : ∃ q, (hasS xk ([] : List En) K).isSome = q := ⟨_, rfl⟩
          have HBQ := Lib.hid hbq
          clear hroom d1 d2 hu2 hs2 hrm hmx hmd hm hxx hcp hx hg2 hbq hdl hgk h1 h2 h3 hST hSK hlT hlK hu hpT hpK hch hot
          go_wp2_with fail
          refine wp_region_held_drew (S := (fun w' => ∃ nn, w' = wr.drewN nn)) (by kernel_rfl) ?_ (fun hS => ?_)
          · exact ⟨1, rfl⟩
          refine tkY 0 ?_ rfl hS ?_ ?_
          rotate_left
          · rintro wz ⟨nz, rfl⟩
            go_simp
            all_goals first | with_reducible rfl | omega
          try simp only [Act.put, pu]
          refine tkY 1 ?_ rfl hS ?_ ?_
          rotate_left
          · rintro wz ⟨nz, rfl⟩
            go_simp
            all_goals first | with_reducible rfl | omega
          try simp only [Act.put, pu]
          refine tkY 2 ?_ rfl hS ?_ ?_
          rotate_left
          · rintro wz ⟨nz, rfl⟩
            go_simp
            all_goals first | with_reducible rfl | omega
          try simp only [Act.put, pu]
          refine tkY 3 ?_ rfl hS ?_ ?_
          rotate_left
          · rintro wz ⟨nz, rfl⟩
            go_simp
            all_goals first | with_reducible rfl | omega
          try simp only [Act.put, pu]
          refine tkY 5 ?_ rfl hS ?_ ?_
          rotate_left
          · rintro wz ⟨nz, rfl⟩
            go_simp
            all_goals first | with_reducible rfl | omega
          try simp only [Act.put, pu]
          refine tkY 6 ?_ rfl hS ?_ ?_
          rotate_left
          · rintro wz ⟨nz, rfl⟩
            go_simp
            all_goals first | with_reducible rfl | omega
          try simp only [Act.put, pu]
          refine tkY 7 ?_ rfl hS ?_ ?_
          rotate_left
          · rintro wz ⟨nz, rfl⟩
            go_simp
            all_goals first | with_reducible rfl | omega
          try simp only [Act.put, pu]
          refine tkY 8 ?_ rfl hS ?_ ?_
          rotate_left
          · rintro wz ⟨nz, rfl⟩
            go_simp
            all_goals first | with_reducible rfl | omega
          try simp only [Act.put, pu]
          refine tkY 11 ?_ rfl hS ?_ ?_
          rotate_left
          · rintro wz ⟨nz, rfl⟩
            go_simp
            all_goals first | with_reducible rfl | omega
          try simp only [Act.put, pu]
          refine tkY 13 ?_ rfl hS ?_ ?_
          rotate_left
          · rintro wz ⟨nz, rfl⟩
            go_simp
            all_goals first | with_reducible rfl | omega
          try simp only [Act.put, pu]
          refine tkY 14 ?_ rfl hS ?_ ?_
          rotate_left
          · rintro wz ⟨nz, rfl⟩
            go_simp
            all_goals first | with_reducible rfl | omega
          try simp only [Act.put, pu]
          refine tkY 15 ?_ rfl hS ?_ ?_
          rotate_left
          · rintro wz ⟨nz, rfl⟩
            go_simp
            all_goals first | with_reducible rfl | omega
          try simp only [Act.put, pu]
          refine tkY 16 ?_ rfl hS ?_ ?_
          rotate_left
          · rintro wz ⟨nz, rfl⟩
            go_simp
            all_goals first | with_reducible rfl | omega
          try simp only [Act.put, pu]
          refine wpAnyH_ready (rs := [4]) (by kernel_rfl) (by simp) (AllReadyH.cons rfl (fun K' hK' => ?_) AllReadyH.nil)
          · go_simp
            refine (rsum_to _ ([] : List En) _ (HET.out.below (show Below wr.heap.size wr wr.drew from below_drewN _ _ 1)) HPT.out (by have := HLM.out; omega) ST HST.out).mono ?_
            rintro e waT ⟨rfl, naT, rfl⟩
            refine hK'.out _ _ ?_ (fun hSn => ?_)
            · first | exact ⟨_, rfl⟩ | exact ⟨_, World.drewN_drewN wr 1 _⟩ | exact ⟨_, World.drewN_drewN wr _ _⟩
            clear hK' K' hS
            have hS := hSn
            clear hSn
            try simp only [Act.put, pu]
            refine wpAnyH_ready (rs := [9]) (by kernel_rfl) (by simp) (AllReadyH.cons rfl (fun K' hK' => ?_) AllReadyH.nil)
            go_simp
            refine (rsum_to _ K _ (HEK.out.below (below_drewN _ _ _)) HPK.out (by have := HLM.out; omega) SK HSK.out).mono ?_
            rintro e waK ⟨rfl, naK, rfl⟩
            refine hK'.out _ _ ?_ (fun hSn => ?_)
            · first | exact ⟨_, rfl⟩ | exact ⟨_, World.drewN_drewN wr 1 _⟩ | exact ⟨_, World.drewN_drewN wr _ _⟩
            clear hK' K' hS
            have hS := hSn
            clear hSn
            try simp only [Act.put, pu]
            refine tkY 10 ?_ rfl hS ?_ ?_
            rotate_left
            · rintro wz ⟨nz, rfl⟩
              go_simp
              all_goals first | with_reducible rfl | omega
            try simp only [Act.put, pu]
            refine tkY 12 ?_ rfl hS ?_ ?_
            rotate_left
            · rintro wz ⟨nz, rfl⟩
              go_simp
              all_goals first | with_reducible rfl | omega
            try simp only [Act.put, pu]
            refine tkY 17 (.bool true) rfl hS ?_ ?_
            · rintro wz ⟨nz, rfl⟩
              go_simp
              all_goals first | with_reducible rfl | omega
            try simp only [Act.put, pu]
            refine wpAnyH_done (by kernel_rfl) ?_ _
            clear hS
            obtain ⟨W, hW⟩ : ∃ W, (wr.drewN (1 + naT)).drewN naK = W := ⟨_, rfl⟩
            have hbd : Below wr.heap.size wr W := by rw [← hW]; exact (below_drewN _ _ _).trans (below_drewN _ _ _)
            rw [hW]
            have HBD := Lib.hid hbd
            have hbk := HBK.out.below hbd
            have p0 := hbk.cell 0
            have p1 := hbk.cell 1
            clear hW hbd hbk q0 q1 q2
            have x0W := (HBD.out.cell (World.block_lt_of_cell? _ _ x0)).trans x0
            clear x0
            go_wp2_with fail
            refine (rdrop_to w0 W g al ke mo ([] : List En) K (HRS.out.below HBD.out) HLN.out xk ([] : List En) K.dropLast bq HD1.out HD2.out HBQ.out).mono ?_
            rintro e w2 ⟨rfl, hr2, hc2⟩
            have hcw : Chg (fun b => b = g) wr w2 := (Chg.of_below HBD.out).trans hc2
            have HO2 := Lib.hid (HO.out.chg hcw (HO.out.ng HBK.out))
            have HR2' := Lib.hid hr2
            have HC2 := Lib.hid (HC.out.trans hcw)
            have hbx : Below w2.heap.size w2 (w2.alloc (.cells #[.string xk] 9)) := (Below.refl _ _).alloc (Nat.le_refl _) _
            have HBX := Lib.hid hbx
            clear hr2 hc2 hcw hbx p0 p1 x0W
            go_wp2_with (at_builtin; refine wpList_app_text w.heap.size (.slice ua D.length uc) D xk w2.heap.size rfl _ _ rfl rfl (HO2.out.below HBX.out) rfl (Bk.new w2 _ _) (by have := HDL.out; have := HN0.out; omega) (by have := HC2.out.size; simp; omega) ?_; intro g9 cap9 w9 o9 gr9)
            have hty := (HO2.out.below HBX.out).ty
            have hr9 : RS w0 w9 g al ke mo ([] : List En) K.dropLast := (HR2'.out.below HBX.out).chg ((Chg.refl (fun b => (Value.slice ua D.length uc).ownBlock = some b) _).grown gr9 fun q hq _ => hq) fun q hq => ⟨Nat.le_trans HR.out.bel.size (hty q hq).1, (hty q hq).2⟩
            have hc9 : Chg (fun b => b = g) w w9 := (HC2.out.alloc _).grown gr9 fun q hq hlt => by have := (hty q hq).1; omega
            have HR9 := Lib.hid hr9
            have HC9 := Lib.hid hc9
            have HO9 := Lib.hid o9
            clear hty hr9 hc9 o9 gr9
            go_wp2
            go_roundg gk2
            case measure => exact Nat.lt_succ_self _
            case rel =>
              refine ⟨([] : List En), K.dropLast, D ++ [xk], HLL.out, HU2.out, HPT.out, HPK.out.dl, HS2.out, HR9.out, HC9.out, ⟨_, _, by rw [List.length_append]; rfl⟩, by have := HO9.out; simpa using this, by have := HDL.out; rw [List.length_append]; simp; omega, ?_⟩
              rw [HRM.out]
              simp
end Go.Proofs.YtjngangojgjceaaGreat.SL
namespace Go.Proofs.YtjngangojgjceaaGreat.SL
open Go.ChangeShapes Go.WideShapes Go.ChangeAt Go.RowKit Go.Maps Go.ChangeMaps
set_option maxRecDepth 100000
set_option linter.unusedVariables false
set_option linter.unusedSimpArgs false

theorem rput_low (w0 w : World) (g : Nat) (al ke mo : Int) (T K : List En) (h : RS w0 w g al ke mo T K) (k : ByteArray) (z : Int) (hz : z < 1) :
    Calls Tryz.prog 40 #[ptr g, .string k, .int .i64 z] w fun e w' => e = .returned (.tuple #[.slice none 0 0, .int .i64 1]) ∧ w = w' := by
  clear h
  go_enter Tryz.func40, Tryz.ntmps40
  go_wp2
  go_ret2
  exact ⟨rfl, rfl⟩
theorem rput_big (w0 w : World) (g : Nat) (al ke mo : Int) (T K : List En) (h : RS w0 w g al ke mo T K) (k : ByteArray) (z : Int) (hz : 1 ≤ z) (hm : mo < z) :
    Calls Tryz.prog 40 #[ptr g, .string k, .int .i64 z] w fun e w' => e = .returned (.tuple #[.slice none 0 0, .int .i64 2]) ∧ w = w' := by
  obtain ⟨aT, cT, aK, cK, h1, _⟩ := h
  have q4 := h1.cell 4
  have nz : ¬ (z < 1) := by omega
  clear h1 hz
  go_enter Tryz.func40, Tryz.ntmps40
  go_wp2
  go_ret2
  exact ⟨rfl, rfl⟩
set_option maxHeartbeats 1000000 in
theorem rnew_yes (w0 w : World) (h0 : Below w0.heap.size w0 w) (al ke mo : Int) (hb : okB al ke mo) :
    Calls Tryz.prog 29 #[.int .i64 al, .int .i64 ke, .int .i64 mo] w fun e w' => ∃ g, e = .returned (.tuple #[ptr g, .int .i64 0]) ∧ RS w0 w' g al ke mo [] [] ∧ Below w.heap.size w w' := by
  obtain ⟨b1, b2, b3, b4, b5, b6⟩ := hb
  have n1 : ¬ (al < 1) := by omega
  have n2 : ¬ (1073741824 < al) := by omega
  have n3 : ¬ (ke < 0) := by omega
  have n4 : ¬ (al < ke) := by omega
  have n5 : ¬ (mo < 1) := by omega
  have n6 : ¬ (al < mo) := by omega
  have hbk := Bk.new w 71 #[.slice none 0 0, .slice none 0 0, .int .i64 al, .int .i64 ke, .int .i64 mo]
  have hbl : Below w.heap.size w (w.alloc (.cells #[.slice none 0 0, .slice none 0 0, .int .i64 al, .int .i64 ke, .int .i64 mo] 71)) := (Below.refl _ _).alloc (Nat.le_refl _) _
  have HBK := Lib.hid hbk
  have HBL := Lib.hid hbl
  have H0 := Lib.hid h0
  clear hbk hbl h0 b1 b2 b3 b4 b5 b6
  go_enter Tryz.func29, Tryz.ntmps29
  go_wp2
  go_ret2
  exact ⟨_, rfl, ⟨none, 0, none, 0, HBK.out, EO.nil _ _, EO.nil _ _, (fun q hq => by cases hq), (fun q hq => by cases hq), H0.out.size, H0.out.trans (HBL.out.mono H0.out.size)⟩, HBL.out⟩
set_option maxHeartbeats 2000000 in
theorem rnew_no (al ke mo : Int) (w : World) (h : ¬ okB al ke mo) : Calls Tryz.prog 29 #[.int .i64 al, .int .i64 ke, .int .i64 mo] w fun e w' => e = .returned (.tuple #[ptr w.heap.size, .int .i64 1]) ∧ Below w.heap.size w w' := by
  by_cases c0 : al < 1
  · have b0 : decide (al < 1) = true := decide_eq_true c0
    clear h c0
    go_enter Tryz.func29, Tryz.ntmps29
    go_wp2
    go_ret2
    exact ⟨rfl, (Below.refl _ _).alloc (Nat.le_refl _) _⟩
  have a0 : decide (al < 1) = false := decide_eq_false c0
  by_cases c1 : 1073741824 < al
  · have b1 : decide (1073741824 < al) = true := decide_eq_true c1
    clear h c0 c1
    go_enter Tryz.func29, Tryz.ntmps29
    go_wp2
    go_ret2
    exact ⟨rfl, (Below.refl _ _).alloc (Nat.le_refl _) _⟩
  have a1 : decide (1073741824 < al) = false := decide_eq_false c1
  by_cases c2 : ke < 0
  · have b2 : decide (ke < 0) = true := decide_eq_true c2
    clear h c0 c1 c2
    go_enter Tryz.func29, Tryz.ntmps29
    go_wp2
    go_ret2
    exact ⟨rfl, (Below.refl _ _).alloc (Nat.le_refl _) _⟩
  have a2 : decide (ke < 0) = false := decide_eq_false c2
  by_cases c3 : al < ke
  · have b3 : decide (al < ke) = true := decide_eq_true c3
    clear h c0 c1 c2 c3
    go_enter Tryz.func29, Tryz.ntmps29
    go_wp2
    go_ret2
    exact ⟨rfl, (Below.refl _ _).alloc (Nat.le_refl _) _⟩
  have a3 : decide (al < ke) = false := decide_eq_false c3
  by_cases c4 : mo < 1
  · have b4 : decide (mo < 1) = true := decide_eq_true c4
    clear h c0 c1 c2 c3 c4
    go_enter Tryz.func29, Tryz.ntmps29
    go_wp2
    go_ret2
    exact ⟨rfl, (Below.refl _ _).alloc (Nat.le_refl _) _⟩
  have a4 : decide (mo < 1) = false := decide_eq_false c4
  by_cases c5 : al < mo
  · have b5 : decide (al < mo) = true := decide_eq_true c5
    clear h c0 c1 c2 c3 c4 c5
    go_enter Tryz.func29, Tryz.ntmps29
    go_wp2
    go_ret2
    exact ⟨rfl, (Below.refl _ _).alloc (Nat.le_refl _) _⟩
  have a5 : decide (al < mo) = false := decide_eq_false c5
  exact absurd ⟨by omega, by omega, by omega, by omega, by omega, by omega⟩ h
end Go.Proofs.YtjngangojgjceaaGreat.SL
namespace Go.Proofs.YtjngangojgjceaaGreat.SL
open Go.ChangeShapes Go.WideShapes Go.ChangeAt Go.RowKit Go.Maps Go.ChangeMaps
set_option maxRecDepth 100000
set_option linter.unusedVariables false
set_option linter.unusedSimpArgs false

theorem rtouch_no (w0 w : World) (g : Nat) (al ke mo : Int) (T K : List En) (h : RS w0 w g al ke mo T K) (hl : T.length ≤ 1073741824 ∧ K.length ≤ 1073741824) (k : ByteArray) (hk : hasS k T K = none) :
    Calls Tryz.prog 49 #[ptr g, .string k] w fun e w' => e = .returned (.tuple #[.slice none 0 0, .bool false]) ∧ ∃ n, w' = w.drewN n := by
  have HR := Lib.hid h
  have HL := Lib.hid hl
  have HZ : Hid (HasV (hasS k T K) = .tuple #[.int .i64 0, .bool false]) := Lib.hid (by rw [hk]; rfl)
  clear h hl hk
  go_enter Tryz.func49, Tryz.ntmps49
  go_wp2_with fail
  refine (rhas_to w0 w g al ke mo T K HR.out HL.out k _ HZ.out).mono ?_
  rintro e w1 ⟨rfl, n1, rfl⟩
  go_wp2
  go_ret2
  exact ⟨rfl, _, rfl⟩
end Go.Proofs.YtjngangojgjceaaGreat.SL
namespace Go.Proofs.YtjngangojgjceaaGreat.SL
open Go.ChangeShapes Go.WideShapes Go.ChangeAt Go.RowKit Go.Maps Go.ChangeMaps
set_option maxRecDepth 100000
set_option linter.unusedVariables false
set_option linter.unusedSimpArgs false

theorem ty_e1 : (138 : TypeId) ≠ 124 := by decide
theorem ty_e2 : (138 : TypeId) ≠ 148 := by decide
theorem ty_s1 : (71 : TypeId) ≠ 124 := by decide
theorem ty_s2 : (71 : TypeId) ≠ 148 := by decide
/-- blocks of other types are none of the store's -/
theorem St.other {w : World} {g n : Nat} {al ke mo : Int} {x : Sx} (h : St w g n al ke mo x) {b : Nat} {cur : Array Value} {t : TypeId} {fz : Nat × Nat} (hb : w.heap[b]? = some (.cells cur t fz)) (h1 : t ≠ 124) (h2 : t ≠ 148) : ¬ x.own g b := by
  intro ho
  rcases ho with rfl | rfl | ho
  · have := h.bk
    unfold Bk at this
    rw [hb] at this
    injection this with this
    injection this with _ ht
    exact h1 ht
  · obtain ⟨D, ⟨es, clock, hm, _⟩, _⟩ := h.mp
    rw [hb] at hm
    cases hm
  · have := h.nn b ho
    unfold Bk at this
    rw [hb] at this
    injection this with this
    injection this with _ ht
    exact h2 ht
/-- the document's store, but for what the world was -/
def RSc (B : Nat) (w : World) (g : Nat) (al ke mo : Int) (T K : List En) (aT : Option Addr) (cT : Nat) (aK : Option Addr) (cK : Nat) : Prop :=
  Bk w g 71 #[.slice aT T.length cT, .slice aK K.length cK, .int .i64 al, .int .i64 ke, .int .i64 mo] ∧ EO B w (.slice aT T.length cT) T ∧ EO B w (.slice aK K.length cK) K ∧
    (∀ q, (Value.slice aT T.length cT).ownBlock = some q → q ≠ g) ∧ (∀ q, (Value.slice aK K.length cK).ownBlock = some q → q ≠ g) ∧ B ≤ g
def RSo (g : Nat) (v1 v2 : Value) (b : Nat) : Prop := b = g ∨ v1.ownBlock = some b ∨ v2.ownBlock = some b
theorem EO.keepB {B : Nat} {w w' : World} {v : Value} {l : List En} (h : EO B w v l) (hk : ∀ b, v.ownBlock = some b → w'.heap[b]? = w.heap[b]?) : EO B w' v l := by
  refine ⟨h.1, ?_⟩
  rcases h.2 with h2 | ⟨g, cap, cur, rfl, hbb, hg, hr⟩
  · exact .inl h2
  · exact .inr ⟨g, cap, cur, rfl, hbb, (hk g rfl).trans hg, hr⟩
theorem EO.ty {B : Nat} {w : World} {v : Value} {l : List En} (h : EO B w v l) : ∀ b, v.ownBlock = some b → b < w.heap.size ∧ ∃ cur fz, w.heap[b]? = some (.cells cur 138 fz) := by
  intro b hb
  refine ⟨(World.ownsRow.lt h b hb).2, ?_⟩
  rcases h.2 with ⟨rfl, _⟩ | ⟨q, cap, cur, rfl, hbb, hg, hr⟩
  · cases hb
  · injection hb with hb
    subst hb
    exact ⟨cur, _, hg⟩
/-- a store of the code with these entries; the document's with those; lists of texts that were told -/
def LR (w0 w : World) (g n : Nat) (al ke mo : Int) (T K : List En) (r : Nat) (T' K' : List En) (O : List Kp) : Prop :=
  ∃ P S, LS w0 w g n al ke mo T K (.keep P S :: O) ∧ ∀ w1, P w1 → Below w0.heap.size w0 w1 → RS w0 w1 r al ke mo T' K'
section
variable {w0 w w' : World} {g n r : Nat} {al ke mo : Int} {T K T' K' : List En} {O : List Kp}
theorem LR.ls (h : LR w0 w g n al ke mo T K r T' K' O) : LS w0 w g n al ke mo T K O := by
  obtain ⟨P, S, h1, _⟩ := h
  exact h1.forget fun p hp => List.mem_cons_of_mem _ hp
theorem LR.rs (h : LR w0 w g n al ke mo T K r T' K' O) : RS w0 w r al ke mo T' K' := by
  obtain ⟨P, S, h1, h2⟩ := h
  refine h2 _ ?_ h1.bel
  obtain ⟨x, _, _, _, _, _, h6⟩ := h1
  exact (h6 _ (List.mem_cons_self ..)).1
theorem LR.mk (h : LS w0 w g n al ke mo T K O) (hr : RS w0 w r al ke mo T' K') : LR w0 w g n al ke mo T K r T' K' O := by
  obtain ⟨aT, cT, aK, cK, r1, r2, r3, r4, r5, r6, r7⟩ := hr
  obtain ⟨x, h1, h2, h3, h4, h5, h6⟩ := h
  refine ⟨fun w1 => RSc w0.heap.size w1 r al ke mo T' K' aT cT aK cK, RSo r (.slice aT T'.length cT) (.slice aK K'.length cK), ⟨x, h1, h2, h3, h4, h5, fun p hp => ?_⟩, fun w1 ⟨q1, q2, q3, q4, q5, q6⟩ hb => ⟨aT, cT, aK, cK, q1, q2, q3, q4, q5, q6, hb⟩⟩
  rcases List.mem_cons.1 hp with rfl | hp
  · refine ⟨⟨r1, r2, r3, r4, r5, r6⟩, fun b hb => ?_, fun w1 w2 ⟨q1, q2, q3, q4, q5, q6⟩ hk => ⟨q1.heap (hk _ (.inl rfl)), q2.keepB fun b hb => hk _ (.inr (.inl hb)), q3.keepB fun b hb => hk _ (.inr (.inr hb)), q4, q5, q6⟩⟩
    rcases hb with rfl | hb | hb
    · exact ⟨r1.lt, h1.other (show w.heap[b]? = _ from r1) ty_s1 ty_s2⟩
    · obtain ⟨hl, cur, fz, hc⟩ := r2.ty b hb
      exact ⟨hl, h1.other hc ty_e1 ty_e2⟩
    · obtain ⟨hl, cur, fz, hc⟩ := r3.ty b hb
      exact ⟨hl, h1.other hc ty_e1 ty_e2⟩
  · exact h6 p hp
theorem LR.forget (h : LR w0 w g n al ke mo T K r T' K' O) {O' : List Kp} (hO : ∀ p ∈ O', p ∈ O) : LR w0 w g n al ke mo T K r T' K' O' := by
  obtain ⟨P, S, h1, h2⟩ := h
  exact ⟨P, S, h1.forget fun p hp => (List.mem_cons.1 hp).elim (fun e => e ▸ List.mem_cons_self ..) fun h => List.mem_cons_of_mem _ (hO p h), h2⟩
theorem LR.below (h : LR w0 w g n al ke mo T K r T' K' O) (hb : Below w.heap.size w w') : LR w0 w' g n al ke mo T K r T' K' O := by
  obtain ⟨P, S, h1, h2⟩ := h
  exact ⟨P, S, h1.below hb, h2⟩
theorem LR.swap {P : World → Prop} {S : Nat → Prop} {q : Kp} (h1 : LS w0 w g n al ke mo T K (q :: .keep P S :: O)) (h2 : ∀ w1, P w1 → Below w0.heap.size w0 w1 → RS w0 w1 r al ke mo T' K') : LR w0 w g n al ke mo T K r T' K' (q :: O) :=
  ⟨P, S, h1.forget (fun p hp => by
    rcases List.mem_cons.1 hp with rfl | hp
    · exact List.mem_cons_of_mem _ (List.mem_cons_self ..)
    · rcases List.mem_cons.1 hp with rfl | hp
      · exact List.mem_cons_self ..
      · exact List.mem_cons_of_mem _ (List.mem_cons_of_mem _ hp)), h2⟩
theorem LR.box (h : LR w0 w g n al ke mo T K r T' K' O) (t : TypeId) (cs : Array Value) : LR w0 (w.alloc (.cells cs t)) g n al ke mo T K r T' K' (.blk w.heap.size t cs :: O) := by
  obtain ⟨P, S, h1, h2⟩ := h
  exact LR.swap (h1.box t cs) h2
/-- what a call tells beside both stores -/
def LRP (w0 : World) (g n : Nat) (al ke mo : Int) (T K : List En) (r : Nat) (T' K' : List En) (O : List Kp) (G : List ByteArray) (f : Value → Value) (e : Ending) (w' : World) : Prop :=
  ∃ v c, e = .returned (f (.slice v G.length c)) ∧ LR w0 w' g n al ke mo T K r T' K' (.txt (.slice v G.length c) G :: O)
abbrev two (a v : Value) : Value := .tuple #[v, a]
theorem lr_put (h : LR w0 w g n al ke mo T K r T' K' O) (hal : mo ≤ al ∧ al ≤ 1073741824) (hn : n < 1099511627776) (hT : kLe T) (hK : kLe K) (k : ByteArray) (hk : k.size ≤ 281474976710656) (z : Int) (hz : 1 ≤ z) (hm : z ≤ mo) (T2 K2 : List En) (G : List ByteArray) (hR : putE al k z T K = (T2, K2, G)) :
    Calls Tryz.prog 32 #[ptr g, .string k, .int .i64 z] w (LRP w0 g (n + 1) al ke mo T2 K2 r T' K' O G (two (.int .i64 0))) := by
  obtain ⟨P, S, h1, h2⟩ := h
  refine (put_to h1 hal hn hT hK k hk z hz hm _ hR).mono ?_
  rintro e w1 ⟨v, c, rfl, h3⟩
  exact ⟨v, c, rfl, LR.swap h3 h2⟩
theorem lr_touch (h : LR w0 w g n al ke mo T K r T' K' O) (hke : 0 ≤ ke) (hsk : sumE K ≤ ke) (k : ByteArray) (hk : k.size ≤ 281474976710656) (z : Int) (hz : hasS k T K = some z) (T2 K2 : List En) (G : List ByteArray) (hR : touchE ke k z T K = (T2, K2, G)) :
    Calls Tryz.prog 47 #[ptr g, .string k] w (LRP w0 g n al ke mo T2 K2 r T' K' O G (two (.bool true))) := by
  obtain ⟨P, S, h1, h2⟩ := h
  refine (touch_to h1 hke hsk k hk z hz _ hR).mono ?_
  rintro e w1 ⟨v, c, rfl, h3⟩
  exact ⟨v, c, rfl, LR.swap h3 h2⟩
theorem lr_drop (h : LR w0 w g n al ke mo T K r T' K' O) (k : ByteArray) (hk : k.size ≤ 281474976710656) (T2 K2 : List En) (b : Bool) (hT : delE k T = T2) (hK : delE k K = K2) (hb : (hasS k T K).isSome = b) :
    Calls Tryz.prog 50 #[ptr g, .string k] w fun e w' => e = .returned (.bool b) ∧ LR w0 w' g n al ke mo T2 K2 r T' K' O := by
  obtain ⟨P, S, h1, h2⟩ := h
  refine (drop_to h1 k hk T2 K2 b hT hK hb).mono ?_
  rintro e w1 ⟨rfl, h3⟩
  exact ⟨rfl, P, S, h3, h2⟩
theorem lr_keysT (h : LR w0 w g n al ke mo T K r T' K' O) (d : List ByteArray) (hd : keysE T = d) :
    Calls Tryz.prog 94 #[ptr g, .bool false] w (LRP w0 g n al ke mo T K r T' K' O d id) := by
  obtain ⟨P, S, h1, h2⟩ := h
  subst hd
  refine (ls_keysT h1).mono ?_
  rintro e w1 ⟨v, c, rfl, h3⟩
  exact ⟨v, c, rfl, LR.swap h3 h2⟩
theorem lr_keysK (h : LR w0 w g n al ke mo T K r T' K' O) (d : List ByteArray) (hd : keysE K = d) :
    Calls Tryz.prog 94 #[ptr g, .bool true] w (LRP w0 g n al ke mo T K r T' K' O d id) := by
  obtain ⟨P, S, h1, h2⟩ := h
  subst hd
  refine (ls_keysK h1).mono ?_
  rintro e w1 ⟨v, c, rfl, h3⟩
  exact ⟨v, c, rfl, LR.swap h3 h2⟩
theorem lr_bytesT (h : LR w0 w g n al ke mo T K r T' K' O) (z : Int) (hz : sumE T = z) :
    Calls Tryz.prog 60 #[ptr g, .bool false] w fun e w' => e = .returned (.int .i64 z) ∧ LR w0 w' g n al ke mo T K r T' K' O := by
  obtain ⟨P, S, h1, h2⟩ := h
  subst hz
  refine (ls_bytesT h1).mono ?_
  rintro e w1 ⟨rfl, h3⟩
  exact ⟨rfl, P, S, h3, h2⟩
theorem lr_bytesK (h : LR w0 w g n al ke mo T K r T' K' O) (z : Int) (hz : sumE K = z) :
    Calls Tryz.prog 60 #[ptr g, .bool true] w fun e w' => e = .returned (.int .i64 z) ∧ LR w0 w' g n al ke mo T K r T' K' O := by
  obtain ⟨P, S, h1, h2⟩ := h
  subst hz
  refine (ls_bytesK h1).mono ?_
  rintro e w1 ⟨rfl, h3⟩
  exact ⟨rfl, P, S, h3, h2⟩
end
end Go.Proofs.YtjngangojgjceaaGreat.SL
namespace Go.Proofs.YtjngangojgjceaaGreat.SL
open Go.ChangeShapes Go.WideShapes Go.ChangeAt Go.RowKit Go.Maps Go.ChangeMaps
set_option maxRecDepth 100000
set_option linter.unusedVariables false
set_option linter.unusedSimpArgs false

def TchP (w0 w : World) (g : Nat) (al ke mo : Int) (T9 K9 : List En) (G : List ByteArray) (e : Ending) (w' : World) : Prop :=
  ∃ v c, e = .returned (.tuple #[.slice v G.length c, .bool true]) ∧ OT w.heap.size w' (.slice v G.length c) G ∧ RS w0 w' g al ke mo T9 K9 ∧ Chg (fun b => b = g) w w'
set_option maxHeartbeats 8000000 in
theorem rtouch_big (w0 w : World) (g : Nat) (al ke mo : Int) (T0 K0 : List En) (h : RS w0 w g al ke mo T0 K0) (hl : T0.length ≤ 1073741824 ∧ K0.length ≤ 1073741824) (k : ByteArray) (z : Int) (hz : hasS k T0 K0 = some z) (p : Nat) (hp : placeE T0 k = some p) (hk : ke < z)
    (T1 K1 : List En) (hT1 : delE k T0 = T1) (hK1 : delE k K0 = K1) (hlT : T1.length ≤ 1073741824) :
    Calls Tryz.prog 49 #[ptr g, .string k] w (TchP w0 w g al ke mo ((k, z) :: T1) K1 []) := by
  have HR := Lib.hid h
  have HL := Lib.hid hl
  have HZ : Hid (HasV (hasS k T0 K0) = .tuple #[.int .i64 z, .bool true]) := Lib.hid (by rw [hz]; rfl)
  have HB : Hid ((hasS k T0 K0).isSome = true) := Lib.hid (by rw [hz]; rfl)
  have HP : Hid ((match placeE T0 k with | some i => (i : Int) | none => -1) = (p : Int)) := Lib.hid (by rw [hp])
  have HT1 := Lib.hid hT1
  have HK1 := Lib.hid hK1
  have HLT := Lib.hid hlT
  have dk : decide (ke < z) = true := decide_eq_true hk
  have dp : decide ((0 : Int) ≤ (p : Int)) = true := decide_eq_true (by omega)
  clear h hl hz hp hT1 hK1 hlT
  go_enter Tryz.func49, Tryz.ntmps49
  go_wp2_with fail
  refine (rhas_to w0 w g al ke mo T0 K0 HR.out HL.out k _ HZ.out).mono ?_
  rintro e w1 ⟨rfl, n1, hw1⟩
  have hb1 : Below w.heap.size w w1 := by rw [hw1]; exact below_drewN _ _ _
  have HB1 := Lib.hid hb1
  have HR1 := Lib.hid (HR.out.below hb1)
  clear hw1 hb1 HR
  obtain ⟨aT, cT, aK, cK, r1, r2, r3, r4, r5, r6, r7⟩ := HR1.out
  have HG := Lib.hid r1.lt
  have hbl : Below w1.heap.size w1 (w1.alloc (.cells #[.string k, .int .i64 z] 138)) := (Below.refl _ _).alloc (Nat.le_refl _) _
  have HER := Lib.hid (r2.below hbl).er
  have c0 := (r1.below hbl).cell 0
  have HRA := Lib.hid (HR1.out.below hbl)
  have HBA := Lib.hid hbl
  clear r1 r2 r3 r4 r5 r6 r7 hbl
  go_wp2_with fail
  refine (rplace_to _ T0 k _ HER.out HL.out.1 _ HP.out).mono ?_
  rintro e w2 ⟨rfl, n2, hw2⟩
  have hb2 : Below w1.heap.size w1 w2 := by rw [hw2]; exact HBA.out.trans (below_drewN _ _ _)
  have HB2 := Lib.hid hb2
  have HR2 := Lib.hid (HR1.out.below hb2)
  have kx2 : Bk w2 w1.heap.size 138 #[.string k, .int .i64 z] := by rw [hw2]; exact (Bk.new w1 _ _).below (below_drewN _ _ _)
  have KX2 := Lib.hid kx2
  clear hw2 hb2 kx2 c0 HER HRA HBA
  go_wp2_with fail
  refine (rdrop_to w0 w2 g al ke mo T0 K0 HR2.out HL.out k T1 K1 _ HT1.out HK1.out HB.out).mono ?_
  rintro e w3 ⟨rfl, hr3, hc3⟩
  have HR3 := Lib.hid hr3
  have HC3 := Lib.hid ((Chg.of_below (S := fun b => b = g) HB1.out).trans ((Chg.of_below (S := fun b => b = g) (HB2.out)).trans hc3))
  have hx3 := KX2.out.chg hc3 (fun e => by have := HG.out; omega)
  obtain ⟨aT3, cT3, aK3, cK3, r1, r2, r3, r4, r5, r6, r7⟩ := hr3
  have x0 := hx3.cell 0
  have x1 := hx3.cell 1
  have d0 := r1.cell 0
  have d1 := r1.cell 1
  have d3 := r1.cell 3
  have HX3 := Lib.hid hx3
  have HE3 := Lib.hid r2
  have HBK3 := Lib.hid r1
  clear r1 r2 r3 r4 r5 r6 r7 hc3 hx3 HR2 KX2
  go_wp2_with fail
  go_region_with (go_at_call 80; refine (rahead_to _ T1 (k, z) _ (HE3.out.er.below (show Below w3.heap.size w3 w3.drew from below_drewN _ _ 1)) HLT.out _ rfl).mono ?_; rintro e w4 ⟨v4, c4, rfl, o4, b4⟩; have hb4 : Below w3.heap.size w3 w4 := (show Below w3.heap.size w3 w3.drew from below_drewN _ _ 1).trans b4; have hk4 := HBK3.out.below hb4; have f4 := hk4.frozen 0; have s4 := hk4.cell 0; have HO4 := Lib.hid o4; have HB4 := Lib.hid hb4; clear hk4 o4 b4 hb4)
  all_goals
    go_wp2
    go_ret2
    have hr5 := (HR3.out.below HB4.out).setT (HO4.out.mono HR3.out.bel.size) (HO4.out.off (g := g) HBK3.out.lt)
    exact ⟨none, 0, rfl, OT.nil _ _, hr5, (HC3.out.trans (Chg.of_below HB4.out)).setCell (p := ⟨g, 0, none⟩) rfl _⟩
end Go.Proofs.YtjngangojgjceaaGreat.SL
namespace Go.Proofs.YtjngangojgjceaaGreat.SL
open Go.ChangeShapes Go.WideShapes Go.ChangeAt Go.RowKit Go.Maps Go.ChangeMaps
set_option maxRecDepth 100000
set_option linter.unusedVariables false
set_option linter.unusedSimpArgs false

theorem key_del (k : ByteArray) (l : List En) : k ∉ keysE (delE k l) := fun h => by
  obtain ⟨y, hy, e⟩ := List.mem_map.1 h
  have := (List.mem_filter.1 hy).2
  simp at this
  exact this e
theorem UK.ins {T K : List En} (h : UK T K) (k : ByteArray) (z : Int) : UK (delE k T) ((k, z) :: delE k K) := by
  have hd := h.del k
  refine ⟨hd.t, ?_, fun q hq hq2 => ?_⟩
  · show (k :: keysE (delE k K)).Nodup
    exact List.nodup_cons.2 ⟨key_del k K, hd.k⟩
  · rcases List.mem_cons.1 (show q ∈ k :: keysE (delE k K) from hq2) with rfl | hq2
    · exact key_del _ _ hq
    · exact hd.ap q hq hq2
theorem UK.mv {T K : List En} (h : UK T K) {x : En} (hx : K.getLast? = some x) : UK (x :: T) K.dropLast := by
  obtain ⟨e1, e2, h3⟩ := h.lastK hx
  refine ⟨?_, h3.k, fun q hq hq2 => ?_⟩
  · show (x.1 :: keysE T).Nodup
    exact List.nodup_cons.2 ⟨fun hm => h.ap _ hm (List.mem_map_of_mem (List.mem_of_getLast? hx)), h.t⟩
  · rcases List.mem_cons.1 (show q ∈ x.1 :: keysE T from hq) with rfl | hq
    · rw [← e1] at hq2
      exact key_del _ _ hq2
    · exact h3.ap q hq hq2
theorem sum_mv {K : List En} {x : En} (hx : K.getLast? = some x) : sumE K = sumE K.dropLast + x.2 := by
  have := congrArg sumE (last_app hx)
  rw [sum_app, sumE, sumE] at this
  omega
set_option maxHeartbeats 16000000 in
theorem rtouch_one (w0 w : World) (g : Nat) (al ke mo : Int) (T0 K0 : List En) (h : RS w0 w g al ke mo T0 K0) (hl : T0.length ≤ 1073741824 ∧ K0.length ≤ 1073741824) (k : ByteArray) (z : Int) (hz : hasS k T0 K0 = some z) (p : Nat) (hp : placeE T0 k = some p) (hk : z ≤ ke) (hke : 0 ≤ ke)
    (T1 K1 : List En) (hT1 : delE k T0 = T1) (hK1 : delE k K0 = K1) (hu : UK T1 ((k, z) :: K1)) (hpT : posE T1) (hpK : posE ((k, z) :: K1)) (hlim : sumE T1 + sumE ((k, z) :: K1) ≤ 1073741824) (T9 K9 : List En) (G : List ByteArray) (hR : shrE ke (K1.length + 1) T1 ((k, z) :: K1) = (T9, K9, G)) :
    Calls Tryz.prog 49 #[ptr g, .string k] w (TchP w0 w g al ke mo T9 K9 G) := by
  have HR := Lib.hid h
  have HRB : Hid (w0.heap.size ≤ w.heap.size) := Lib.hid h.bel.size
  have HL := Lib.hid hl
  have HZ : Hid (HasV (hasS k T0 K0) = .tuple #[.int .i64 z, .bool true]) := Lib.hid (by rw [hz]; rfl)
  have HB : Hid ((hasS k T0 K0).isSome = true) := Lib.hid (by rw [hz]; rfl)
  have HP : Hid ((match placeE T0 k with | some i => (i : Int) | none => -1) = (p : Int)) := Lib.hid (by rw [hp])
  have HT1 := Lib.hid hT1
  have HK1 := Lib.hid hK1
  have HU := Lib.hid hu
  have HPT := Lib.hid hpT
  have HPK := Lib.hid hpK
  have HLM := Lib.hid hlim
  have HRR := Lib.hid hR
  have HKE := Lib.hid hke
  have hlK := sum_pos hpK
  have hlT := sum_pos hpT
  have hsT := sum_nonneg hpT
  have hsK := sum_nonneg hpK
  have HLK : Hid (K1.length + 1 ≤ 1073741824) := Lib.hid (by rw [List.length_cons] at hlK; omega)
  have dk : decide (ke < z) = false := decide_eq_false (by omega)
  have dp : decide ((0 : Int) ≤ (p : Int)) = true := decide_eq_true (by omega)
  clear h hl hz hp hT1 hK1 hu hpT hpK hlim hR hlK hlT hsT hsK hk hke
  go_enter Tryz.func49, Tryz.ntmps49
  go_wp2_with fail
  refine (rhas_to w0 w g al ke mo T0 K0 HR.out HL.out k _ HZ.out).mono ?_
  rintro e w1 ⟨rfl, n1, hw1⟩
  have hb1 : Below w.heap.size w w1 := by rw [hw1]; exact below_drewN _ _ _
  have HB1 := Lib.hid hb1
  have HR1 := Lib.hid (HR.out.below hb1)
  clear hw1 hb1
  obtain ⟨aT, cT, aK, cK, r1, r2, r3, r4, r5, r6, r7⟩ := HR1.out
  have HG := Lib.hid r1.lt
  have HGW := Lib.hid r6
  have hbl : Below w1.heap.size w1 (w1.alloc (.cells #[.string k, .int .i64 z] 138)) := (Below.refl _ _).alloc (Nat.le_refl _) _
  have HER := Lib.hid (r2.below hbl).er
  have c0 := (r1.below hbl).cell 0
  have HBA := Lib.hid hbl
  clear r1 r2 r3 r4 r5 r6 r7 hbl
  go_wp2_with fail
  refine (rplace_to _ T0 k _ HER.out HL.out.1 _ HP.out).mono ?_
  rintro e w2 ⟨rfl, n2, hw2⟩
  have hb2 : Below w1.heap.size w1 w2 := by rw [hw2]; exact HBA.out.trans (below_drewN _ _ _)
  have HB2 := Lib.hid hb2
  have HR2 := Lib.hid (HR1.out.below hb2)
  have kx2 : Bk w2 w1.heap.size 138 #[.string k, .int .i64 z] := by rw [hw2]; exact (Bk.new w1 _ _).below (below_drewN _ _ _)
  have KX2 := Lib.hid kx2
  clear hw2 hb2 kx2 c0 HER HBA
  go_wp2_with fail
  refine (rdrop_to w0 w2 g al ke mo T0 K0 HR2.out HL.out k T1 K1 _ HT1.out HK1.out HB.out).mono ?_
  rintro e w3 ⟨rfl, hr3, hc3⟩
  have HR3 := Lib.hid hr3
  have HC3 := Lib.hid ((Chg.of_below (S := fun b => b = g) HB1.out).trans ((Chg.of_below (S := fun b => b = g) (HB2.out)).trans hc3))
  have hx3 := KX2.out.chg hc3 (fun e => by have := HG.out; omega)
  obtain ⟨xb, hxb⟩ : ∃ b, w1.heap.size = b := ⟨_, rfl⟩
  have HXG : Hid (xb ≠ g) := Lib.hid (by have := HG.out; omega)
  rw [hxb] at hx3 ⊢
  obtain ⟨aT3, cT3, aK3, cK3, r1, r2, r3, r4, r5, r6, r7⟩ := hr3
  have x0 := hx3.cell 0
  have x1 := hx3.cell 1
  have d0 := r1.cell 0
  have d1 := r1.cell 1
  have d3 := r1.cell 3
  have HX3 := Lib.hid hx3
  have HE3 := Lib.hid r3
  have HBK3 := Lib.hid r1
  clear r1 r2 r3 r4 r5 r6 r7 hc3 hx3 HR2 KX2 HB2 HR1 HR HB1 hxb HG HGW
  go_wp2_with fail
  refine wp_region_held_drew (S := (fun w' => w'.cell? ⟨xb, 0, none⟩ = some (.string k) ∧ w'.cell? ⟨xb, 1, none⟩ = some (.int .i64 z))) (by kernel_rfl) ?_ (fun hS => ?_)
  · exact ⟨x0, x1⟩
  refine tkY 0 ?_ rfl hS ?_ ?_
  rotate_left
  · intro wz hz
    obtain ⟨z0, z1⟩ := hz
    go_simp
    all_goals first | with_reducible rfl | omega
  try simp only [Act.put, pu]
  refine tkY 1 ?_ rfl hS ?_ ?_
  rotate_left
  · intro wz hz
    obtain ⟨z0, z1⟩ := hz
    go_simp
    all_goals first | with_reducible rfl | omega
  try simp only [Act.put, pu]
  refine tkY 2 ?_ rfl hS ?_ ?_
  rotate_left
  · intro wz hz
    obtain ⟨z0, z1⟩ := hz
    go_simp
    all_goals first | with_reducible rfl | omega
  try simp only [Act.put, pu]
  refine tkY 3 ?_ rfl hS ?_ ?_
  rotate_left
  · intro wz hz
    obtain ⟨z0, z1⟩ := hz
    go_simp
    all_goals first | with_reducible rfl | omega
  try simp only [Act.put, pu]
  refine tkY 5 ?_ rfl hS ?_ ?_
  rotate_left
  · intro wz hz
    obtain ⟨z0, z1⟩ := hz
    go_simp
    all_goals first | with_reducible rfl | omega
  try simp only [Act.put, pu]
  refine wpAnyH_ready (rs := [4]) (by kernel_rfl) (by simp) (AllReadyH.cons rfl (fun K' hK' => ?_) AllReadyH.nil)
  go_simp
  refine hK'.out _ _ ?_ (fun hSn => ?_)
  · exact hS
  clear hK' K' hS
  have hS := hSn
  clear hSn
  try simp only [Act.put, pu]
  refine wpAnyH_ready (rs := [6]) (by kernel_rfl) (by simp) (AllReadyH.cons rfl (fun K' hK' => ?_) AllReadyH.nil)
  go_simp
  refine (rahead_to _ K1 (k, z) _ (HE3.out.er.below (show Below w3.heap.size w3 w3.drew from below_drewN _ _ 1)) (by have := HLK.out; omega) _ rfl).mono ?_
  rintro e w4 ⟨v4, c4, rfl, o4, b4⟩
  have hb4 : Below w3.heap.size w3 w4 := (show Below w3.heap.size w3 w3.drew from below_drewN _ _ 1).trans b4
  have hk4 := HBK3.out.below hb4
  have f4 := hk4.frozen 1
  have s4 := hk4.cell 1
  have hSC := ((HX3.out.below hb4).cell 0)
  have hSC := (show _ ∧ _ from ⟨(HX3.out.below hb4).cell 0, (HX3.out.below hb4).cell 1⟩)
  have HO4 := Lib.hid o4
  have HB4 := Lib.hid hb4
  clear hk4 o4 b4 hb4
  refine hK'.out _ _ ?_ (fun hSn => ?_)
  · exact hSC
  clear hK' K' hS
  have hS := hSn
  clear hSn
  try simp only [Act.put, pu]
  refine tkY 7 ?_ rfl hS ?_ ?_
  rotate_left
  · intro wz hz
    obtain ⟨z0, z1⟩ := hz
    go_simp
    all_goals first | with_reducible rfl | omega
  try simp only [Act.put, pu]
  refine tkY 8 ?_ rfl hS ?_ ?_
  rotate_left
  · intro wz hz
    obtain ⟨z0, z1⟩ := hz
    go_simp
    all_goals first | with_reducible rfl | omega
  try simp only [Act.put, pu]
  refine wpAnyH_ready (rs := [9]) (by kernel_rfl) (by simp) (AllReadyH.cons rfl (fun K' hK' => ?_) AllReadyH.nil)
  go_simp
  refine hK'.out _ _ ?_ (fun hSn => ?_)
  · have hk5 := (HX3.out.below HB4.out).far (p := ⟨g, 1, none⟩) HXG.out (.slice v4 ((k, z) :: K1).length c4)
    exact ⟨hk5.cell 0, hk5.cell 1⟩
  clear hK' K' hS hSn
  refine wpAnyH_done (by kernel_rfl) ?_ _
  have hr5 : RS w0 (w4.setCell ⟨g, 1, none⟩ (.slice v4 (K1.length + 1) c4)) g al ke mo T1 ((k, z) :: K1) := (HR3.out.below HB4.out).setK (HO4.out.mono HR3.out.bel.size) (HO4.out.off (g := g) HBK3.out.lt)
  have hc5 : Chg (fun b => b = g) w (w4.setCell ⟨g, 1, none⟩ (.slice v4 (K1.length + 1) c4)) := (HC3.out.trans (Chg.of_below HB4.out)).setCell (p := ⟨g, 1, none⟩) rfl _
  have HR5 := Lib.hid hr5
  have HC5 := Lib.hid hc5
  clear hr5 hc5 f4 s4 x0 x1 d0 d1 d3 HX3 HE3 HBK3 HXG HR3 HC3
  obtain ⟨w5, hw5⟩ : ∃ w5, w4.setCell ⟨g, 1, none⟩ (.slice v4 (K1.length + 1) c4) = w5 := ⟨_, rfl⟩
  rw [hw5]
  rw [hw5] at HR5 HC5
  clear HO4 HB4 hw5
  go_wp2
  go_loopg [10] (K1.length + 1) (fun gk u10 wx => ∃ (T K : List En) (D : List ByteArray), gk = K.length ∧ UK T K ∧ posE T ∧ posE K ∧ sumE T + sumE K ≤ 1073741824 ∧ RS w0 wx g al ke mo T K ∧ Chg (fun b => b = g) w wx ∧ (∃ a c, u10 = .slice a D.length c) ∧ OT w.heap.size wx u10 D ∧ D.length + gk = K1.length + 1 ∧
      shrE ke (K1.length + 1) T1 ((k, z) :: K1) = ((shrE ke gk T K).1, (shrE ke gk T K).2.1, D ++ (shrE ke gk T K).2.2))
  case atStart => exact ⟨T1, (k, z) :: K1, [], rfl, HU.out, HPT.out, HPK.out, HLM.out, HR5.out, HC5.out, ⟨_, _, rfl⟩, OT.nil _ _, by simp, rfl⟩
  case round =>
    obtain ⟨T, K, D, hgk, hu, hpT, hpK, hlm, hrs, hch, ⟨ua, uc, rfl⟩, hot, hdl, hshr⟩ := hrel
    have HRS := Lib.hid hrs
    have HC := Lib.hid hch
    have HO := Lib.hid hot
    have HU := Lib.hid hu
    have HPT := Lib.hid hpT
    have HPK := Lib.hid hpK
    have HLM0 := Lib.hid hlm
    have hsT := sum_nonneg hpT
    have hsK := sum_nonneg hpK
    have hlT := sum_pos hpT
    have hlK := sum_pos hpK
    obtain ⟨SK, hSK⟩ : ∃ S, sumE K = S := ⟨_, rfl⟩
    have HSK := Lib.hid hSK
    have HLS : Hid (sumE K ≤ 4611686018427387904) := Lib.hid (by omega)
    have HLN : Hid (T.length ≤ 1073741824 ∧ K.length ≤ 1073741824) := Lib.hid (by omega)
    obtain ⟨aT, cT, aK, cK, r1, r2, r3, r4, r5, r6, r7⟩ := hrs
    have HET := Lib.hid r2
    have HEK := Lib.hid r3
    have HBK := Lib.hid r1
    have q0 := r1.cell 0
    have q1 := r1.cell 1
    have q3 := r1.cell 3
    have HQ := Lib.hid (fun N => rsum_to (.slice aK K.length cK) K (wr.drewN N) (r3.er.below (below_drewN _ _ _)) hpK HLS.out SK hSK)
    rw [hSK] at hlm hsK hlK
    by_cases hc : ke < SK
    case neg =>
      have dc : decide (ke < SK) = false := decide_eq_false hc
      have hno : shrE ke gk T K = (T, K, []) := shr_no (by rw [hSK]; omega) gk
      rw [hno] at hshr
      have HRM := Lib.hid hshr
      have hG : G = D := by have := HRR.out; rw [HRM.out] at this; simp only [Prod.mk.injEq, List.append_nil] at this; exact this.2.2.symm
      have hT9 : T9 = T := by have := HRR.out; rw [HRM.out] at this; simp only [Prod.mk.injEq] at this; exact this.1.symm
      have hK9 : K9 = K := by have := HRR.out; rw [HRM.out] at this; simp only [Prod.mk.injEq] at this; exact this.2.1.symm
      subst hG hT9 hK9
      clear hshr hno r1 r2 r3 r4 r5 r6 r7 hSK hlT hlK hu hpT hpK hch hot hgk hlm hsT hsK HRR HRM hc
      go_wp2
      go_quiet ((go_at_call 61; (with_reducible exact Calls.quiet_of (HQ.out _))))
      go_wp2
      go_ret2
      exact ⟨_, _, rfl, HO.out.below (below_drewN _ _ _), HRS.out.below (below_drewN _ _ _), HC.out.drewN _⟩
    case pos =>
      have dc : decide (ke < SK) = true := decide_eq_true hc
      cases hxK : K.getLast? with
      | none =>
        exfalso
        have hK0 := List.getLast?_eq_none_iff.1 hxK
        subst hK0
        have e2 : SK = 0 := hSK.symm
        have := HKE.out
        omega
      | some x =>
        have hx := hxK
        clear hxK
        obtain ⟨m, hm, hmx, hmd⟩ := last_at hx
        have wm : IntKind.i64.wrap ((K.length : Int) - 1) = (m : Int) := by rw [show (K.length : Int) - 1 = (m : Int) by omega]; exact IntWalk.i64_in _ (by have := HLN.out; omega)
        have wm' : wrap64 ((K.length : Int) - 1) = (m : Int) := by rw [show (K.length : Int) - 1 = (m : Int) by omega]; exact IntWalk.wrap64_in _ (by have := HLN.out; omega)
        have l0 : (0 : Int) ≤ (m : Int) := by omega
        have l1 : (m : Int) < (K.length : Int) := by omega
        obtain ⟨b, off, cap, he, hcp, hxx⟩ := r3.er.inv (by omega)
        injection he with e1 _ e3
        subst e1 e3
        obtain ⟨y0, y1⟩ := hxx m x hmx
        obtain ⟨d2, d1, _⟩ := hu.lastK hx
        have hu2 := hu.mv hx
        have hsm := sum_mv hx
        have hxp := hpK x (List.mem_of_getLast? hx)
        obtain ⟨xk, xz⟩ := x
        simp only at y0 y1 hsm hxp
        obtain ⟨gk2, hg2⟩ : ∃ q, m = q := ⟨_, rfl⟩
        have hgk2 : gk = gk2 + 1 := by rw [hgk, hm]; omega
        subst hgk2
        have hsh := shr_K (ke := ke) (T := T) (K := K) (x := (xk, xz)) gk2 (by rw [hSK]; exact hc) hx
        obtain ⟨KD, hKD⟩ : ∃ L, K.dropLast = L := ⟨_, rfl⟩
        rw [hKD] at d2 hu2 hsm hsh
        rw [hsh] at hshr
        have HSH := Lib.hid hshr
        have HD2 := Lib.hid d2
        have HU2 := Lib.hid hu2
        have HPT2 : Hid (posE ((xk, xz) :: T)) := Lib.hid (fun y hy => by
          rcases List.mem_cons.1 hy with rfl | hy
          · exact hxp
          · exact hpT y hy)
        have HPK2 : Hid (posE KD) := Lib.hid (hKD ▸ hpK.dl)
        have HS2 : Hid (sumE ((xk, xz) :: T) + sumE KD ≤ 1073741824) := Lib.hid (by rw [sumE]; simp only; omega)
        have HKL : Hid (gk2 = KD.length) := Lib.hid (by rw [← hKD]; omega)
        have HDL := Lib.hid hdl
        have HYL : Hid (b < wr.heap.size ∧ g < wr.heap.size) := Lib.hid ⟨World.block_lt_of_cell? wr _ y0, r1.lt⟩
        clear hKD r1 r2 r3 r4 r5 r6 r7 hSK hlT hlK hu hpT hpK hch hot hgk hlm hsT hsK hc hshr hsh d2 d1 hu2 hsm hxp hmx hmd hm hxx hcp hx hg2 hdl
        go_wp2
        go_quiet ((go_at_call 61; (with_reducible exact Calls.quiet_of (HQ.out _))))
        obtain ⟨W0, hW0⟩ : ∃ W0, wr.drewN nq = W0 := ⟨_, rfl⟩
        have hb0 : Below wr.heap.size wr W0 := by rw [← hW0]; exact below_drewN _ _ _
        rw [hW0]
        have HB0 := Lib.hid hb0
        have q0 := (HBK.out.below hb0).cell 0
        have q1 := (HBK.out.below hb0).cell 1
        have y0 := (hb0.cell HYL.out.1).trans y0
        have y1 := (hb0.cell (p := ⟨b, off + m * 2 + 1, none⟩) HYL.out.1).trans y1
        have HY0 : Hid (b < W0.heap.size ∧ g < W0.heap.size) := Lib.hid ⟨Nat.lt_of_lt_of_le HYL.out.1 hb0.size, Nat.lt_of_lt_of_le HYL.out.2 hb0.size⟩
        clear hW0 hb0 HQ
        go_wp2_with fail
        refine wp_region_held_drew (S := (fun w' => Below W0.heap.size W0 w')) (by kernel_rfl) ?_ (fun hS => ?_)
        · exact (Below.refl _ _).drew
        refine tkY 0 ?_ rfl hS ?_ ?_
        rotate_left
        · intro wz hz
          have z1 := (hz.cell (p := ⟨g, 1, none⟩) HY0.out.2).trans q1
          have z2 := (hz.cell (p := ⟨b, off + m * 2, none⟩) HY0.out.1).trans y0
          have z3 := (hz.cell (p := ⟨b, off + m * 2 + 1, none⟩) HY0.out.1).trans y1
          go_simp
          all_goals first | with_reducible rfl | omega
        try simp only [Act.put, pu]
        refine tkY 1 ?_ rfl hS ?_ ?_
        rotate_left
        · intro wz hz
          have z1 := (hz.cell (p := ⟨g, 1, none⟩) HY0.out.2).trans q1
          have z2 := (hz.cell (p := ⟨b, off + m * 2, none⟩) HY0.out.1).trans y0
          have z3 := (hz.cell (p := ⟨b, off + m * 2 + 1, none⟩) HY0.out.1).trans y1
          go_simp
          all_goals first | with_reducible rfl | omega
        try simp only [Act.put, pu]
        refine tkY 2 ?_ rfl hS ?_ ?_
        rotate_left
        · intro wz hz
          have z1 := (hz.cell (p := ⟨g, 1, none⟩) HY0.out.2).trans q1
          have z2 := (hz.cell (p := ⟨b, off + m * 2, none⟩) HY0.out.1).trans y0
          have z3 := (hz.cell (p := ⟨b, off + m * 2 + 1, none⟩) HY0.out.1).trans y1
          go_simp
          all_goals first | with_reducible rfl | omega
        try simp only [Act.put, pu]
        refine tkY 3 ?_ rfl hS ?_ ?_
        rotate_left
        · intro wz hz
          have z1 := (hz.cell (p := ⟨g, 1, none⟩) HY0.out.2).trans q1
          have z2 := (hz.cell (p := ⟨b, off + m * 2, none⟩) HY0.out.1).trans y0
          have z3 := (hz.cell (p := ⟨b, off + m * 2 + 1, none⟩) HY0.out.1).trans y1
          go_simp
          all_goals first | with_reducible rfl | omega
        try simp only [Act.put, pu]
        refine tkY 4 ?_ rfl hS ?_ ?_
        rotate_left
        · intro wz hz
          have z1 := (hz.cell (p := ⟨g, 1, none⟩) HY0.out.2).trans q1
          have z2 := (hz.cell (p := ⟨b, off + m * 2, none⟩) HY0.out.1).trans y0
          have z3 := (hz.cell (p := ⟨b, off + m * 2 + 1, none⟩) HY0.out.1).trans y1
          go_simp
          all_goals first | with_reducible rfl | omega
        try simp only [Act.put, pu]
        refine tkY 5 ?_ rfl hS ?_ ?_
        rotate_left
        · intro wz hz
          have z1 := (hz.cell (p := ⟨g, 1, none⟩) HY0.out.2).trans q1
          have z2 := (hz.cell (p := ⟨b, off + m * 2, none⟩) HY0.out.1).trans y0
          have z3 := (hz.cell (p := ⟨b, off + m * 2 + 1, none⟩) HY0.out.1).trans y1
          go_simp
          all_goals first | with_reducible rfl | omega
        try simp only [Act.put, pu]
        refine tkY 6 ?_ rfl hS ?_ ?_
        rotate_left
        · intro wz hz
          have z1 := (hz.cell (p := ⟨g, 1, none⟩) HY0.out.2).trans q1
          have z2 := (hz.cell (p := ⟨b, off + m * 2, none⟩) HY0.out.1).trans y0
          have z3 := (hz.cell (p := ⟨b, off + m * 2 + 1, none⟩) HY0.out.1).trans y1
          go_simp
          all_goals first | with_reducible rfl | omega
        try simp only [Act.put, pu]
        refine tkY 7 ?_ rfl hS ?_ ?_
        rotate_left
        · intro wz hz
          have z1 := (hz.cell (p := ⟨g, 1, none⟩) HY0.out.2).trans q1
          have z2 := (hz.cell (p := ⟨b, off + m * 2, none⟩) HY0.out.1).trans y0
          have z3 := (hz.cell (p := ⟨b, off + m * 2 + 1, none⟩) HY0.out.1).trans y1
          go_simp
          all_goals first | with_reducible rfl | omega
        try simp only [Act.put, pu]
        refine tkY 8 ?_ rfl hS ?_ ?_
        rotate_left
        · intro wz hz
          have z1 := (hz.cell (p := ⟨g, 1, none⟩) HY0.out.2).trans q1
          have z2 := (hz.cell (p := ⟨b, off + m * 2, none⟩) HY0.out.1).trans y0
          have z3 := (hz.cell (p := ⟨b, off + m * 2 + 1, none⟩) HY0.out.1).trans y1
          go_simp
          all_goals first | with_reducible rfl | omega
        try simp only [Act.put, pu]
        refine tkY 9 ?_ rfl hS ?_ ?_
        rotate_left
        · intro wz hz
          have z1 := (hz.cell (p := ⟨g, 1, none⟩) HY0.out.2).trans q1
          have z2 := (hz.cell (p := ⟨b, off + m * 2, none⟩) HY0.out.1).trans y0
          have z3 := (hz.cell (p := ⟨b, off + m * 2 + 1, none⟩) HY0.out.1).trans y1
          go_simp
          all_goals first | with_reducible rfl | omega
        try simp only [Act.put, pu]
        refine tkY 10 ?_ rfl hS ?_ ?_
        rotate_left
        · intro wz hz
          have z1 := (hz.cell (p := ⟨g, 1, none⟩) HY0.out.2).trans q1
          have z2 := (hz.cell (p := ⟨b, off + m * 2, none⟩) HY0.out.1).trans y0
          have z3 := (hz.cell (p := ⟨b, off + m * 2 + 1, none⟩) HY0.out.1).trans y1
          go_simp
          all_goals first | with_reducible rfl | omega
        try simp only [Act.put, pu]
        refine tkY 11 ?_ rfl hS ?_ ?_
        rotate_left
        · intro wz hz
          have z1 := (hz.cell (p := ⟨g, 1, none⟩) HY0.out.2).trans q1
          have z2 := (hz.cell (p := ⟨b, off + m * 2, none⟩) HY0.out.1).trans y0
          have z3 := (hz.cell (p := ⟨b, off + m * 2 + 1, none⟩) HY0.out.1).trans y1
          go_simp
          all_goals first | with_reducible rfl | omega
        try simp only [Act.put, pu]
        refine wpAnyH_ready (rs := [12]) (by kernel_rfl) (by simp) (AllReadyH.cons rfl (fun K' hK' => ?_) AllReadyH.nil)
        go_simp
        refine hK'.out _ _ ?_ (fun hSn => ?_)
        · exact hS.alloc hS.size _
        clear hK' K' hS
        have hS := hSn
        clear hSn
        try simp only [Act.put, pu]
        refine wpAnyH_ready (rs := [13]) (by kernel_rfl) (by simp) (AllReadyH.cons rfl (fun K' hK' => ?_) AllReadyH.nil)
        go_simp
        refine hK'.out _ _ ?_ (fun hSn => ?_)
        · exact ((Below.refl _ _).alloc (Nat.le_refl _) _).drew
        clear hK' K' hS hSn
        refine wpAnyH_done (by kernel_rfl) ?_ _
        obtain ⟨W1, hW1⟩ : ∃ W1, (W0.alloc (.cells #[.string xk, .int .i64 xz] 138)).drew = W1 := ⟨_, rfl⟩
        obtain ⟨x2, hx2⟩ : ∃ b, W0.heap.size = b := ⟨_, rfl⟩
        have hb1 : Below wr.heap.size wr W1 := by rw [← hW1]; exact (HB0.out.alloc HB0.out.size _).drew
        have hk1 : Bk W1 x2 138 #[.string xk, .int .i64 xz] := by rw [← hW1, ← hx2]; exact (Bk.new W0 _ _).drew
        have HX2G : Hid (x2 ≠ g) := Lib.hid (by have := HY0.out; omega)
        rw [hW1, hx2]
        have HB1 := Lib.hid hb1
        have HX1 := Lib.hid hk1
        have x0 := hk1.cell 0
        have x1 := hk1.cell 1
        have HBK1 := Lib.hid (HBK.out.below hb1)
        have q1 := (HBK.out.below hb1).cell 1
        have q0 := (HBK.out.below hb1).cell 0
        have HRS1 := Lib.hid (HRS.out.below hb1)
        have HEK1 := Lib.hid (HEK.out.below hb1)
        have HET1 := Lib.hid (HET.out.below hb1)
        clear y0 y1 hW1 hx2 hb1 hk1 HB0 HY0 HYL q3
        go_wp2_with fail
        refine wp_region_held_drew (S := (fun w' => w'.cell? ⟨x2, 0, none⟩ = some (.string xk) ∧ w'.cell? ⟨x2, 1, none⟩ = some (.int .i64 xz))) (by kernel_rfl) ?_ (fun hS => ?_)
        · exact ⟨x0, x1⟩
        refine tkY 0 ?_ rfl hS ?_ ?_
        rotate_left
        · intro wz hz
          obtain ⟨z0, z1⟩ := hz
          go_simp
          all_goals first | with_reducible rfl | omega
        try simp only [Act.put, pu]
        refine tkY 1 ?_ rfl hS ?_ ?_
        rotate_left
        · intro wz hz
          obtain ⟨z0, z1⟩ := hz
          go_simp
          all_goals first | with_reducible rfl | omega
        try simp only [Act.put, pu]
        refine tkY 2 ?_ rfl hS ?_ ?_
        rotate_left
        · intro wz hz
          obtain ⟨z0, z1⟩ := hz
          go_simp
          all_goals first | with_reducible rfl | omega
        try simp only [Act.put, pu]
        refine tkY 3 ?_ rfl hS ?_ ?_
        rotate_left
        · intro wz hz
          obtain ⟨z0, z1⟩ := hz
          go_simp
          all_goals first | with_reducible rfl | omega
        try simp only [Act.put, pu]
        refine tkY 5 ?_ rfl hS ?_ ?_
        rotate_left
        · intro wz hz
          obtain ⟨z0, z1⟩ := hz
          go_simp
          all_goals first | with_reducible rfl | omega
        try simp only [Act.put, pu]
        refine tkY 6 ?_ rfl hS ?_ ?_
        rotate_left
        · intro wz hz
          obtain ⟨z0, z1⟩ := hz
          go_simp
          all_goals first | with_reducible rfl | omega
        try simp only [Act.put, pu]
        refine wpAnyH_ready (rs := [4]) (by kernel_rfl) (by simp) (AllReadyH.cons rfl (fun K' hK' => ?_) AllReadyH.nil)
        go_simp
        refine hK'.out _ _ ?_ (fun hSn => ?_)
        · exact hS
        clear hK' K' hS
        have hS := hSn
        clear hSn
        try simp only [Act.put, pu]
        refine wpAnyH_ready (rs := [7]) (by kernel_rfl) (by simp) (AllReadyH.cons rfl (fun K' hK' => ?_) AllReadyH.nil)
        go_simp
        refine (rwithout_to _ K xk _ (HEK1.out.er.below (show Below W1.heap.size W1 W1.drew from below_drewN _ _ 1)) HLN.out.2 _ HD2.out).mono ?_
        rintro e w4 ⟨v4, c4, rfl, o4, b4⟩
        have hb4 : Below W1.heap.size W1 w4 := (show Below W1.heap.size W1 W1.drew from below_drewN _ _ 1).trans b4
        have hk4 := HBK1.out.below hb4
        have f4 := hk4.frozen 1
        have s4 := hk4.cell 1
        have hSC := (show _ ∧ _ from ⟨(HX1.out.below hb4).cell 0, (HX1.out.below hb4).cell 1⟩)
        have HO4 := Lib.hid o4
        have HB4 := Lib.hid hb4
        clear hk4 o4 b4 hb4
        refine hK'.out _ _ ?_ (fun hSn => ?_)
        · exact hSC
        clear hK' K' hS
        have hS := hSn
        clear hSn
        try simp only [Act.put, pu]
        refine tkY 8 ?_ rfl hS ?_ ?_
        rotate_left
        · intro wz hz
          obtain ⟨z0, z1⟩ := hz
          go_simp
          all_goals first | with_reducible rfl | omega
        try simp only [Act.put, pu]
        refine tkY 9 ?_ rfl hS ?_ ?_
        rotate_left
        · intro wz hz
          obtain ⟨z0, z1⟩ := hz
          go_simp
          all_goals first | with_reducible rfl | omega
        try simp only [Act.put, pu]
        refine wpAnyH_ready (rs := [10]) (by kernel_rfl) (by simp) (AllReadyH.cons rfl (fun K' hK' => ?_) AllReadyH.nil)
        go_simp
        refine hK'.out _ _ ?_ (fun hSn => ?_)
        · have hk5 := (HX1.out.below HB4.out).far (p := ⟨g, 1, none⟩) HX2G.out (.slice v4 KD.length c4)
          exact ⟨hk5.cell 0, hk5.cell 1⟩
        clear hK' K' hS hSn
        refine wpAnyH_done (by kernel_rfl) ?_ _
        have hlb : (∀ q, (Value.slice v4 KD.length c4).ownBlock = some q → q ≠ g) := HO4.out.off (g := g) HBK1.out.lt
        obtain ⟨w5, hw5⟩ : ∃ w5, w4.setCell ⟨g, 1, none⟩ (.slice v4 KD.length c4) = w5 := ⟨_, rfl⟩
        have hr5 : RS w0 w5 g al ke mo T KD := by rw [← hw5]; exact (HRS1.out.below HB4.out).setK (HO4.out.mono HRS1.out.bel.size) hlb
        have hc5 : Chg (fun b => b = g) wr w5 := by rw [← hw5]; exact ((Chg.of_below (S := fun b => b = g) HB1.out).trans (Chg.of_below HB4.out)).setCell (p := ⟨g, 1, none⟩) rfl _
        have hx5 : Bk w5 x2 138 #[.string xk, .int .i64 xz] := by rw [← hw5]; exact (HX1.out.below HB4.out).far (p := ⟨g, 1, none⟩) HX2G.out _
        try rw [hw5]
        have HR5' := Lib.hid hr5
        have HC5' := Lib.hid hc5
        have HX5 := Lib.hid hx5
        clear HO4 HB4 hw5 hlb f4 s4 x0 x1 q0 q1 HBK1 HEK1 HX1 HRS1 HET1
        have x0 := hx5.cell 0
        have x1 := hx5.cell 1
        obtain ⟨aT5, cT5, aK5, cK5, r1, r2, r3, r4, r5, r6, r7⟩ := hr5
        have q0 := r1.cell 0
        have HBK5 := Lib.hid r1
        have HET5 := Lib.hid r2
        clear r1 r2 r3 r4 r5 r6 r7 hc5 hx5
        go_wp2_with fail
        refine wp_region_held_drew (S := (fun w' => w'.cell? ⟨x2, 0, none⟩ = some (.string xk) ∧ w'.cell? ⟨x2, 1, none⟩ = some (.int .i64 xz))) (by kernel_rfl) ?_ (fun hS => ?_)
        · exact ⟨x0, x1⟩
        refine tkY 0 ?_ rfl hS ?_ ?_
        rotate_left
        · intro wz hz
          obtain ⟨z0, z1⟩ := hz
          go_simp
          all_goals first | with_reducible rfl | omega
        try simp only [Act.put, pu]
        refine tkY 1 ?_ rfl hS ?_ ?_
        rotate_left
        · intro wz hz
          obtain ⟨z0, z1⟩ := hz
          go_simp
          all_goals first | with_reducible rfl | omega
        try simp only [Act.put, pu]
        refine tkY 2 ?_ rfl hS ?_ ?_
        rotate_left
        · intro wz hz
          obtain ⟨z0, z1⟩ := hz
          go_simp
          all_goals first | with_reducible rfl | omega
        try simp only [Act.put, pu]
        refine tkY 3 ?_ rfl hS ?_ ?_
        rotate_left
        · intro wz hz
          obtain ⟨z0, z1⟩ := hz
          go_simp
          all_goals first | with_reducible rfl | omega
        try simp only [Act.put, pu]
        refine tkY 5 ?_ rfl hS ?_ ?_
        rotate_left
        · intro wz hz
          obtain ⟨z0, z1⟩ := hz
          go_simp
          all_goals first | with_reducible rfl | omega
        try simp only [Act.put, pu]
        refine wpAnyH_ready (rs := [4]) (by kernel_rfl) (by simp) (AllReadyH.cons rfl (fun K' hK' => ?_) AllReadyH.nil)
        go_simp
        refine hK'.out _ _ ?_ (fun hSn => ?_)
        · exact hS
        clear hK' K' hS
        have hS := hSn
        clear hSn
        try simp only [Act.put, pu]
        refine wpAnyH_ready (rs := [6]) (by kernel_rfl) (by simp) (AllReadyH.cons rfl (fun K' hK' => ?_) AllReadyH.nil)
        go_simp
        refine (rahead_to _ T (xk, xz) _ (HET5.out.er.below (show Below w5.heap.size w5 w5.drew from below_drewN _ _ 1)) HLN.out.1 _ rfl).mono ?_
        rintro e w6 ⟨v6, c6, rfl, o6, b6⟩
        have hb6 : Below w5.heap.size w5 w6 := (show Below w5.heap.size w5 w5.drew from below_drewN _ _ 1).trans b6
        have hk6 := HBK5.out.below hb6
        have f6 := hk6.frozen 0
        have s6 := hk6.cell 0
        have hSC := (show _ ∧ _ from ⟨(HX5.out.below hb6).cell 0, (HX5.out.below hb6).cell 1⟩)
        have HO6 := Lib.hid o6
        have HB6 := Lib.hid hb6
        clear hk6 o6 b6 hb6
        refine hK'.out _ _ ?_ (fun hSn => ?_)
        · exact hSC
        clear hK' K' hS
        have hS := hSn
        clear hSn
        try simp only [Act.put, pu]
        refine tkY 7 ?_ rfl hS ?_ ?_
        rotate_left
        · intro wz hz
          obtain ⟨z0, z1⟩ := hz
          go_simp
          all_goals first | with_reducible rfl | omega
        try simp only [Act.put, pu]
        refine tkY 8 ?_ rfl hS ?_ ?_
        rotate_left
        · intro wz hz
          obtain ⟨z0, z1⟩ := hz
          go_simp
          all_goals first | with_reducible rfl | omega
        try simp only [Act.put, pu]
        refine wpAnyH_ready (rs := [9]) (by kernel_rfl) (by simp) (AllReadyH.cons rfl (fun K' hK' => ?_) AllReadyH.nil)
        go_simp
        refine hK'.out _ _ ?_ (fun hSn => ?_)
        · have hk7 := (HX5.out.below HB6.out).far (p := ⟨g, 0, none⟩) HX2G.out (.slice v6 ((xk, xz) :: T).length c6)
          exact ⟨hk7.cell 0, hk7.cell 1⟩
        clear hK' K' hS hSn
        refine wpAnyH_done (by kernel_rfl) ?_ _
        have hlb : (∀ q, (Value.slice v6 ((xk, xz) :: T).length c6).ownBlock = some q → q ≠ g) := HO6.out.off (g := g) HBK5.out.lt
        obtain ⟨w7, hw7⟩ : ∃ w7, w6.setCell ⟨g, 0, none⟩ (.slice v6 (T.length + 1) c6) = w7 := ⟨_, rfl⟩
        have hr7 : RS w0 w7 g al ke mo ((xk, xz) :: T) KD := by rw [← hw7]; exact (HR5'.out.below HB6.out).setT (HO6.out.mono HR5'.out.bel.size) hlb
        have hc7 : Chg (fun b => b = g) wr w7 := by rw [← hw7]; exact (HC5'.out.trans (Chg.of_below HB6.out)).setCell (p := ⟨g, 0, none⟩) rfl _
        have hx7 : Bk w7 x2 138 #[.string xk, .int .i64 xz] := by rw [← hw7]; exact (HX5.out.below HB6.out).far (p := ⟨g, 0, none⟩) HX2G.out _
        rw [hw7]
        have HO2 := Lib.hid (HO.out.chg hc7 (HO.out.ng HBK.out))
        have HR2' := Lib.hid hr7
        have HC2 := Lib.hid (HC.out.trans hc7)
        have hbx : Below w7.heap.size w7 (w7.alloc (.cells #[.string xk] 9)) := (Below.refl _ _).alloc (Nat.le_refl _) _
        have HBX := Lib.hid hbx
        clear HO6 HB6 hw7 hlb f6 s6 x0 x1 q0 HBK5 HET5 HX5 HR5' HC5' hr7 hc7 hbx
        have x0 := hx7.cell 0
        clear hx7
        go_wp2_with (at_builtin; refine wpList_app_text w.heap.size (.slice ua D.length uc) D xk w7.heap.size rfl _ _ rfl rfl (HO2.out.below HBX.out) rfl (Bk.new w7 _ _) (by have := HDL.out; have := HLK.out; omega) (by have := HC2.out.size; simp; omega) ?_; intro g9 cap9 w9 o9 gr9)
        have hty := (HO2.out.below HBX.out).ty
        have hr9 : RS w0 w9 g al ke mo ((xk, xz) :: T) KD := (HR2'.out.below HBX.out).chg ((Chg.refl (fun b => (Value.slice ua D.length uc).ownBlock = some b) _).grown gr9 fun q hq _ => hq) fun q hq => ⟨Nat.le_trans HRB.out (hty q hq).1, (hty q hq).2⟩
        have hc9 : Chg (fun b => b = g) w w9 := (HC2.out.alloc _).grown gr9 fun q hq hlt => by have := (hty q hq).1; omega
        have HR9 := Lib.hid hr9
        have HC9 := Lib.hid hc9
        have HO9 := Lib.hid o9
        clear hty hr9 hc9 o9 gr9 x0
        go_wp2
        go_roundg gk2
        case measure => exact Nat.lt_succ_self _
        case rel =>
          refine ⟨(xk, xz) :: T, KD, D ++ [xk], HKL.out, HU2.out, HPT2.out, HPK2.out, HS2.out, HR9.out, HC9.out, ⟨_, _, by rw [List.length_append]; rfl⟩, by have := HO9.out; simpa using this, by have := HDL.out; rw [List.length_append]; simp; omega, ?_⟩
          rw [HSH.out]
          simp
end Go.Proofs.YtjngangojgjceaaGreat.SL
namespace Go.Proofs.YtjngangojgjceaaGreat.SL
open Go.ChangeShapes Go.WideShapes Go.ChangeAt Go.RowKit Go.Maps Go.ChangeMaps
set_option maxRecDepth 100000
set_option linter.unusedVariables false
set_option linter.unusedSimpArgs false

set_option maxHeartbeats 16000000 in
theorem rtouch_two (w0 w : World) (g : Nat) (al ke mo : Int) (T0 K0 : List En) (h : RS w0 w g al ke mo T0 K0) (hl : T0.length ≤ 1073741824 ∧ K0.length ≤ 1073741824) (k : ByteArray) (z : Int) (hz : hasS k T0 K0 = some z) (hp : placeE T0 k = none) (hk : z ≤ ke) (hke : 0 ≤ ke)
    (T1 K1 : List En) (hT1 : delE k T0 = T1) (hK1 : delE k K0 = K1) (hu : UK T1 ((k, z) :: K1)) (hpT : posE T1) (hpK : posE ((k, z) :: K1)) (hlim : sumE T1 + sumE ((k, z) :: K1) ≤ 1073741824) (T9 K9 : List En) (G : List ByteArray) (hR : shrE ke (K1.length + 1) T1 ((k, z) :: K1) = (T9, K9, G)) :
    Calls Tryz.prog 49 #[ptr g, .string k] w (TchP w0 w g al ke mo T9 K9 G) := by
  have HR := Lib.hid h
  have HRB : Hid (w0.heap.size ≤ w.heap.size) := Lib.hid h.bel.size
  have HL := Lib.hid hl
  have HZ : Hid (HasV (hasS k T0 K0) = .tuple #[.int .i64 z, .bool true]) := Lib.hid (by rw [hz]; rfl)
  have HB : Hid ((hasS k T0 K0).isSome = true) := Lib.hid (by rw [hz]; rfl)
  have HP : Hid ((match placeE T0 k with | some i => (i : Int) | none => -1) = -1) := Lib.hid (by rw [hp])
  have HT1 := Lib.hid hT1
  have HK1 := Lib.hid hK1
  have HU := Lib.hid hu
  have HPT := Lib.hid hpT
  have HPK := Lib.hid hpK
  have HLM := Lib.hid hlim
  have HRR := Lib.hid hR
  have HKE := Lib.hid hke
  have hlK := sum_pos hpK
  have hlT := sum_pos hpT
  have hsT := sum_nonneg hpT
  have hsK := sum_nonneg hpK
  have HLK : Hid (K1.length + 1 ≤ 1073741824) := Lib.hid (by rw [List.length_cons] at hlK; omega)
  have dk : decide (ke < z) = false := decide_eq_false (by omega)
  clear h hl hz hp hT1 hK1 hu hpT hpK hlim hR hlK hlT hsT hsK hk hke
  go_enter Tryz.func49, Tryz.ntmps49
  go_wp2_with fail
  refine (rhas_to w0 w g al ke mo T0 K0 HR.out HL.out k _ HZ.out).mono ?_
  rintro e w1 ⟨rfl, n1, hw1⟩
  have hb1 : Below w.heap.size w w1 := by rw [hw1]; exact below_drewN _ _ _
  have HB1 := Lib.hid hb1
  have HR1 := Lib.hid (HR.out.below hb1)
  clear hw1 hb1
  obtain ⟨aT, cT, aK, cK, r1, r2, r3, r4, r5, r6, r7⟩ := HR1.out
  have HG := Lib.hid r1.lt
  have HGW := Lib.hid r6
  have hbl : Below w1.heap.size w1 (w1.alloc (.cells #[.string k, .int .i64 z] 138)) := (Below.refl _ _).alloc (Nat.le_refl _) _
  have HER := Lib.hid (r2.below hbl).er
  have c0 := (r1.below hbl).cell 0
  have HBA := Lib.hid hbl
  clear r1 r2 r3 r4 r5 r6 r7 hbl
  go_wp2_with fail
  refine (rplace_to _ T0 k _ HER.out HL.out.1 _ HP.out).mono ?_
  rintro e w2 ⟨rfl, n2, hw2⟩
  have hb2 : Below w1.heap.size w1 w2 := by rw [hw2]; exact HBA.out.trans (below_drewN _ _ _)
  have HB2 := Lib.hid hb2
  have HR2 := Lib.hid (HR1.out.below hb2)
  have kx2 : Bk w2 w1.heap.size 138 #[.string k, .int .i64 z] := by rw [hw2]; exact (Bk.new w1 _ _).below (below_drewN _ _ _)
  have KX2 := Lib.hid kx2
  clear hw2 hb2 kx2 c0 HER HBA
  go_wp2_with fail
  refine (rdrop_to w0 w2 g al ke mo T0 K0 HR2.out HL.out k T1 K1 _ HT1.out HK1.out HB.out).mono ?_
  rintro e w3 ⟨rfl, hr3, hc3⟩
  have HR3 := Lib.hid hr3
  have HC3 := Lib.hid ((Chg.of_below (S := fun b => b = g) HB1.out).trans ((Chg.of_below (S := fun b => b = g) (HB2.out)).trans hc3))
  have hx3 := KX2.out.chg hc3 (fun e => by have := HG.out; omega)
  obtain ⟨xb, hxb⟩ : ∃ b, w1.heap.size = b := ⟨_, rfl⟩
  have HXG : Hid (xb ≠ g) := Lib.hid (by have := HG.out; omega)
  rw [hxb] at hx3 ⊢
  obtain ⟨aT3, cT3, aK3, cK3, r1, r2, r3, r4, r5, r6, r7⟩ := hr3
  have x0 := hx3.cell 0
  have x1 := hx3.cell 1
  have d0 := r1.cell 0
  have d1 := r1.cell 1
  have d3 := r1.cell 3
  have HX3 := Lib.hid hx3
  have HE3 := Lib.hid r3
  have HBK3 := Lib.hid r1
  clear r1 r2 r3 r4 r5 r6 r7 hc3 hx3 HR2 KX2 HB2 HR1 HR HB1 hxb HG HGW
  go_wp2_with fail
  refine wp_region_held_drew (S := (fun w' => w'.cell? ⟨xb, 0, none⟩ = some (.string k) ∧ w'.cell? ⟨xb, 1, none⟩ = some (.int .i64 z))) (by kernel_rfl) ?_ (fun hS => ?_)
  · exact ⟨x0, x1⟩
  refine tkY 0 ?_ rfl hS ?_ ?_
  rotate_left
  · intro wz hz
    obtain ⟨z0, z1⟩ := hz
    go_simp
    all_goals first | with_reducible rfl | omega
  try simp only [Act.put, pu]
  refine tkY 1 ?_ rfl hS ?_ ?_
  rotate_left
  · intro wz hz
    obtain ⟨z0, z1⟩ := hz
    go_simp
    all_goals first | with_reducible rfl | omega
  try simp only [Act.put, pu]
  refine tkY 2 ?_ rfl hS ?_ ?_
  rotate_left
  · intro wz hz
    obtain ⟨z0, z1⟩ := hz
    go_simp
    all_goals first | with_reducible rfl | omega
  try simp only [Act.put, pu]
  refine tkY 3 ?_ rfl hS ?_ ?_
  rotate_left
  · intro wz hz
    obtain ⟨z0, z1⟩ := hz
    go_simp
    all_goals first | with_reducible rfl | omega
  try simp only [Act.put, pu]
  refine tkY 5 ?_ rfl hS ?_ ?_
  rotate_left
  · intro wz hz
    obtain ⟨z0, z1⟩ := hz
    go_simp
    all_goals first | with_reducible rfl | omega
  try simp only [Act.put, pu]
  refine wpAnyH_ready (rs := [4]) (by kernel_rfl) (by simp) (AllReadyH.cons rfl (fun K' hK' => ?_) AllReadyH.nil)
  go_simp
  refine hK'.out _ _ ?_ (fun hSn => ?_)
  · exact hS
  clear hK' K' hS
  have hS := hSn
  clear hSn
  try simp only [Act.put, pu]
  refine wpAnyH_ready (rs := [6]) (by kernel_rfl) (by simp) (AllReadyH.cons rfl (fun K' hK' => ?_) AllReadyH.nil)
  go_simp
  refine (rahead_to _ K1 (k, z) _ (HE3.out.er.below (show Below w3.heap.size w3 w3.drew from below_drewN _ _ 1)) (by have := HLK.out; omega) _ rfl).mono ?_
  rintro e w4 ⟨v4, c4, rfl, o4, b4⟩
  have hb4 : Below w3.heap.size w3 w4 := (show Below w3.heap.size w3 w3.drew from below_drewN _ _ 1).trans b4
  have hk4 := HBK3.out.below hb4
  have f4 := hk4.frozen 1
  have s4 := hk4.cell 1
  have hSC := ((HX3.out.below hb4).cell 0)
  have hSC := (show _ ∧ _ from ⟨(HX3.out.below hb4).cell 0, (HX3.out.below hb4).cell 1⟩)
  have HO4 := Lib.hid o4
  have HB4 := Lib.hid hb4
  clear hk4 o4 b4 hb4
  refine hK'.out _ _ ?_ (fun hSn => ?_)
  · exact hSC
  clear hK' K' hS
  have hS := hSn
  clear hSn
  try simp only [Act.put, pu]
  refine tkY 7 ?_ rfl hS ?_ ?_
  rotate_left
  · intro wz hz
    obtain ⟨z0, z1⟩ := hz
    go_simp
    all_goals first | with_reducible rfl | omega
  try simp only [Act.put, pu]
  refine tkY 8 ?_ rfl hS ?_ ?_
  rotate_left
  · intro wz hz
    obtain ⟨z0, z1⟩ := hz
    go_simp
    all_goals first | with_reducible rfl | omega
  try simp only [Act.put, pu]
  refine wpAnyH_ready (rs := [9]) (by kernel_rfl) (by simp) (AllReadyH.cons rfl (fun K' hK' => ?_) AllReadyH.nil)
  go_simp
  refine hK'.out _ _ ?_ (fun hSn => ?_)
  · have hk5 := (HX3.out.below HB4.out).far (p := ⟨g, 1, none⟩) HXG.out (.slice v4 ((k, z) :: K1).length c4)
    exact ⟨hk5.cell 0, hk5.cell 1⟩
  clear hK' K' hS hSn
  refine wpAnyH_done (by kernel_rfl) ?_ _
  have hr5 : RS w0 (w4.setCell ⟨g, 1, none⟩ (.slice v4 (K1.length + 1) c4)) g al ke mo T1 ((k, z) :: K1) := (HR3.out.below HB4.out).setK (HO4.out.mono HR3.out.bel.size) (HO4.out.off (g := g) HBK3.out.lt)
  have hc5 : Chg (fun b => b = g) w (w4.setCell ⟨g, 1, none⟩ (.slice v4 (K1.length + 1) c4)) := (HC3.out.trans (Chg.of_below HB4.out)).setCell (p := ⟨g, 1, none⟩) rfl _
  have HR5 := Lib.hid hr5
  have HC5 := Lib.hid hc5
  clear hr5 hc5 f4 s4 x0 x1 d0 d1 d3 HX3 HE3 HBK3 HXG HR3 HC3
  obtain ⟨w5, hw5⟩ : ∃ w5, w4.setCell ⟨g, 1, none⟩ (.slice v4 (K1.length + 1) c4) = w5 := ⟨_, rfl⟩
  rw [hw5]
  rw [hw5] at HR5 HC5
  clear HO4 HB4 hw5
  go_wp2
  go_loopg [10] (K1.length + 1) (fun gk u10 wx => ∃ (T K : List En) (D : List ByteArray), gk = K.length ∧ UK T K ∧ posE T ∧ posE K ∧ sumE T + sumE K ≤ 1073741824 ∧ RS w0 wx g al ke mo T K ∧ Chg (fun b => b = g) w wx ∧ (∃ a c, u10 = .slice a D.length c) ∧ OT w.heap.size wx u10 D ∧ D.length + gk = K1.length + 1 ∧
      shrE ke (K1.length + 1) T1 ((k, z) :: K1) = ((shrE ke gk T K).1, (shrE ke gk T K).2.1, D ++ (shrE ke gk T K).2.2))
  case atStart => exact ⟨T1, (k, z) :: K1, [], rfl, HU.out, HPT.out, HPK.out, HLM.out, HR5.out, HC5.out, ⟨_, _, rfl⟩, OT.nil _ _, by simp, rfl⟩
  case round =>
    obtain ⟨T, K, D, hgk, hu, hpT, hpK, hlm, hrs, hch, ⟨ua, uc, rfl⟩, hot, hdl, hshr⟩ := hrel
    have HRS := Lib.hid hrs
    have HC := Lib.hid hch
    have HO := Lib.hid hot
    have HU := Lib.hid hu
    have HPT := Lib.hid hpT
    have HPK := Lib.hid hpK
    have HLM0 := Lib.hid hlm
    have hsT := sum_nonneg hpT
    have hsK := sum_nonneg hpK
    have hlT := sum_pos hpT
    have hlK := sum_pos hpK
    obtain ⟨SK, hSK⟩ : ∃ S, sumE K = S := ⟨_, rfl⟩
    have HSK := Lib.hid hSK
    have HLS : Hid (sumE K ≤ 4611686018427387904) := Lib.hid (by omega)
    have HLN : Hid (T.length ≤ 1073741824 ∧ K.length ≤ 1073741824) := Lib.hid (by omega)
    obtain ⟨aT, cT, aK, cK, r1, r2, r3, r4, r5, r6, r7⟩ := hrs
    have HET := Lib.hid r2
    have HEK := Lib.hid r3
    have HBK := Lib.hid r1
    have q0 := r1.cell 0
    have q1 := r1.cell 1
    have q3 := r1.cell 3
    have HQ := Lib.hid (fun N => rsum_to (.slice aK K.length cK) K (wr.drewN N) (r3.er.below (below_drewN _ _ _)) hpK HLS.out SK hSK)
    rw [hSK] at hlm hsK hlK
    by_cases hc : ke < SK
    case neg =>
      have dc : decide (ke < SK) = false := decide_eq_false hc
      have hno : shrE ke gk T K = (T, K, []) := shr_no (by rw [hSK]; omega) gk
      rw [hno] at hshr
      have HRM := Lib.hid hshr
      have hG : G = D := by have := HRR.out; rw [HRM.out] at this; simp only [Prod.mk.injEq, List.append_nil] at this; exact this.2.2.symm
      have hT9 : T9 = T := by have := HRR.out; rw [HRM.out] at this; simp only [Prod.mk.injEq] at this; exact this.1.symm
      have hK9 : K9 = K := by have := HRR.out; rw [HRM.out] at this; simp only [Prod.mk.injEq] at this; exact this.2.1.symm
      subst hG hT9 hK9
      clear hshr hno r1 r2 r3 r4 r5 r6 r7 hSK hlT hlK hu hpT hpK hch hot hgk hlm hsT hsK HRR HRM hc
      go_wp2
      go_quiet ((go_at_call 61; (with_reducible exact Calls.quiet_of (HQ.out _))))
      go_wp2
      go_ret2
      exact ⟨_, _, rfl, HO.out.below (below_drewN _ _ _), HRS.out.below (below_drewN _ _ _), HC.out.drewN _⟩
    case pos =>
      have dc : decide (ke < SK) = true := decide_eq_true hc
      cases hxK : K.getLast? with
      | none =>
        exfalso
        have hK0 := List.getLast?_eq_none_iff.1 hxK
        subst hK0
        have e2 : SK = 0 := hSK.symm
        have := HKE.out
        omega
      | some x =>
        have hx := hxK
        clear hxK
        obtain ⟨m, hm, hmx, hmd⟩ := last_at hx
        have wm : IntKind.i64.wrap ((K.length : Int) - 1) = (m : Int) := by rw [show (K.length : Int) - 1 = (m : Int) by omega]; exact IntWalk.i64_in _ (by have := HLN.out; omega)
        have wm' : wrap64 ((K.length : Int) - 1) = (m : Int) := by rw [show (K.length : Int) - 1 = (m : Int) by omega]; exact IntWalk.wrap64_in _ (by have := HLN.out; omega)
        have l0 : (0 : Int) ≤ (m : Int) := by omega
        have l1 : (m : Int) < (K.length : Int) := by omega
        obtain ⟨b, off, cap, he, hcp, hxx⟩ := r3.er.inv (by omega)
        injection he with e1 _ e3
        subst e1 e3
        obtain ⟨y0, y1⟩ := hxx m x hmx
        obtain ⟨d2, d1, _⟩ := hu.lastK hx
        have hu2 := hu.mv hx
        have hsm := sum_mv hx
        have hxp := hpK x (List.mem_of_getLast? hx)
        obtain ⟨xk, xz⟩ := x
        simp only at y0 y1 hsm hxp
        obtain ⟨gk2, hg2⟩ : ∃ q, m = q := ⟨_, rfl⟩
        have hgk2 : gk = gk2 + 1 := by rw [hgk, hm]; omega
        subst hgk2
        have hsh := shr_K (ke := ke) (T := T) (K := K) (x := (xk, xz)) gk2 (by rw [hSK]; exact hc) hx
        obtain ⟨KD, hKD⟩ : ∃ L, K.dropLast = L := ⟨_, rfl⟩
        rw [hKD] at d2 hu2 hsm hsh
        rw [hsh] at hshr
        have HSH := Lib.hid hshr
        have HD2 := Lib.hid d2
        have HU2 := Lib.hid hu2
        have HPT2 : Hid (posE ((xk, xz) :: T)) := Lib.hid (fun y hy => by
          rcases List.mem_cons.1 hy with rfl | hy
          · exact hxp
          · exact hpT y hy)
        have HPK2 : Hid (posE KD) := Lib.hid (hKD ▸ hpK.dl)
        have HS2 : Hid (sumE ((xk, xz) :: T) + sumE KD ≤ 1073741824) := Lib.hid (by rw [sumE]; simp only; omega)
        have HKL : Hid (gk2 = KD.length) := Lib.hid (by rw [← hKD]; omega)
        have HDL := Lib.hid hdl
        have HYL : Hid (b < wr.heap.size ∧ g < wr.heap.size) := Lib.hid ⟨World.block_lt_of_cell? wr _ y0, r1.lt⟩
        clear hKD r1 r2 r3 r4 r5 r6 r7 hSK hlT hlK hu hpT hpK hch hot hgk hlm hsT hsK hc hshr hsh d2 d1 hu2 hsm hxp hmx hmd hm hxx hcp hx hg2 hdl
        go_wp2
        go_quiet ((go_at_call 61; (with_reducible exact Calls.quiet_of (HQ.out _))))
        obtain ⟨W0, hW0⟩ : ∃ W0, wr.drewN nq = W0 := ⟨_, rfl⟩
        have hb0 : Below wr.heap.size wr W0 := by rw [← hW0]; exact below_drewN _ _ _
        rw [hW0]
        have HB0 := Lib.hid hb0
        have q0 := (HBK.out.below hb0).cell 0
        have q1 := (HBK.out.below hb0).cell 1
        have y0 := (hb0.cell HYL.out.1).trans y0
        have y1 := (hb0.cell (p := ⟨b, off + m * 2 + 1, none⟩) HYL.out.1).trans y1
        have HY0 : Hid (b < W0.heap.size ∧ g < W0.heap.size) := Lib.hid ⟨Nat.lt_of_lt_of_le HYL.out.1 hb0.size, Nat.lt_of_lt_of_le HYL.out.2 hb0.size⟩
        clear hW0 hb0 HQ
        go_wp2_with fail
        refine wp_region_held_drew (S := (fun w' => Below W0.heap.size W0 w')) (by kernel_rfl) ?_ (fun hS => ?_)
        · exact (Below.refl _ _).drew
        refine tkY 0 ?_ rfl hS ?_ ?_
        rotate_left
        · intro wz hz
          have z1 := (hz.cell (p := ⟨g, 1, none⟩) HY0.out.2).trans q1
          have z2 := (hz.cell (p := ⟨b, off + m * 2, none⟩) HY0.out.1).trans y0
          have z3 := (hz.cell (p := ⟨b, off + m * 2 + 1, none⟩) HY0.out.1).trans y1
          go_simp
          all_goals first | with_reducible rfl | omega
        try simp only [Act.put, pu]
        refine tkY 1 ?_ rfl hS ?_ ?_
        rotate_left
        · intro wz hz
          have z1 := (hz.cell (p := ⟨g, 1, none⟩) HY0.out.2).trans q1
          have z2 := (hz.cell (p := ⟨b, off + m * 2, none⟩) HY0.out.1).trans y0
          have z3 := (hz.cell (p := ⟨b, off + m * 2 + 1, none⟩) HY0.out.1).trans y1
          go_simp
          all_goals first | with_reducible rfl | omega
        try simp only [Act.put, pu]
        refine tkY 2 ?_ rfl hS ?_ ?_
        rotate_left
        · intro wz hz
          have z1 := (hz.cell (p := ⟨g, 1, none⟩) HY0.out.2).trans q1
          have z2 := (hz.cell (p := ⟨b, off + m * 2, none⟩) HY0.out.1).trans y0
          have z3 := (hz.cell (p := ⟨b, off + m * 2 + 1, none⟩) HY0.out.1).trans y1
          go_simp
          all_goals first | with_reducible rfl | omega
        try simp only [Act.put, pu]
        refine tkY 3 ?_ rfl hS ?_ ?_
        rotate_left
        · intro wz hz
          have z1 := (hz.cell (p := ⟨g, 1, none⟩) HY0.out.2).trans q1
          have z2 := (hz.cell (p := ⟨b, off + m * 2, none⟩) HY0.out.1).trans y0
          have z3 := (hz.cell (p := ⟨b, off + m * 2 + 1, none⟩) HY0.out.1).trans y1
          go_simp
          all_goals first | with_reducible rfl | omega
        try simp only [Act.put, pu]
        refine tkY 4 ?_ rfl hS ?_ ?_
        rotate_left
        · intro wz hz
          have z1 := (hz.cell (p := ⟨g, 1, none⟩) HY0.out.2).trans q1
          have z2 := (hz.cell (p := ⟨b, off + m * 2, none⟩) HY0.out.1).trans y0
          have z3 := (hz.cell (p := ⟨b, off + m * 2 + 1, none⟩) HY0.out.1).trans y1
          go_simp
          all_goals first | with_reducible rfl | omega
        try simp only [Act.put, pu]
        refine tkY 5 ?_ rfl hS ?_ ?_
        rotate_left
        · intro wz hz
          have z1 := (hz.cell (p := ⟨g, 1, none⟩) HY0.out.2).trans q1
          have z2 := (hz.cell (p := ⟨b, off + m * 2, none⟩) HY0.out.1).trans y0
          have z3 := (hz.cell (p := ⟨b, off + m * 2 + 1, none⟩) HY0.out.1).trans y1
          go_simp
          all_goals first | with_reducible rfl | omega
        try simp only [Act.put, pu]
        refine tkY 6 ?_ rfl hS ?_ ?_
        rotate_left
        · intro wz hz
          have z1 := (hz.cell (p := ⟨g, 1, none⟩) HY0.out.2).trans q1
          have z2 := (hz.cell (p := ⟨b, off + m * 2, none⟩) HY0.out.1).trans y0
          have z3 := (hz.cell (p := ⟨b, off + m * 2 + 1, none⟩) HY0.out.1).trans y1
          go_simp
          all_goals first | with_reducible rfl | omega
        try simp only [Act.put, pu]
        refine tkY 7 ?_ rfl hS ?_ ?_
        rotate_left
        · intro wz hz
          have z1 := (hz.cell (p := ⟨g, 1, none⟩) HY0.out.2).trans q1
          have z2 := (hz.cell (p := ⟨b, off + m * 2, none⟩) HY0.out.1).trans y0
          have z3 := (hz.cell (p := ⟨b, off + m * 2 + 1, none⟩) HY0.out.1).trans y1
          go_simp
          all_goals first | with_reducible rfl | omega
        try simp only [Act.put, pu]
        refine tkY 8 ?_ rfl hS ?_ ?_
        rotate_left
        · intro wz hz
          have z1 := (hz.cell (p := ⟨g, 1, none⟩) HY0.out.2).trans q1
          have z2 := (hz.cell (p := ⟨b, off + m * 2, none⟩) HY0.out.1).trans y0
          have z3 := (hz.cell (p := ⟨b, off + m * 2 + 1, none⟩) HY0.out.1).trans y1
          go_simp
          all_goals first | with_reducible rfl | omega
        try simp only [Act.put, pu]
        refine tkY 9 ?_ rfl hS ?_ ?_
        rotate_left
        · intro wz hz
          have z1 := (hz.cell (p := ⟨g, 1, none⟩) HY0.out.2).trans q1
          have z2 := (hz.cell (p := ⟨b, off + m * 2, none⟩) HY0.out.1).trans y0
          have z3 := (hz.cell (p := ⟨b, off + m * 2 + 1, none⟩) HY0.out.1).trans y1
          go_simp
          all_goals first | with_reducible rfl | omega
        try simp only [Act.put, pu]
        refine tkY 10 ?_ rfl hS ?_ ?_
        rotate_left
        · intro wz hz
          have z1 := (hz.cell (p := ⟨g, 1, none⟩) HY0.out.2).trans q1
          have z2 := (hz.cell (p := ⟨b, off + m * 2, none⟩) HY0.out.1).trans y0
          have z3 := (hz.cell (p := ⟨b, off + m * 2 + 1, none⟩) HY0.out.1).trans y1
          go_simp
          all_goals first | with_reducible rfl | omega
        try simp only [Act.put, pu]
        refine tkY 11 ?_ rfl hS ?_ ?_
        rotate_left
        · intro wz hz
          have z1 := (hz.cell (p := ⟨g, 1, none⟩) HY0.out.2).trans q1
          have z2 := (hz.cell (p := ⟨b, off + m * 2, none⟩) HY0.out.1).trans y0
          have z3 := (hz.cell (p := ⟨b, off + m * 2 + 1, none⟩) HY0.out.1).trans y1
          go_simp
          all_goals first | with_reducible rfl | omega
        try simp only [Act.put, pu]
        refine wpAnyH_ready (rs := [12]) (by kernel_rfl) (by simp) (AllReadyH.cons rfl (fun K' hK' => ?_) AllReadyH.nil)
        go_simp
        refine hK'.out _ _ ?_ (fun hSn => ?_)
        · exact hS.alloc hS.size _
        clear hK' K' hS
        have hS := hSn
        clear hSn
        try simp only [Act.put, pu]
        refine wpAnyH_ready (rs := [13]) (by kernel_rfl) (by simp) (AllReadyH.cons rfl (fun K' hK' => ?_) AllReadyH.nil)
        go_simp
        refine hK'.out _ _ ?_ (fun hSn => ?_)
        · exact ((Below.refl _ _).alloc (Nat.le_refl _) _).drew
        clear hK' K' hS hSn
        refine wpAnyH_done (by kernel_rfl) ?_ _
        obtain ⟨W1, hW1⟩ : ∃ W1, (W0.alloc (.cells #[.string xk, .int .i64 xz] 138)).drew = W1 := ⟨_, rfl⟩
        obtain ⟨x2, hx2⟩ : ∃ b, W0.heap.size = b := ⟨_, rfl⟩
        have hb1 : Below wr.heap.size wr W1 := by rw [← hW1]; exact (HB0.out.alloc HB0.out.size _).drew
        have hk1 : Bk W1 x2 138 #[.string xk, .int .i64 xz] := by rw [← hW1, ← hx2]; exact (Bk.new W0 _ _).drew
        have HX2G : Hid (x2 ≠ g) := Lib.hid (by have := HY0.out; omega)
        rw [hW1, hx2]
        have HB1 := Lib.hid hb1
        have HX1 := Lib.hid hk1
        have x0 := hk1.cell 0
        have x1 := hk1.cell 1
        have HBK1 := Lib.hid (HBK.out.below hb1)
        have q1 := (HBK.out.below hb1).cell 1
        have q0 := (HBK.out.below hb1).cell 0
        have HRS1 := Lib.hid (HRS.out.below hb1)
        have HEK1 := Lib.hid (HEK.out.below hb1)
        have HET1 := Lib.hid (HET.out.below hb1)
        clear y0 y1 hW1 hx2 hb1 hk1 HB0 HY0 HYL q3
        go_wp2_with fail
        refine wp_region_held_drew (S := (fun w' => w'.cell? ⟨x2, 0, none⟩ = some (.string xk) ∧ w'.cell? ⟨x2, 1, none⟩ = some (.int .i64 xz))) (by kernel_rfl) ?_ (fun hS => ?_)
        · exact ⟨x0, x1⟩
        refine tkY 0 ?_ rfl hS ?_ ?_
        rotate_left
        · intro wz hz
          obtain ⟨z0, z1⟩ := hz
          go_simp
          all_goals first | with_reducible rfl | omega
        try simp only [Act.put, pu]
        refine tkY 1 ?_ rfl hS ?_ ?_
        rotate_left
        · intro wz hz
          obtain ⟨z0, z1⟩ := hz
          go_simp
          all_goals first | with_reducible rfl | omega
        try simp only [Act.put, pu]
        refine tkY 2 ?_ rfl hS ?_ ?_
        rotate_left
        · intro wz hz
          obtain ⟨z0, z1⟩ := hz
          go_simp
          all_goals first | with_reducible rfl | omega
        try simp only [Act.put, pu]
        refine tkY 3 ?_ rfl hS ?_ ?_
        rotate_left
        · intro wz hz
          obtain ⟨z0, z1⟩ := hz
          go_simp
          all_goals first | with_reducible rfl | omega
        try simp only [Act.put, pu]
        refine tkY 5 ?_ rfl hS ?_ ?_
        rotate_left
        · intro wz hz
          obtain ⟨z0, z1⟩ := hz
          go_simp
          all_goals first | with_reducible rfl | omega
        try simp only [Act.put, pu]
        refine tkY 6 ?_ rfl hS ?_ ?_
        rotate_left
        · intro wz hz
          obtain ⟨z0, z1⟩ := hz
          go_simp
          all_goals first | with_reducible rfl | omega
        try simp only [Act.put, pu]
        refine wpAnyH_ready (rs := [4]) (by kernel_rfl) (by simp) (AllReadyH.cons rfl (fun K' hK' => ?_) AllReadyH.nil)
        go_simp
        refine hK'.out _ _ ?_ (fun hSn => ?_)
        · exact hS
        clear hK' K' hS
        have hS := hSn
        clear hSn
        try simp only [Act.put, pu]
        refine wpAnyH_ready (rs := [7]) (by kernel_rfl) (by simp) (AllReadyH.cons rfl (fun K' hK' => ?_) AllReadyH.nil)
        go_simp
        refine (rwithout_to _ K xk _ (HEK1.out.er.below (show Below W1.heap.size W1 W1.drew from below_drewN _ _ 1)) HLN.out.2 _ HD2.out).mono ?_
        rintro e w4 ⟨v4, c4, rfl, o4, b4⟩
        have hb4 : Below W1.heap.size W1 w4 := (show Below W1.heap.size W1 W1.drew from below_drewN _ _ 1).trans b4
        have hk4 := HBK1.out.below hb4
        have f4 := hk4.frozen 1
        have s4 := hk4.cell 1
        have hSC := (show _ ∧ _ from ⟨(HX1.out.below hb4).cell 0, (HX1.out.below hb4).cell 1⟩)
        have HO4 := Lib.hid o4
        have HB4 := Lib.hid hb4
        clear hk4 o4 b4 hb4
        refine hK'.out _ _ ?_ (fun hSn => ?_)
        · exact hSC
        clear hK' K' hS
        have hS := hSn
        clear hSn
        try simp only [Act.put, pu]
        refine tkY 8 ?_ rfl hS ?_ ?_
        rotate_left
        · intro wz hz
          obtain ⟨z0, z1⟩ := hz
          go_simp
          all_goals first | with_reducible rfl | omega
        try simp only [Act.put, pu]
        refine tkY 9 ?_ rfl hS ?_ ?_
        rotate_left
        · intro wz hz
          obtain ⟨z0, z1⟩ := hz
          go_simp
          all_goals first | with_reducible rfl | omega
        try simp only [Act.put, pu]
        refine wpAnyH_ready (rs := [10]) (by kernel_rfl) (by simp) (AllReadyH.cons rfl (fun K' hK' => ?_) AllReadyH.nil)
        go_simp
        refine hK'.out _ _ ?_ (fun hSn => ?_)
        · have hk5 := (HX1.out.below HB4.out).far (p := ⟨g, 1, none⟩) HX2G.out (.slice v4 KD.length c4)
          exact ⟨hk5.cell 0, hk5.cell 1⟩
        clear hK' K' hS hSn
        refine wpAnyH_done (by kernel_rfl) ?_ _
        have hlb : (∀ q, (Value.slice v4 KD.length c4).ownBlock = some q → q ≠ g) := HO4.out.off (g := g) HBK1.out.lt
        obtain ⟨w5, hw5⟩ : ∃ w5, w4.setCell ⟨g, 1, none⟩ (.slice v4 KD.length c4) = w5 := ⟨_, rfl⟩
        have hr5 : RS w0 w5 g al ke mo T KD := by rw [← hw5]; exact (HRS1.out.below HB4.out).setK (HO4.out.mono HRS1.out.bel.size) hlb
        have hc5 : Chg (fun b => b = g) wr w5 := by rw [← hw5]; exact ((Chg.of_below (S := fun b => b = g) HB1.out).trans (Chg.of_below HB4.out)).setCell (p := ⟨g, 1, none⟩) rfl _
        have hx5 : Bk w5 x2 138 #[.string xk, .int .i64 xz] := by rw [← hw5]; exact (HX1.out.below HB4.out).far (p := ⟨g, 1, none⟩) HX2G.out _
        try rw [hw5]
        have HR5' := Lib.hid hr5
        have HC5' := Lib.hid hc5
        have HX5 := Lib.hid hx5
        clear HO4 HB4 hw5 hlb f4 s4 x0 x1 q0 q1 HBK1 HEK1 HX1 HRS1 HET1
        have x0 := hx5.cell 0
        have x1 := hx5.cell 1
        obtain ⟨aT5, cT5, aK5, cK5, r1, r2, r3, r4, r5, r6, r7⟩ := hr5
        have q0 := r1.cell 0
        have HBK5 := Lib.hid r1
        have HET5 := Lib.hid r2
        clear r1 r2 r3 r4 r5 r6 r7 hc5 hx5
        go_wp2_with fail
        refine wp_region_held_drew (S := (fun w' => w'.cell? ⟨x2, 0, none⟩ = some (.string xk) ∧ w'.cell? ⟨x2, 1, none⟩ = some (.int .i64 xz))) (by kernel_rfl) ?_ (fun hS => ?_)
        · exact ⟨x0, x1⟩
        refine tkY 0 ?_ rfl hS ?_ ?_
        rotate_left
        · intro wz hz
          obtain ⟨z0, z1⟩ := hz
          go_simp
          all_goals first | with_reducible rfl | omega
        try simp only [Act.put, pu]
        refine tkY 1 ?_ rfl hS ?_ ?_
        rotate_left
        · intro wz hz
          obtain ⟨z0, z1⟩ := hz
          go_simp
          all_goals first | with_reducible rfl | omega
        try simp only [Act.put, pu]
        refine tkY 2 ?_ rfl hS ?_ ?_
        rotate_left
        · intro wz hz
          obtain ⟨z0, z1⟩ := hz
          go_simp
          all_goals first | with_reducible rfl | omega
        try simp only [Act.put, pu]
        refine tkY 3 ?_ rfl hS ?_ ?_
        rotate_left
        · intro wz hz
          obtain ⟨z0, z1⟩ := hz
          go_simp
          all_goals first | with_reducible rfl | omega
        try simp only [Act.put, pu]
        refine tkY 5 ?_ rfl hS ?_ ?_
        rotate_left
        · intro wz hz
          obtain ⟨z0, z1⟩ := hz
          go_simp
          all_goals first | with_reducible rfl | omega
        try simp only [Act.put, pu]
        refine wpAnyH_ready (rs := [4]) (by kernel_rfl) (by simp) (AllReadyH.cons rfl (fun K' hK' => ?_) AllReadyH.nil)
        go_simp
        refine hK'.out _ _ ?_ (fun hSn => ?_)
        · exact hS
        clear hK' K' hS
        have hS := hSn
        clear hSn
        try simp only [Act.put, pu]
        refine wpAnyH_ready (rs := [6]) (by kernel_rfl) (by simp) (AllReadyH.cons rfl (fun K' hK' => ?_) AllReadyH.nil)
        go_simp
        refine (rahead_to _ T (xk, xz) _ (HET5.out.er.below (show Below w5.heap.size w5 w5.drew from below_drewN _ _ 1)) HLN.out.1 _ rfl).mono ?_
        rintro e w6 ⟨v6, c6, rfl, o6, b6⟩
        have hb6 : Below w5.heap.size w5 w6 := (show Below w5.heap.size w5 w5.drew from below_drewN _ _ 1).trans b6
        have hk6 := HBK5.out.below hb6
        have f6 := hk6.frozen 0
        have s6 := hk6.cell 0
        have hSC := (show _ ∧ _ from ⟨(HX5.out.below hb6).cell 0, (HX5.out.below hb6).cell 1⟩)
        have HO6 := Lib.hid o6
        have HB6 := Lib.hid hb6
        clear hk6 o6 b6 hb6
        refine hK'.out _ _ ?_ (fun hSn => ?_)
        · exact hSC
        clear hK' K' hS
        have hS := hSn
        clear hSn
        try simp only [Act.put, pu]
        refine tkY 7 ?_ rfl hS ?_ ?_
        rotate_left
        · intro wz hz
          obtain ⟨z0, z1⟩ := hz
          go_simp
          all_goals first | with_reducible rfl | omega
        try simp only [Act.put, pu]
        refine tkY 8 ?_ rfl hS ?_ ?_
        rotate_left
        · intro wz hz
          obtain ⟨z0, z1⟩ := hz
          go_simp
          all_goals first | with_reducible rfl | omega
        try simp only [Act.put, pu]
        refine wpAnyH_ready (rs := [9]) (by kernel_rfl) (by simp) (AllReadyH.cons rfl (fun K' hK' => ?_) AllReadyH.nil)
        go_simp
        refine hK'.out _ _ ?_ (fun hSn => ?_)
        · have hk7 := (HX5.out.below HB6.out).far (p := ⟨g, 0, none⟩) HX2G.out (.slice v6 ((xk, xz) :: T).length c6)
          exact ⟨hk7.cell 0, hk7.cell 1⟩
        clear hK' K' hS hSn
        refine wpAnyH_done (by kernel_rfl) ?_ _
        have hlb : (∀ q, (Value.slice v6 ((xk, xz) :: T).length c6).ownBlock = some q → q ≠ g) := HO6.out.off (g := g) HBK5.out.lt
        obtain ⟨w7, hw7⟩ : ∃ w7, w6.setCell ⟨g, 0, none⟩ (.slice v6 (T.length + 1) c6) = w7 := ⟨_, rfl⟩
        have hr7 : RS w0 w7 g al ke mo ((xk, xz) :: T) KD := by rw [← hw7]; exact (HR5'.out.below HB6.out).setT (HO6.out.mono HR5'.out.bel.size) hlb
        have hc7 : Chg (fun b => b = g) wr w7 := by rw [← hw7]; exact (HC5'.out.trans (Chg.of_below HB6.out)).setCell (p := ⟨g, 0, none⟩) rfl _
        have hx7 : Bk w7 x2 138 #[.string xk, .int .i64 xz] := by rw [← hw7]; exact (HX5.out.below HB6.out).far (p := ⟨g, 0, none⟩) HX2G.out _
        rw [hw7]
        have HO2 := Lib.hid (HO.out.chg hc7 (HO.out.ng HBK.out))
        have HR2' := Lib.hid hr7
        have HC2 := Lib.hid (HC.out.trans hc7)
        have hbx : Below w7.heap.size w7 (w7.alloc (.cells #[.string xk] 9)) := (Below.refl _ _).alloc (Nat.le_refl _) _
        have HBX := Lib.hid hbx
        clear HO6 HB6 hw7 hlb f6 s6 x0 x1 q0 HBK5 HET5 HX5 HR5' HC5' hr7 hc7 hbx
        have x0 := hx7.cell 0
        clear hx7
        go_wp2_with (at_builtin; refine wpList_app_text w.heap.size (.slice ua D.length uc) D xk w7.heap.size rfl _ _ rfl rfl (HO2.out.below HBX.out) rfl (Bk.new w7 _ _) (by have := HDL.out; have := HLK.out; omega) (by have := HC2.out.size; simp; omega) ?_; intro g9 cap9 w9 o9 gr9)
        have hty := (HO2.out.below HBX.out).ty
        have hr9 : RS w0 w9 g al ke mo ((xk, xz) :: T) KD := (HR2'.out.below HBX.out).chg ((Chg.refl (fun b => (Value.slice ua D.length uc).ownBlock = some b) _).grown gr9 fun q hq _ => hq) fun q hq => ⟨Nat.le_trans HRB.out (hty q hq).1, (hty q hq).2⟩
        have hc9 : Chg (fun b => b = g) w w9 := (HC2.out.alloc _).grown gr9 fun q hq hlt => by have := (hty q hq).1; omega
        have HR9 := Lib.hid hr9
        have HC9 := Lib.hid hc9
        have HO9 := Lib.hid o9
        clear hty hr9 hc9 o9 gr9 x0
        go_wp2
        go_roundg gk2
        case measure => exact Nat.lt_succ_self _
        case rel =>
          refine ⟨(xk, xz) :: T, KD, D ++ [xk], HKL.out, HU2.out, HPT2.out, HPK2.out, HS2.out, HR9.out, HC9.out, ⟨_, _, by rw [List.length_append]; rfl⟩, by have := HO9.out; simpa using this, by have := HDL.out; rw [List.length_append]; simp; omega, ?_⟩
          rw [HSH.out]
          simp
end Go.Proofs.YtjngangojgjceaaGreat.SL
namespace Go.Proofs.YtjngangojgjceaaGreat.SL
open Go.ChangeShapes Go.WideShapes Go.ChangeAt Go.RowKit Go.Maps Go.ChangeMaps
set_option maxRecDepth 100000
set_option linter.unusedVariables false
set_option linter.unusedSimpArgs false

theorem posE.ins {l : List En} (h : posE l) (k : ByteArray) {z : Int} (hz : 1 ≤ z) : posE ((k, z) :: delE k l) := fun y hy => by
  rcases List.mem_cons.1 hy with rfl | hy
  · exact hz
  · exact h.del k y hy
theorem hasS_t {k : ByteArray} {T K : List En} {y : Int} (h : hasE k T = some y) : hasS k T K = some y := by unfold hasS; rw [h]; rfl
theorem hasS_k {k : ByteArray} {T K : List En} (h : hasE k T = none) : hasS k T K = hasE k K := by unfold hasS; rw [h]; rfl
/-- the parts of what is told when a key that is there is used -/
theorem touch_parts {T K : List En} (hT : posE T) (hK : posE K) {k : ByteArray} {z : Int} (hz : hasS k T K = some z) :
    1 ≤ z ∧ sumE (delE k T) + (z + sumE (delE k K)) ≤ sumE T + sumE K ∧ (hasE k T = none → z ≤ sumE K) := by
  obtain ⟨t1, t2⟩ := sum_del_has (k := k) hT
  obtain ⟨k1, k2⟩ := sum_del_has (k := k) hK
  have hn := sum_nonneg (hK.del k)
  cases ht : hasE k T with
  | none =>
    rw [hasS_k ht] at hz
    have := k1 z hz
    exact ⟨has_pos hK hz, by omega, fun _ => by omega⟩
  | some y =>
    rw [hasS_t ht] at hz
    injection hz with hz
    subst hz
    have := t1 y ht
    exact ⟨has_pos hT ht, by omega, fun h => by cases h⟩
theorem rtouch_to (w0 w : World) (g : Nat) (al ke mo : Int) (T0 K0 : List En) (h : RS w0 w g al ke mo T0 K0) (hu : UK T0 K0) (hpT : posE T0) (hpK : posE K0) (hlim : sumE T0 + sumE K0 ≤ 1073741824) (hke : 0 ≤ ke) (hsk : sumE K0 ≤ ke) (k : ByteArray) (z : Int) (hz : hasS k T0 K0 = some z)
    (T9 K9 : List En) (G : List ByteArray) (hR : touchE ke k z T0 K0 = (T9, K9, G)) :
    Calls Tryz.prog 49 #[ptr g, .string k] w (TchP w0 w g al ke mo T9 K9 G) := by
  have lT := sum_pos hpT
  have lK := sum_pos hpK
  have nT := sum_nonneg hpT
  have nK := sum_nonneg hpK
  have hl : T0.length ≤ 1073741824 ∧ K0.length ≤ 1073741824 := by omega
  obtain ⟨z1, zs, zk⟩ := touch_parts hpT hpK hz
  unfold touchE at hR
  by_cases hk : z ≤ ke
  · rw [if_pos hk] at hR
    rcases place_has k T0 with ⟨hp, hn⟩ | ⟨p, y, hp, _, hh⟩
    · exact rtouch_two w0 w g al ke mo T0 K0 h hl k z hz hp hk hke _ _ rfl rfl (hu.ins k z) (hpT.del k) (hpK.ins k z1) (by rw [sumE]; exact Int.le_trans zs hlim) T9 K9 G hR
    · exact rtouch_one w0 w g al ke mo T0 K0 h hl k z hz p hp hk hke _ _ rfl rfl (hu.ins k z) (hpT.del k) (hpK.ins k z1) (by rw [sumE]; exact Int.le_trans zs hlim) T9 K9 G hR
  · rw [if_neg hk] at hR
    simp only [Prod.mk.injEq] at hR
    obtain ⟨rfl, rfl, rfl⟩ := hR
    rcases place_has k T0 with ⟨hp, hn⟩ | ⟨p, y, hp, _, hh⟩
    · exfalso
      have := zk hn
      omega
    · exact rtouch_big w0 w g al ke mo T0 K0 h hl k z hz p hp (by omega) _ _ rfl rfl (Nat.le_trans (List.length_filter_le _ _) hl.1)
section
variable {w0 w w' : World} {g n r : Nat} {al ke mo : Int} {T K T' K' : List En} {O : List Kp}
theorem lr_rkeys (h : LR w0 w g n al ke mo T K r T' K' O) (v : Value) (l : List En) (hv : ER w v l) (hl : l.length ≤ 1073741824) (d : List ByteArray) (hd : keysE l = d) :
    Calls Tryz.prog 59 #[v] w fun e w' => ∃ u, e = .returned u ∧ Below w.heap.size w w' ∧ LR w0 w' g n al ke mo T K r T' K' (.txt u d :: O) := by
  obtain ⟨P, S, h1, h2⟩ := h
  subst hd
  refine (rkeys_any v l w hv hl).mono ?_
  rintro e w1 ⟨u, rfl, h3, h4⟩
  exact ⟨u, rfl, h4, LR.swap (h1.add h4 h3) h2⟩
end
/-- what the code's calls that only make memory leave of a list of entries -/
theorem LR.er {w0 w : World} {g n r : Nat} {al ke mo : Int} {T K T' K' : List En} {O : List Kp} (h : LR w0 w g n al ke mo T K r T' K' O) : ∃ aT cT aK cK, Bk w r 71 #[.slice aT T'.length cT, .slice aK K'.length cK, .int .i64 al, .int .i64 ke, .int .i64 mo] ∧ ER w (.slice aT T'.length cT) T' ∧ ER w (.slice aK K'.length cK) K' := by
  obtain ⟨aT, cT, aK, cK, r1, r2, r3, r4, r5, r6, r7⟩ := h.rs
  exact ⟨aT, cT, aK, cK, r1, r2.er, r3.er⟩
end Go.Proofs.YtjngangojgjceaaGreat.SL
namespace Go.Proofs.YtjngangojgjceaaGreat.SL
open Go.ChangeShapes Go.WideShapes Go.ChangeAt Go.RowKit Go.Maps Go.ChangeMaps
set_option maxRecDepth 100000
set_option linter.unusedVariables false
set_option linter.unusedSimpArgs false

/-- a copy under way: it lies in memory made since w -/
def CpS (w wx : World) (gc : Nat) (al ke mo : Int) (T K : List En) : Prop :=
  ∃ n x, St wx gc n al ke mo x ∧ x.tE = T ∧ x.kE = K ∧ (∀ b, x.own gc b → w.heap.size ≤ b) ∧ Below w.heap.size w wx ∧ n = T.length + K.length
theorem CpS.bel {w wx : World} {gc : Nat} {al ke mo : Int} {T K : List En} (h : CpS w wx gc al ke mo T K) : Below w.heap.size w wx := by obtain ⟨_, _, _, _, _, _, h, _⟩ := h; exact h
theorem CpS.below {w wx wy : World} {gc : Nat} {al ke mo : Int} {T K : List En} (h : CpS w wx gc al ke mo T K) (hb : Below wx.heap.size wx wy) : CpS w wy gc al ke mo T K := by
  obtain ⟨n, x, h1, h2, h3, h4, h5, h6⟩ := h
  exact ⟨n, x, h1.below hb, h2, h3, h4, h5.trans (hb.mono h5.size), h6⟩
theorem St.none_of {w : World} {g n : Nat} {al ke mo : Int} {x : Sx} (h : St w g n al ke mo x) {k : ByteArray} (h1 : k ∉ keysE x.tE) (h2 : k ∉ keysE x.kE) : x.f k = none := by
  cases hf : x.f k with
  | none => rfl
  | some b =>
    exfalso
    obtain ⟨hb, hk⟩ := (h.lk k b).1 hf
    rcases hb with hb | hb
    · exact h1 (List.mem_map.2 ⟨((x.F b).k, (x.F b).z), List.mem_map.2 ⟨b, hb, rfl⟩, hk⟩)
    · exact h2 (List.mem_map.2 ⟨((x.F b).k, (x.F b).z), List.mem_map.2 ⟨b, hb, rfl⟩, hk⟩)
theorem CpS.addT {w wx : World} {gc : Nat} {al ke mo : Int} {T K : List En} (h : CpS w wx gc al ke mo T K) (k : ByteArray) (hk : k.size ≤ 281474976710656) (z : Int) (hz : 1 ≤ z) (h1 : k ∉ keysE T) (h2 : k ∉ keysE K) (hl : sumE T + sumE K + z ≤ 1073741824) :
    Calls Tryz.prog 70 #[ptr gc, .agg #[.string k, .int .i64 z], .int .i64 0] wx (RetP fun w' => CpS w w' gc al ke mo ((k, z) :: T) K) := by
  obtain ⟨n, x, s1, rfl, rfl, s4, s5, s6⟩ := h
  have hlen := s1.len
  refine (add_T wx gc n al ke mo x s1 k hk (s1.none_of h1 h2) z hz hl (by omega)).mono ?_
  rintro e w' ⟨rfl, x', q1, q2, q3, q4, q5⟩
  refine ⟨rfl, n + 1, x', q1, q2, q3, fun b hb => (q4 b hb).elim (s4 b) fun h => Nat.le_trans s5.size h, below_chg s5 q5 s4, ?_⟩
  rw [List.length_cons]; omega
theorem CpS.addK {w wx : World} {gc : Nat} {al ke mo : Int} {T K : List En} (h : CpS w wx gc al ke mo T K) (k : ByteArray) (hk : k.size ≤ 281474976710656) (z : Int) (hz : 1 ≤ z) (h1 : k ∉ keysE T) (h2 : k ∉ keysE K) (hl : sumE T + sumE K + z ≤ 1073741824) :
    Calls Tryz.prog 70 #[ptr gc, .agg #[.string k, .int .i64 z], .int .i64 1] wx (RetP fun w' => CpS w w' gc al ke mo T ((k, z) :: K)) := by
  obtain ⟨n, x, s1, rfl, rfl, s4, s5, s6⟩ := h
  have hlen := s1.len
  refine (add_K wx gc n al ke mo x s1 k hk (s1.none_of h1 h2) z hz hl (by omega)).mono ?_
  rintro e w' ⟨rfl, x', q1, q2, q3, q4, q5⟩
  refine ⟨rfl, n + 1, x', q1, q2, q3, fun b hb => (q4 b hb).elim (s4 b) fun h => Nat.le_trans s5.size h, below_chg s5 q5 s4, ?_⟩
  rw [List.length_cons]; omega
theorem snoc_form (e : Nat) (A : List Nat) : ∃ C c, e :: A = C ++ [c] := by
  rcases List.eq_nil_or_concat (e :: A) with h | ⟨C, c, h⟩
  · cases h
  · exact ⟨C, c, by simpa using h⟩
theorem ring_last {F : Nat → Nd} {e : Nat} {L : List Nat} (hl : Lnk F (e :: (L ++ [e]))) {C : List Nat} {c : Nat} (hc : e :: L = C ++ [c]) : (F e).nw = some c := by
  have e1 : e :: (L ++ [e]) = C ++ c :: [e] := by rw [← List.cons_append, hc]; simp
  rw [e1, Lnk.split] at hl
  exact hl.2.2.1
theorem St.ring2 {w : World} {g n : Nat} {al ke mo : Int} {x : Sx} (h : St w g n al ke mo x) : (keysE x.tE).Nodup ∧ (keysE x.kE).Nodup ∧ ∀ k, k ∈ keysE x.tE → k ∉ keysE x.kE := by
  have hls : LS w w g n al ke mo x.tE x.kE [] → True := fun _ => trivial
  have key : ∀ L : List Nat, keysE (en x.F L) = L.map fun b => (x.F b).k := fun L => by show ((en x.F L).map (·.1)) = _; unfold en; rw [List.map_map]; rfl
  have nd : ∀ L : List Nat, L.Nodup → (∀ b ∈ L, b ∈ x.T ∨ b ∈ x.K) → (L.map fun b => (x.F b).k).Nodup := by
    intro L hn hs
    induction L with
    | nil => exact List.nodup_nil
    | cons a L ih =>
      obtain ⟨h1, h2⟩ := List.nodup_cons.1 hn
      rw [List.map_cons]
      refine List.nodup_cons.2 ⟨fun hm => ?_, ih h2 fun b hb => hs b (List.mem_cons_of_mem _ hb)⟩
      obtain ⟨b, hb, e⟩ := List.mem_map.1 hm
      have := h.gg.uq b a (hs b (List.mem_cons_of_mem _ hb)) (hs a (List.mem_cons_self ..)) e
      subst this
      exact h1 hb
  refine ⟨?_, ?_, fun k hk hk2 => ?_⟩
  · show (keysE (en x.F x.T)).Nodup
    rw [key]; exact nd _ (List.nodup_cons.1 h.gg.n0).2 fun b hb => .inl hb
  · show (keysE (en x.F x.K)).Nodup
    rw [key]; exact nd _ (List.nodup_cons.1 h.gg.n1).2 fun b hb => .inr hb
  · have hk : k ∈ keysE (en x.F x.T) := hk
    have hk2 : k ∈ keysE (en x.F x.K) := hk2
    rw [key] at hk hk2
    obtain ⟨b, hb, e1⟩ := List.mem_map.1 hk
    obtain ⟨c, hc, e2⟩ := List.mem_map.1 hk2
    have := h.gg.uq b c (.inl hb) (.inr hc) (e1.trans e2.symm)
    subst this
    exact h.gg.ap b (.inr hb) (.inr hc)
set_option maxHeartbeats 8000000 in
theorem copy_any (w : World) (g n : Nat) (al ke mo : Int) (x : Sx) (h : St w g n al ke mo x) (hk : ∀ y, y ∈ x.tE ∨ y ∈ x.kE → y.1.size ≤ 281474976710656) :
    Calls Tryz.prog 56 #[ptr g] w fun e w' => ∃ gc, e = .returned (ptr gc) ∧ CpS w w' gc al ke mo x.tE x.kE := by
  obtain ⟨c0, c1, c2, c3, c4, _, c6, _, _⟩ := h.cells
  have HH := Lib.hid h
  have HKL := Lib.hid hk
  have HG := Lib.hid h.bk.lt
  have HLM := Lib.hid h.lim
  have HRG := Lib.hid h.ring2
  have HPS := Lib.hid h.gg.en_pos
  have nz := en_ne0
  clear h hk
  go_enter Tryz.func56, Tryz.ntmps56
  go_wp2_with fail
  refine (given_yes _ g c0).mono ?_
  rintro e w' ⟨rfl, rfl⟩
  go_wp2_with fail
  refine wp_region_held_drew (S := (fun w' => Below w.heap.size w w')) (by kernel_rfl) ?_ (fun hS => ?_)
  · exact (Below.refl _ _).drew
  refine tkY 0 ?_ rfl hS ?_ ?_
  rotate_left
  · intro wz hz
    have z1 := (hz.cell (p := ⟨g, 1, none⟩) HG.out).trans c1
    have z2 := (hz.cell (p := ⟨g, 2, none⟩) HG.out).trans c2
    have z3 := (hz.cell (p := ⟨g, 3, none⟩) HG.out).trans c3
    go_simp
    all_goals first | with_reducible rfl | omega
  try simp only [Act.put, pu]
  refine tkY 1 ?_ rfl hS ?_ ?_
  rotate_left
  · intro wz hz
    have z1 := (hz.cell (p := ⟨g, 1, none⟩) HG.out).trans c1
    have z2 := (hz.cell (p := ⟨g, 2, none⟩) HG.out).trans c2
    have z3 := (hz.cell (p := ⟨g, 3, none⟩) HG.out).trans c3
    go_simp
    all_goals first | with_reducible rfl | omega
  try simp only [Act.put, pu]
  refine tkY 2 ?_ rfl hS ?_ ?_
  rotate_left
  · intro wz hz
    have z1 := (hz.cell (p := ⟨g, 1, none⟩) HG.out).trans c1
    have z2 := (hz.cell (p := ⟨g, 2, none⟩) HG.out).trans c2
    have z3 := (hz.cell (p := ⟨g, 3, none⟩) HG.out).trans c3
    go_simp
    all_goals first | with_reducible rfl | omega
  try simp only [Act.put, pu]
  refine tkY 3 ?_ rfl hS ?_ ?_
  rotate_left
  · intro wz hz
    have z1 := (hz.cell (p := ⟨g, 1, none⟩) HG.out).trans c1
    have z2 := (hz.cell (p := ⟨g, 2, none⟩) HG.out).trans c2
    have z3 := (hz.cell (p := ⟨g, 3, none⟩) HG.out).trans c3
    go_simp
    all_goals first | with_reducible rfl | omega
  try simp only [Act.put, pu]
  refine tkY 4 ?_ rfl hS ?_ ?_
  rotate_left
  · intro wz hz
    have z1 := (hz.cell (p := ⟨g, 1, none⟩) HG.out).trans c1
    have z2 := (hz.cell (p := ⟨g, 2, none⟩) HG.out).trans c2
    have z3 := (hz.cell (p := ⟨g, 3, none⟩) HG.out).trans c3
    go_simp
    all_goals first | with_reducible rfl | omega
  try simp only [Act.put, pu]
  refine tkY 5 ?_ rfl hS ?_ ?_
  rotate_left
  · intro wz hz
    have z1 := (hz.cell (p := ⟨g, 1, none⟩) HG.out).trans c1
    have z2 := (hz.cell (p := ⟨g, 2, none⟩) HG.out).trans c2
    have z3 := (hz.cell (p := ⟨g, 3, none⟩) HG.out).trans c3
    go_simp
    all_goals first | with_reducible rfl | omega
  try simp only [Act.put, pu]
  refine tkY 6 ?_ rfl hS ?_ ?_
  rotate_left
  · intro wz hz
    have z1 := (hz.cell (p := ⟨g, 1, none⟩) HG.out).trans c1
    have z2 := (hz.cell (p := ⟨g, 2, none⟩) HG.out).trans c2
    have z3 := (hz.cell (p := ⟨g, 3, none⟩) HG.out).trans c3
    go_simp
    all_goals first | with_reducible rfl | omega
  try simp only [Act.put, pu]
  refine tkY 7 ?_ rfl hS ?_ ?_
  rotate_left
  · intro wz hz
    have z1 := (hz.cell (p := ⟨g, 1, none⟩) HG.out).trans c1
    have z2 := (hz.cell (p := ⟨g, 2, none⟩) HG.out).trans c2
    have z3 := (hz.cell (p := ⟨g, 3, none⟩) HG.out).trans c3
    go_simp
    all_goals first | with_reducible rfl | omega
  try simp only [Act.put, pu]
  refine tkY 8 ?_ rfl hS ?_ ?_
  rotate_left
  · intro wz hz
    have z1 := (hz.cell (p := ⟨g, 1, none⟩) HG.out).trans c1
    have z2 := (hz.cell (p := ⟨g, 2, none⟩) HG.out).trans c2
    have z3 := (hz.cell (p := ⟨g, 3, none⟩) HG.out).trans c3
    go_simp
    all_goals first | with_reducible rfl | omega
  try simp only [Act.put, pu]
  refine tkY 9 ?_ rfl hS ?_ ?_
  rotate_left
  · intro wz hz
    have z1 := (hz.cell (p := ⟨g, 1, none⟩) HG.out).trans c1
    have z2 := (hz.cell (p := ⟨g, 2, none⟩) HG.out).trans c2
    have z3 := (hz.cell (p := ⟨g, 3, none⟩) HG.out).trans c3
    go_simp
    all_goals first | with_reducible rfl | omega
  try simp only [Act.put, pu]
  refine tkY 10 ?_ rfl hS ?_ ?_
  rotate_left
  · intro wz hz
    have z1 := (hz.cell (p := ⟨g, 1, none⟩) HG.out).trans c1
    have z2 := (hz.cell (p := ⟨g, 2, none⟩) HG.out).trans c2
    have z3 := (hz.cell (p := ⟨g, 3, none⟩) HG.out).trans c3
    go_simp
    all_goals first | with_reducible rfl | omega
  try simp only [Act.put, pu]
  refine tkY 11 ?_ rfl hS ?_ ?_
  rotate_left
  · intro wz hz
    have z1 := (hz.cell (p := ⟨g, 1, none⟩) HG.out).trans c1
    have z2 := (hz.cell (p := ⟨g, 2, none⟩) HG.out).trans c2
    have z3 := (hz.cell (p := ⟨g, 3, none⟩) HG.out).trans c3
    go_simp
    all_goals first | with_reducible rfl | omega
  try simp only [Act.put, pu]
  refine wpAnyH_ready (rs := [12]) (by kernel_rfl) (by simp) (AllReadyH.cons rfl (fun K' hK' => ?_) AllReadyH.nil)
  go_simp
  refine (made_any al ke mo _).mono ?_
  rintro e w1 ⟨gc, xc, rfl, hs1, ht1, hk1, ho1, hb1⟩
  have hbw : Below w.heap.size w w1 := hS.trans (hb1.mono hS.size)
  have HC1 : Hid (CpS w w1 gc al ke mo [] []) := Lib.hid ⟨0, xc, hs1, ht1, hk1, fun b hb => Nat.le_trans hS.size (ho1 b hb), hbw, rfl⟩
  refine hK'.out _ _ ?_ (fun hSn => ?_)
  · exact hbw
  clear hK' K' hS hs1 ht1 hk1 ho1 hb1 hbw
  have hS := hSn
  clear hSn
  try simp only [Act.put, pu]
  refine tkY 13 ?_ rfl hS ?_ ?_
  rotate_left
  · intro wz hz
    go_simp
    all_goals first | with_reducible rfl | omega
  try simp only [Act.put, pu]
  refine wpAnyH_done (by kernel_rfl) ?_ _
  clear hS c0 c1 c2 c3 c4 c6
  go_wp2_with fail
  go_loopg [22] 2 (fun gk u22 wx => ∃ i : Nat, u22 = .int .i64 (i : Int) ∧ i + gk = 2 ∧ CpS w wx gc al ke mo (if 0 < i then x.tE else []) (if 1 < i then x.kE else []))
  case atStart => exact ⟨0, rfl, rfl, HC1.out⟩
  case round =>
    obtain ⟨i, rfl, hi, hcp⟩ := hrel
    have HC := Lib.hid hcp
    clear HC1
    cases gk with
    | zero =>
      have hi2 : i = 2 := by omega
      subst hi2
      have HF : Hid (∃ gc, Ending.returned (ptr gc) = Ending.returned (ptr gc) ∧ CpS w wr gc al ke mo x.tE x.kE) := Lib.hid ⟨gc, rfl, by simpa using hcp⟩
      clear hcp hi
      go_wp2
      go_ret
      obtain ⟨q, h1, h2⟩ := HF.out
      exact ⟨gc, rfl, by simpa using HC.out⟩
    | succ gk1 =>
      have hi01 : i = 0 ∨ i = 1 := by omega
      rcases hi01 with rfl | rfl
      · have hg1 : gk1 = 1 := by omega
        subst hg1
        clear hi
        obtain ⟨C0, c0, hC0⟩ := snoc_form x.e0 x.T
        have hst := HH.out.below hcp.bel
        have q4 : wr.cell? ⟨g, 4, none⟩ = some (ptr x.e0) := hst.bk.cell 4
        have d3 := (hst.node (b := x.e0) (.inl rfl)).2.2.2.1
        rw [ring_last hst.gg.l0 hC0] at d3
        have d3 : wr.cell? ⟨x.e0, 3, none⟩ = some (ptr c0) := d3
        have HC0 := Lib.hid hC0
        clear hst hcp hC0
        go_wp2_with fail
        refine (last_any _ g 4 x.e0 c0 q4 d3).mono ?_
        rintro e w' ⟨rfl, rfl⟩
        clear q4 d3
        go_wp2_with fail
        go_loopg [5] x.T.length (fun gk u5 wx => ∃ A B c C, x.T = A ++ B ∧ A.length = gk ∧ u5 = ptr c ∧ x.e0 :: A = C ++ [c] ∧ CpS w wx gc al ke mo (en x.F B) [])
        case atStart => exact ⟨x.T, [], c0, C0, by simp, rfl, rfl, HC0.out, by simpa [en] using HC.out⟩
        case round =>
          obtain ⟨A, B, c, C, hL, hlen, rfl, hcc, hcq⟩ := hrel
          have hst := HH.out.below hcq.bel
          have HCQ := Lib.hid hcq
          cases gk with
          | zero =>
            have hA : A = [] := List.eq_nil_of_length_eq_zero hlen
            subst hA
            have hce : c = x.e0 := by
              cases C with
              | nil => simp at hcc; exact hcc.symm
              | cons y C => simp at hcc
            subst hce
            obtain ⟨d0, d1, _⟩ := hst.node (b := x.e0) (.inl rfl)
            rw [hst.gg.z0.1] at d0
            rw [hst.gg.z0.2] at d1
            have hB : en x.F B = x.tE := by rw [List.nil_append] at hL; rw [← hL]; rfl
            have HFIN : Hid (CpS w wr gc al ke mo (if 0 < 0 + 1 then x.tE else []) (if 1 < 0 + 1 then x.kE else [])) := Lib.hid (by rw [hB] at hcq; simpa using hcq)
            clear hst hcq hL hlen hcc hB HCQ
            go_wp2
            go_roundg 1
            case measure => exact Nat.lt_succ_self _
            case rel => exact ⟨0 + 1, rfl, rfl, HFIN.out⟩
          | succ gko =>
            obtain ⟨L, d, rfl⟩ : ∃ L d, A = L ++ [d] := by
              rcases List.eq_nil_or_concat A with h | ⟨L, d, h⟩
              · subst h; simp at hlen
              · exact ⟨L, d, by simpa using h⟩
            have hdc : c = d := by
              have := congrArg List.getLast? hcc
              rw [← List.cons_append, List.getLast?_concat, List.getLast?_concat] at this
              injection this with this
              exact this.symm
            subst hdc
            have hx : c ∈ x.T := by rw [hL]; simp
            obtain ⟨C1, c1, hC1⟩ := snoc_form x.e0 L
            have hnw : (x.F c).nw = some c1 := by
              have hl := hst.gg.l0
              rw [hL] at hl
              exact nw_next (L1 := L) (L2 := B) (by simpa using hl) hC1
            obtain ⟨d0, d1, _, d3, _⟩ := hst.node (b := c) (.inr (.inr (.inl hx)))
            rw [hnw] at d3
            have d3 : wr.cell? ⟨c, 3, none⟩ = some (ptr c1) := d3
            have hpos := hst.gg.pos c (.inl hx)
            obtain ⟨kc, hkc⟩ : ∃ k, (x.F c).k = k := ⟨_, rfl⟩
            obtain ⟨zc, hzc⟩ : ∃ z, (x.F c).z = z := ⟨_, rfl⟩
            have hin : (kc, zc) :: en x.F B = en x.F (c :: B) := by rw [← hkc, ← hzc]; rfl
            have hap : x.tE = en x.F L ++ (kc, zc) :: en x.F B := by rw [hin]; show en x.F x.T = _; rw [hL]; unfold en; simp
            have hsz : kc.size ≤ 281474976710656 := HKL.out (kc, zc) (.inl (by rw [hap]; simp))
            have hnB : kc ∉ keysE (en x.F B) := by
              have := HRG.out.1
              rw [hap, keysE_app] at this
              exact (List.nodup_cons.1 (List.nodup_append.1 this).2.1).1
            have hkin : kc ∈ keysE x.tE := by rw [hap, keysE_app]; exact List.mem_append.2 (.inr (List.mem_cons_self ..))
            have hsum : sumE (en x.F B) + sumE [] + zc ≤ 1073741824 := by
              have h1 := HLM.out
              have h2 : 0 ≤ sumE x.kE := sum_nonneg HPS.out.2
              have h3 := congrArg sumE hap
              rw [sum_app, sumE] at h3
              simp only at h3
              have h4 : 0 ≤ sumE (en x.F L) := sum_nonneg fun y hy => HPS.out.1 y (by show y ∈ x.tE; rw [hap]; exact List.mem_append.2 (.inl hy))
              rw [show sumE ([] : List En) = 0 from rfl]; omega
            rw [hkc] at d0
            rw [hzc] at d1 hpos
            have qe := fun W => en_ne kc zc hpos W
            have HADD := Lib.hid (hcq.addT kc hsz zc hpos hnB (by simp [keysE]) hsum)
            have HD3 := Lib.hid (fun (w9 : World) (hb9 : Below w.heap.size w w9) => (show w9.cell? ⟨c, 3, none⟩ = some (ptr c1) from by
              have := ((HH.out.below hb9).node (b := c) (.inr (.inr (.inl hx)))).2.2.2.1
              rw [hnw] at this
              exact this))
            have HL := Lib.hid (show x.T = L ++ (c :: B) by rw [hL]; simp)
            have HC1 := Lib.hid hC1
            have HLL : Hid (L.length = gko) := Lib.hid (by rw [List.length_append] at hlen; simpa using hlen)
            have HIN := Lib.hid hin
            clear hst hcq hL hlen hcc hnw hin hap hsz hnB hkin hsum hC1 hkc hzc hx d3
            go_wp2_with fail
            refine HADD.out.mono ?_
            rintro e w9 ⟨rfl, hc9⟩
            have d3 := HD3.out w9 hc9.bel
            rw [HIN.out] at hc9
            have HC9 := Lib.hid hc9
            clear hc9
            go_wp2
            go_roundg gko
            case measure => exact Nat.lt_succ_self _
            case rel => exact ⟨L, c :: B, c1, C1, HL.out, HLL.out, rfl, HC1.out, HC9.out⟩
      · have hg1 : gk1 = 0 := by omega
        subst hg1
        clear hi
        obtain ⟨C0, c0, hC0⟩ := snoc_form x.e1 x.K
        have hst := HH.out.below hcp.bel
        have q4 : wr.cell? ⟨g, 6, none⟩ = some (ptr x.e1) := hst.bk.cell 6
        have d3 := (hst.node (b := x.e1) (.inr (.inl rfl))).2.2.2.1
        rw [ring_last hst.gg.l1 hC0] at d3
        have d3 : wr.cell? ⟨x.e1, 3, none⟩ = some (ptr c0) := d3
        have HC0 := Lib.hid hC0
        clear hst hcp hC0
        go_wp2_with fail
        refine (last_any _ g 6 x.e1 c0 q4 d3).mono ?_
        rintro e w' ⟨rfl, rfl⟩
        clear q4 d3
        go_wp2_with fail
        go_loopg [5] x.K.length (fun gk u5 wx => ∃ A B c C, x.K = A ++ B ∧ A.length = gk ∧ u5 = ptr c ∧ x.e1 :: A = C ++ [c] ∧ CpS w wx gc al ke mo x.tE (en x.F B))
        case atStart => exact ⟨x.K, [], c0, C0, by simp, rfl, rfl, HC0.out, by simpa [en] using HC.out⟩
        case round =>
          obtain ⟨A, B, c, C, hL, hlen, rfl, hcc, hcq⟩ := hrel
          have hst := HH.out.below hcq.bel
          have HCQ := Lib.hid hcq
          cases gk with
          | zero =>
            have hA : A = [] := List.eq_nil_of_length_eq_zero hlen
            subst hA
            have hce : c = x.e1 := by
              cases C with
              | nil => simp at hcc; exact hcc.symm
              | cons y C => simp at hcc
            subst hce
            obtain ⟨d0, d1, _⟩ := hst.node (b := x.e1) (.inr (.inl rfl))
            rw [hst.gg.z1.1] at d0
            rw [hst.gg.z1.2] at d1
            have hB : en x.F B = x.kE := by rw [List.nil_append] at hL; rw [← hL]; rfl
            have HFIN : Hid (CpS w wr gc al ke mo (if 0 < 1 + 1 then x.tE else []) (if 1 < 1 + 1 then x.kE else [])) := Lib.hid (by rw [hB] at hcq; simpa using hcq)
            clear hst hcq hL hlen hcc hB HCQ
            go_wp2
            go_roundg 0
            case measure => exact Nat.lt_succ_self _
            case rel => exact ⟨1 + 1, rfl, rfl, HFIN.out⟩
          | succ gko =>
            obtain ⟨L, d, rfl⟩ : ∃ L d, A = L ++ [d] := by
              rcases List.eq_nil_or_concat A with h | ⟨L, d, h⟩
              · subst h; simp at hlen
              · exact ⟨L, d, by simpa using h⟩
            have hdc : c = d := by
              have := congrArg List.getLast? hcc
              rw [← List.cons_append, List.getLast?_concat, List.getLast?_concat] at this
              injection this with this
              exact this.symm
            subst hdc
            have hx : c ∈ x.K := by rw [hL]; simp
            obtain ⟨C1, c1, hC1⟩ := snoc_form x.e1 L
            have hnw : (x.F c).nw = some c1 := by
              have hl := hst.gg.l1
              rw [hL] at hl
              exact nw_next (L1 := L) (L2 := B) (by simpa using hl) hC1
            obtain ⟨d0, d1, _, d3, _⟩ := hst.node (b := c) (.inr (.inr (.inr hx)))
            rw [hnw] at d3
            have d3 : wr.cell? ⟨c, 3, none⟩ = some (ptr c1) := d3
            have hpos := hst.gg.pos c (.inr hx)
            obtain ⟨kc, hkc⟩ : ∃ k, (x.F c).k = k := ⟨_, rfl⟩
            obtain ⟨zc, hzc⟩ : ∃ z, (x.F c).z = z := ⟨_, rfl⟩
            have hin : (kc, zc) :: en x.F B = en x.F (c :: B) := by rw [← hkc, ← hzc]; rfl
            have hap : x.kE = en x.F L ++ (kc, zc) :: en x.F B := by rw [hin]; show en x.F x.K = _; rw [hL]; unfold en; simp
            have hsz : kc.size ≤ 281474976710656 := HKL.out (kc, zc) (.inr (by rw [hap]; simp))
            have hnB : kc ∉ keysE (en x.F B) := by
              have := HRG.out.2.1
              rw [hap, keysE_app] at this
              exact (List.nodup_cons.1 (List.nodup_append.1 this).2.1).1
            have hkin : kc ∈ keysE x.kE := by rw [hap, keysE_app]; exact List.mem_append.2 (.inr (List.mem_cons_self ..))
            have hsum : sumE x.tE + sumE (en x.F B) + zc ≤ 1073741824 := by
              have h1 := HLM.out
              have h2 : 0 ≤ sumE x.tE := sum_nonneg HPS.out.1
              have h3 := congrArg sumE hap
              rw [sum_app, sumE] at h3
              simp only at h3
              have h4 : 0 ≤ sumE (en x.F L) := sum_nonneg fun y hy => HPS.out.2 y (by show y ∈ x.kE; rw [hap]; exact List.mem_append.2 (.inl hy))
              omega
            rw [hkc] at d0
            rw [hzc] at d1 hpos
            have qe := fun W => en_ne kc zc hpos W
            have HADD := Lib.hid (hcq.addK kc hsz zc hpos (fun h => HRG.out.2.2 kc h hkin) hnB hsum)
            have HD3 := Lib.hid (fun (w9 : World) (hb9 : Below w.heap.size w w9) => (show w9.cell? ⟨c, 3, none⟩ = some (ptr c1) from by
              have := ((HH.out.below hb9).node (b := c) (.inr (.inr (.inr hx)))).2.2.2.1
              rw [hnw] at this
              exact this))
            have HL := Lib.hid (show x.K = L ++ (c :: B) by rw [hL]; simp)
            have HC1 := Lib.hid hC1
            have HLL : Hid (L.length = gko) := Lib.hid (by rw [List.length_append] at hlen; simpa using hlen)
            have HIN := Lib.hid hin
            clear hst hcq hL hlen hcc hnw hin hap hsz hnB hkin hsum hC1 hkc hzc hx d3
            go_wp2_with fail
            refine HADD.out.mono ?_
            rintro e w9 ⟨rfl, hc9⟩
            have d3 := HD3.out w9 hc9.bel
            rw [HIN.out] at hc9
            have HC9 := Lib.hid hc9
            clear hc9
            go_wp2
            go_roundg gko
            case measure => exact Nat.lt_succ_self _
            case rel => exact ⟨L, c :: B, c1, C1, HL.out, HLL.out, rfl, HC1.out, HC9.out⟩
end Go.Proofs.YtjngangojgjceaaGreat.SL
namespace Go.Proofs.YtjngangojgjceaaGreat.SL
open Go.ChangeShapes Go.WideShapes Go.ChangeAt Go.RowKit Go.Maps Go.ChangeMaps
set_option maxRecDepth 100000
set_option linter.unusedVariables false
set_option linter.unusedSimpArgs false

section
variable {w0 w w' : World} {g n r : Nat} {al ke mo : Int} {T K T' K' : List En} {O : List Kp}
theorem lb_keysT (h : LR w0 w g n al ke mo T K r T' K' O) (d : List ByteArray) (hd : keysE T = d) :
    Calls Tryz.prog 94 #[ptr g, .bool false] w fun e w' => ∃ v c, e = .returned (.slice v d.length c) ∧ Below w.heap.size w w' ∧ LR w0 w' g n al ke mo T K r T' K' (.txt (.slice v d.length c) d :: O) := by
  obtain ⟨P, S, h1, h2⟩ := h
  have h0 := h1
  obtain ⟨x, q1, rfl, rfl, _⟩ := h1
  subst hd
  refine (keys_T w g n al ke mo x q1).mono ?_
  rintro e w' ⟨v, rfl, hv, hb⟩
  obtain ⟨va, vc, rfl⟩ := hv.form
  exact ⟨va, vc, rfl, hb, LR.swap (h0.add hb hv) h2⟩
theorem lb_keysK (h : LR w0 w g n al ke mo T K r T' K' O) (d : List ByteArray) (hd : keysE K = d) :
    Calls Tryz.prog 94 #[ptr g, .bool true] w fun e w' => ∃ v c, e = .returned (.slice v d.length c) ∧ Below w.heap.size w w' ∧ LR w0 w' g n al ke mo T K r T' K' (.txt (.slice v d.length c) d :: O) := by
  obtain ⟨P, S, h1, h2⟩ := h
  have h0 := h1
  obtain ⟨x, q1, rfl, rfl, _⟩ := h1
  subst hd
  refine (keys_K w g n al ke mo x q1).mono ?_
  rintro e w' ⟨v, rfl, hv, hb⟩
  obtain ⟨va, vc, rfl⟩ := hv.form
  exact ⟨va, vc, rfl, hb, LR.swap (h0.add hb hv) h2⟩
theorem lb_bytesT (h : LR w0 w g n al ke mo T K r T' K' O) (z : Int) (hz : sumE T = z) :
    Calls Tryz.prog 60 #[ptr g, .bool false] w fun e w' => e = .returned (.int .i64 z) ∧ ∃ m, w' = w.drewN m := by
  obtain ⟨P, S, ⟨x, q1, rfl, rfl, _⟩, h2⟩ := h
  subst hz
  exact bytes_false w g n al ke mo x q1
theorem lb_bytesK (h : LR w0 w g n al ke mo T K r T' K' O) (z : Int) (hz : sumE K = z) :
    Calls Tryz.prog 60 #[ptr g, .bool true] w fun e w' => e = .returned (.int .i64 z) ∧ ∃ m, w' = w.drewN m := by
  obtain ⟨P, S, ⟨x, q1, rfl, rfl, _⟩, h2⟩ := h
  subst hz
  exact bytes_true w g n al ke mo x q1
/-- a copy beside the store -/
def CopP (w0 : World) (g n : Nat) (al ke mo : Int) (T K : List En) (r : Nat) (T' K' : List En) (O : List Kp) (gc : Nat) (w' : World) : Prop :=
  ∃ nc x', LR w0 w' g n al ke mo T K r T' K' (.keep (fun w2 => St w2 gc nc al ke mo x') (x'.own gc) :: O) ∧ x'.tE = T ∧ x'.kE = K ∧ nc ≤ 1073741824 ∧ (∀ b, x'.own gc b → w0.heap.size ≤ b)
theorem lr_copy (h : LR w0 w g n al ke mo T K r T' K' O) (hT : kLe T) (hK : kLe K) :
    Calls Tryz.prog 56 #[ptr g] w fun e w' => ∃ gc, e = .returned (ptr gc) ∧ CopP w0 g n al ke mo T K r T' K' O gc w' := by
  obtain ⟨P, S, h1, h2⟩ := h
  obtain ⟨x, q1, rfl, rfl, q4, q5, q6⟩ := h1
  refine (copy_any w g n al ke mo x q1 (fun y hy => hy.elim (hT y) (hK y))).mono ?_
  rintro e w' ⟨gc, rfl, nc, x', s1, s2, s3, s4, s5, s6⟩
  have hlen := q1.len
  refine ⟨gc, rfl, nc, x', ?_, s2, s3, by omega, fun b hb => Nat.le_trans q5.size (s4 b hb)⟩
  refine LR.swap (P := P) (S := S) ⟨x, q1.below s5, rfl, rfl, q4, q5.trans (s5.mono q5.size), fun p hp => ?_⟩ h2
  rcases List.mem_cons.1 hp with rfl | hp
  · exact ⟨s1, fun b hb => ⟨s1.lt hb, fun ho => by have := s4 b hb; have := q1.lt ho; omega⟩, fun w1 w2 p1 hk => p1.keep hk⟩
  · exact (q6 p hp).below s5
end
theorem bel_drew {w w' : World} {m : Nat} (h : w' = w.drewN m) : Below w.heap.size w w' := by rw [h]; exact below_drewN _ _ _
theorem room_len {al z : Int} : ∀ (n : Nat) (T K : List En), (roomE al z n T K).2.2.length ≤ n
  | 0, T, K => Nat.le_refl _
  | n + 1, T, K => by
    unfold roomE
    split
    · split
      · simp only [List.length_cons]; exact Nat.succ_le_succ (room_len n _ _)
      · split
        · simp only [List.length_cons]; exact Nat.succ_le_succ (room_len n _ _)
        · simp
    · simp
theorem shr_len {ke : Int} : ∀ (n : Nat) (T K : List En), (shrE ke n T K).2.2.length ≤ n
  | 0, T, K => Nat.le_refl _
  | n + 1, T, K => by
    unfold shrE
    split
    · split
      · simp only [List.length_cons]; exact Nat.succ_le_succ (shr_len n _ _)
      · simp
    · simp
theorem del_len (k : ByteArray) (l : List En) : (delE k l).length ≤ l.length := List.length_filter_le _ _
theorem put_len {al : Int} {k : ByteArray} {z : Int} {T K : List En} : (putE al k z T K).2.2.length ≤ T.length + K.length := by
  have h1 := room_len (al := al) (z := z) ((delE k T).length + (delE k K).length) (delE k T) (delE k K)
  have h2 := del_len k T
  have h3 := del_len k K
  unfold putE
  simp only
  omega
theorem touch_len {ke : Int} {k : ByteArray} {z : Int} {T K : List En} : (touchE ke k z T K).2.2.length ≤ K.length + 1 := by
  have h1 := shr_len (ke := ke) ((delE k K).length + 1) (delE k T) ((k, z) :: delE k K)
  have h3 := del_len k K
  unfold touchE
  split
  · omega
  · simp
end Go.Proofs.YtjngangojgjceaaGreat.SL
