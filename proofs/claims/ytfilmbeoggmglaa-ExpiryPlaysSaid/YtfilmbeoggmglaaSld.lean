/- Two told lists of texts put together beside a store of slru; what Drop and Put make of plain lists. Conditions: how long. -/
import Derived.Test.YtfilmbeoggmglaaSlj
namespace Go.Proofs.Ytfilmbeoggmglaa.SL
open Go.ChangeShapes Go.WideShapes Go.ChangeAt Go.RowKit Go.Maps Go.ChangeMaps
set_option maxRecDepth 100000
set_option linter.unusedVariables false
set_option linter.unusedSimpArgs false

theorem run_app_nothing {P : Program} {w : World} (base : Nat) (t ty e : TypeId) (i : TypeInfo) (size : Nat) (ht : P.underlying t = some (.slice e)) (hi : P.info? e = some i)
    (v : Value) (n : Nat) (xs : List Value) (hown : w.ownsRow base e size v n xs) (p : Option Addr) (c : Nat) : (Builtin.append_ #[t, t] ty #[v, .slice p 0 c]).run P w = .ok v w := by
  have hf : (Builtin.firstCells i.size 0 (.slice p 0 c)).run P w = .ok #[] w := by
    cases p with
    | none => exact run_firstCells_none w i.size 0 0 c
    | some ad => exact run_firstCells_some w i.size 0 ad 0 c [] (by simp) (fun j v hj => by simp at hj)
  rcases hown.2 with ⟨rfl, rfl⟩ | ⟨g, cap, cur, rfl, _, _, hnc, _⟩
  · simp [Builtin.append_, run_underlying ht, sizeOf, typeInfo, hi, Builtin.lenOf, hf]
  · simp [Builtin.append_, run_underlying ht, sizeOf, typeInfo, hi, Builtin.lenOf, hf, hnc, storeCells]
section
variable {w0 w : World} {g n : Nat} {al ke mo : Int} {T K : List En} {O : List Kp}
theorem LS.grown (h : LS w0 w g n al ke mo T K O) {v : Value} {d : List ByteArray} (hp : Kp.txt v d ∈ O) {w' : World} (hgr : w.grownBy w' v.ownBlock) {v' : Value} {d' : List ByteArray} (hv : OT w0.heap.size w' v' d')
    (hq : ∀ q, v'.ownBlock = some q → v.ownBlock = some q ∨ w.heap.size ≤ q) : LS w0 w' g n al ke mo T K [.txt v' d'] := by
  obtain ⟨x, h1, h2, h3, h4, h5, h6⟩ := h
  obtain ⟨h7, h8⟩ := h6 _ hp
  have hc : Chg (fun b => v.ownBlock = some b) w w' := (Chg.refl _ w).grown hgr fun k hk _ => hk
  refine ⟨x, h1.chg hc fun b ho hs => h8 b hs ho, h2, h3, h4, below_chg h5 hc fun b hb => (World.ownsRow.lt h7 b hb).1, fun p hp => ?_⟩
  rw [List.mem_singleton.1 hp]
  refine ⟨hv, fun q hqq ho => ?_⟩
  rcases hq q hqq with e | e
  · exact h8 q e ho
  · have := h1.lt ho; omega
/-- a told list put behind a told list -/
theorem wpList_app_ls {ops : Array Oper} {rest : List Oper} {o : Oper} {a : Act} {Q : Exit → Act → World → Prop} (h : LS w0 w g n al ke mo T K O) {v : Value} {d : List ByteArray} (hp : Kp.txt v d ∈ O) {v2 : Value} {e : List ByteArray} (h2 : TS w v2 e)
    (hd : d.length + e.length ≤ 1099511627776) (hgd : o.guard = none) (s x : Operand)
    (ho : o.op = .call { callee := .builtin .append, args := #[s, x], argTypes := #[33, 33] }) (hs : a.eval s = v) (hx : a.eval x = v2)
    (hk : ∀ va c w', LS w0 w' g n al ke mo T K [.txt (.slice va (d ++ e).length c) (d ++ e)] → wpList Try.prog ops Q rest (a.put o.dst (.slice va (d ++ e).length c)) w') : wpList Try.prog ops Q (o :: rest) a w := by
  obtain ⟨i, hi, hz, hsz, hby⟩ := iStr
  have hown : OT w0.heap.size w v d := h.told hp
  rcases h2 with ⟨A, cap, rfl, rfl⟩ | ⟨b, off, cap, rfl, hcap, hx2⟩
  · obtain ⟨va, vc, rfl⟩ := hown.form
    refine wpList_plain hgd fun K' hK => ?_
    have hrun := run_app_nothing (P := Try.prog) (w := w) w0.heap.size 33 o.type 9 i 1 Try.underlying33 hi _ _ _ hown A cap
    unfold Oper.wp
    simp [execOp, ho, resolve, invoke, builtin, hs, hx, hrun, Result.andThen]
    refine hK _ _ ?_
    have := hk va vc w (by rw [List.append_nil]; exact h.forget fun p hp' => by rw [List.mem_singleton.1 hp']; exact hp)
    rw [List.append_nil] at this
    exact this
  · by_cases h0 : e.length = 0
    · have e0 : e = [] := List.eq_nil_of_length_eq_zero h0
      subst e0
      obtain ⟨va, vc, rfl⟩ := hown.form
      refine wpList_plain hgd fun K' hK => ?_
      have hrun := run_app_nothing (P := Try.prog) (w := w) w0.heap.size 33 o.type 9 i 1 Try.underlying33 hi _ _ _ hown (some ⟨b, off, none⟩) cap
      unfold Oper.wp
      simp [execOp, ho, resolve, invoke, builtin, hs, hx, hrun, Result.andThen]
      refine hK _ _ ?_
      have := hk va vc w (by rw [List.append_nil]; exact h.forget fun p hp' => by rw [List.mem_singleton.1 hp']; exact hp)
      rw [List.append_nil] at this
      exact this
    · refine wpList_append_lies _ hgd s x 33 ho w0.heap.size 9 i (.string ByteArray.empty) 1 16 Try.underlying33 hi hz hsz hby rfl (by decide) v d.length (d.map bV) hs hown ⟨b, off, none⟩ e.length cap (e.map bV) hx (by simp) ?_ (by intro u hu; obtain ⟨y, _, rfl⟩ := List.mem_map.1 hu; rfl) (by omega) (by unfold maxLen; omega) (by omega) h.bel.size _ rfl ?_
      · intro j u hu
        rw [List.getElem?_map] at hu
        cases hj : e[j]? with
        | none => rw [hj] at hu; cases hu
        | some y =>
          rw [hj] at hu
          injection hu with hu
          subst hu
          rw [Addr.add_lit]
          exact hx2 j y hj
      · intro g' cap' w' o1 o2 o3 o4
        have e1 : d.length + e.length = (d ++ e).length := by rw [List.length_append]
        rw [e1] at o1 ⊢
        refine hk _ _ _ (h.grown hp o2 (v' := .slice (some ⟨g', 0, none⟩) (d ++ e).length cap') (d' := d ++ e) (by unfold OT; rw [List.map_append]; exact o1) fun q hq => ?_)
        have : q = g' := by simpa [Value.ownBlock] using hq.symm
        subst this
        rcases o3 with o3 | o3
        · exact .inl o3
        · exact .inr (by omega)
theorem wpList_app_to {ops : Array Oper} {rest : List Oper} {o : Oper} {a : Act} {Q : Exit → Act → World → Prop} (h : LS w0 w g n al ke mo T K O) {v : Value} {d : List ByteArray} (hp : Kp.txt v d ∈ O) {v2 : Value} {e : List ByteArray} (h2 : TS w v2 e) (L : List ByteArray) (hL : d ++ e = L)
    (hd : d.length + e.length ≤ 1099511627776) (hgd : o.guard = none) (s x : Operand)
    (ho : o.op = .call { callee := .builtin .append, args := #[s, x], argTypes := #[33, 33] }) (hs : a.eval s = v) (hx : a.eval x = v2)
    (hk : ∀ va c w', LS w0 w' g n al ke mo T K [.txt (.slice va L.length c) L] → wpList Try.prog ops Q rest (a.put o.dst (.slice va L.length c)) w') : wpList Try.prog ops Q (o :: rest) a w := by
  subst hL; exact wpList_app_ls h hp h2 hd hgd s x ho hs hx hk
theorem LS.nodup (h : LS w0 w g n al ke mo T K O) : (keysE T).Nodup ∧ (keysE K).Nodup := by
  obtain ⟨x, h1, rfl, rfl, _⟩ := h
  have key : ∀ L : List Nat, L.Nodup → (∀ b ∈ L, b ∈ x.T ∨ b ∈ x.K) → (keysE (en x.F L)).Nodup := by
    intro L hn hm
    have e : keysE (en x.F L) = L.map fun b => (x.F b).k := by unfold keysE en; rw [List.map_map]; rfl
    rw [e]
    exact List.pairwise_map.2 (List.Pairwise.imp_of_mem (fun ha hb hne he => hne (h1.gg.uq _ _ (hm _ ha) (hm _ hb) he)) hn)
  exact ⟨key x.T (List.nodup_cons.1 h1.gg.n0).2 (fun b hb => .inl hb), key x.K (List.nodup_cons.1 h1.gg.n1).2 fun b hb => .inr hb⟩
end
theorem mem_keys {k : ByteArray} {l : List En} (h : k ∉ keysE l) : ∀ y ∈ l, y.1 ≠ k := fun y hy e => h (e ▸ List.mem_map_of_mem hy)
theorem del_head {k : ByteArray} {z : Int} {T : List En} (h : (keysE ((k, z) :: T)).Nodup) : delE k ((k, z) :: T) = T := by
  have e : delE k ((k, z) :: T) = delE k T := by unfold delE; rw [List.filter_cons, if_neg (by simp)]
  rw [e]
  exact del_no (mem_keys (List.nodup_cons.1 h).1)
/-- a drop of the first key of both -/
theorem drop_step {T K : List En} {k : ByteArray} {R : List ByteArray} (hT : (keysE T).Nodup) (hK : (keysE K).Nodup) (hap : ∀ k, k ∈ keysE T → k ∉ keysE K) (h : keysE T ++ keysE K = k :: R) :
    keysE (delE k T) ++ keysE (delE k K) = R ∧ (hasS k T K).isSome = true := by
  cases T with
  | nil =>
    cases K with
    | nil => cases h
    | cons y K' =>
      obtain ⟨k0, z⟩ := y
      have h' : k0 :: keysE K' = k :: R := h
      injection h' with h1 h2
      subst h1
      refine ⟨?_, has_mk ⟨(k0, z), .inr (by simp), rfl⟩⟩
      rw [del_head hK, show delE k0 [] = [] from rfl]
      exact h2
  | cons y T' =>
    obtain ⟨k0, z⟩ := y
    have h' : k0 :: (keysE T' ++ keysE K) = k :: R := h
    injection h' with h1 h2
    subst h1
    refine ⟨?_, has_mk ⟨(k0, z), .inl (by simp), rfl⟩⟩
    rw [del_head hT, del_no (mem_keys (hap k0 (by simp [keysE])))]
    exact h2
theorem room_none {al z : Int} : ∀ (n : Nat) (T K : List En), (roomE al z n T K).2.2 = [] → roomE al z n T K = (T, K, [])
  | 0, T, K, _ => rfl
  | n + 1, T, K, h => by
    unfold roomE at h ⊢
    split
    · rename_i hc
      rw [if_pos hc] at h
      split
      · rename_i y hy
        rw [hy] at h
        cases h
      · rename_i hn
        rw [hn] at h
        split
        · rename_i y hy
          rw [hy] at h
          cases h
        · rfl
    · rfl
/-- a put with nothing gone: three bytes more -/
theorem put_sum {al z : Int} {k : ByteArray} {T K T2 K2 : List En} {G : List ByteArray} (hT : ∀ y ∈ T, y.1 ≠ k) (hK : ∀ y ∈ K, y.1 ≠ k) (h : putE al k z T K = ((k, z) :: T2, K2, G)) :
    (G = [] → sumE ((k, z) :: T2) + sumE K2 = sumE T + sumE K + z) ∧ (∀ y ∈ T2, y.1 ≠ k) ∧ (∀ y ∈ K2, y.1 ≠ k) := by
  unfold putE at h
  rw [del_no hT, del_no hK] at h
  injection h with h1 h2
  injection h1 with _ h1
  injection h2 with h2 h3
  have hs := room_sub (al := al) (z := z) (T.length + K.length) T K
  refine ⟨fun hG => ?_, fun y hy => hT y (hs.1 y (h1 ▸ hy)), fun y hy => hK y (hs.2 y (h2 ▸ hy))⟩
  rw [hG] at h3
  have h4 := room_none _ _ _ h3
  rw [h4] at h1 h2
  simp only at h1 h2
  rw [← h1, ← h2, sumE]
  simp only
  omega
theorem keys_emp {l : List En} (h : keysE l = []) : l = [] := List.map_eq_nil_iff.1 h
end Go.Proofs.Ytfilmbeoggmglaa.SL
