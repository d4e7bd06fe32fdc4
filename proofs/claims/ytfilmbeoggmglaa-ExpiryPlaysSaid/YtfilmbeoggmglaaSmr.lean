/- The document's store for slru: lists of entries, their sum, a key's place, their keys. Conditions: how many, how large. -/
import Derived.Test.YtfilmbeoggmglaaSld
namespace Go.Proofs.Ytfilmbeoggmglaa.SL
open Go.ChangeShapes Go.WideShapes Go.ChangeAt Go.RowKit Go.Maps Go.ChangeMaps
set_option maxRecDepth 100000
set_option linter.unusedVariables false
set_option linter.unusedSimpArgs false

/-- entries as cells -/
def eC : List En → List Value
  | [] => []
  | y :: l => .string y.1 :: .int .i64 y.2 :: eC l
theorem eC_len : ∀ l : List En, (eC l).length = l.length * 2
  | [] => rfl
  | y :: l => by rw [eC, List.length_cons, List.length_cons, eC_len l, List.length_cons]; omega
theorem eC_app : ∀ a b : List En, eC (a ++ b) = eC a ++ eC b
  | [], b => rfl
  | y :: a, b => by rw [List.cons_append, eC, eC_app a b]; rfl
theorem eC_at : ∀ (l : List En) (i : Nat) (y : En), l[i]? = some y → (eC l)[i * 2]? = some (.string y.1) ∧ (eC l)[i * 2 + 1]? = some (.int .i64 y.2)
  | [], i, y, h => by simp at h
  | x :: l, 0, y, h => by simp at h; subst h; exact ⟨rfl, rfl⟩
  | x :: l, i + 1, y, h => by
    have := eC_at l i y (by simpa using h)
    rw [show (i + 1) * 2 = i * 2 + 1 + 1 by omega]
    exact this
theorem eC_inv : ∀ (l : List En) (j : Nat) (u : Value), (eC l)[j]? = some u → ∃ i y, l[i]? = some y ∧ ((j = i * 2 ∧ u = .string y.1) ∨ (j = i * 2 + 1 ∧ u = .int .i64 y.2))
  | [], j, u, h => by simp [eC] at h
  | x :: l, 0, u, h => ⟨0, x, rfl, .inl ⟨rfl, by simpa [eC] using h.symm⟩⟩
  | x :: l, 1, u, h => ⟨0, x, rfl, .inr ⟨rfl, by simpa [eC] using h.symm⟩⟩
  | x :: l, j + 2, u, h => by
    obtain ⟨i, y, h1, h2⟩ := eC_inv l j u (by simpa [eC] using h)
    exact ⟨i + 1, y, by simpa using h1, by rcases h2 with ⟨h2, h3⟩ | ⟨h2, h3⟩; exact .inl ⟨by omega, h3⟩; exact .inr ⟨by omega, h3⟩⟩
theorem eC_one {l : List En} : ∀ u ∈ eC l, u.oneCell' = true := by
  intro u hu
  obtain ⟨j, hj⟩ := List.getElem?_of_mem hu
  obtain ⟨i, y, _, h | h⟩ := eC_inv l j u hj
  · rw [h.2]; rfl
  · rw [h.2]; rfl
/-- v is a slice of entries that reads as l -/
def ER (w : World) (v : Value) (l : List En) : Prop :=
  (∃ A cap, v = .slice A 0 cap ∧ l = []) ∨
  ∃ b off cap, v = .slice (some ⟨b, off, none⟩) l.length cap ∧ l.length ≤ cap ∧ ∀ (i : Nat) (y : En), l[i]? = some y → w.cell? ⟨b, off + i * 2, none⟩ = some (.string y.1) ∧ w.cell? ⟨b, off + i * 2 + 1, none⟩ = some (.int .i64 y.2)
theorem ER.below {w w' : World} {v : Value} {l : List En} (h : ER w v l) (hb : Below w.heap.size w w') : ER w' v l := by
  have hk : ∀ (p : Addr) (u : Value), w.cell? p = some u → w'.cell? p = some u := fun p u hp => (hb.cell (World.block_lt_of_cell? w p hp)).trans hp
  rcases h with h | ⟨b, off, cap, e, hc, hx⟩
  · exact .inl h
  · exact .inr ⟨b, off, cap, e, hc, fun i y hi => ⟨hk _ _ (hx i y hi).1, hk _ _ (hx i y hi).2⟩⟩
theorem ER.form {w : World} {v : Value} {l : List En} (h : ER w v l) : ∃ a cap, v = .slice a l.length cap := by
  rcases h with ⟨A, cap, rfl, rfl⟩ | ⟨b, off, cap, rfl, _⟩
  · exact ⟨_, _, rfl⟩
  · exact ⟨_, _, rfl⟩
theorem ER.inv {w : World} {v : Value} {l : List En} (h : ER w v l) (hp : 0 < l.length) : ∃ b off cap, v = .slice (some ⟨b, off, none⟩) l.length cap ∧ l.length ≤ cap ∧ ∀ (i : Nat) (y : En), l[i]? = some y → w.cell? ⟨b, off + i * 2, none⟩ = some (.string y.1) ∧ w.cell? ⟨b, off + i * 2 + 1, none⟩ = some (.int .i64 y.2) := by
  rcases h with ⟨A, cap, rfl, rfl⟩ | h
  · simp at hp
  · exact h
/-- the call owns the entries -/
def EO (B : Nat) (w : World) (v : Value) (l : List En) : Prop := w.ownsRow B 88 2 v l.length (eC l)
theorem EO.er {B : Nat} {w : World} {v : Value} {l : List En} (h : EO B w v l) : ER w v l := by
  rcases h.2 with ⟨rfl, hz⟩ | ⟨g, cap, cur, rfl, hb, hh, hc, hm, hs, ht⟩
  · exact .inl ⟨none, 0, rfl, List.eq_nil_of_length_eq_zero hz⟩
  · refine .inr ⟨g, 0, cap, rfl, hc, fun i y hi => ?_⟩
    obtain ⟨e1, e2⟩ := eC_at l i y hi
    have h1 := World.ownsRow.cells h (g := g) rfl _ _ e1
    have h2 := World.ownsRow.cells h (g := g) rfl _ _ e2
    rw [Addr.add_lit] at h1 h2
    exact ⟨h1, by rw [Nat.add_assoc]; exact h2⟩
theorem EO.nil (B : Nat) (w : World) : EO B w (.slice none 0 0) [] := World.ownsRow_nil _ _ _ _
theorem EO.below {B : Nat} {w w' : World} {v : Value} {l : List En} (h : EO B w v l) (hb : Below w.heap.size w w') : EO B w' v l := by
  refine ⟨h.1, ?_⟩
  rcases h.2 with h2 | ⟨g, cap, cur, rfl, hbb, hg, hr⟩
  · exact .inl h2
  · exact .inr ⟨g, cap, cur, rfl, hbb, (hb.block g (World.ownsRow.lt h g rfl).2).trans hg, hr⟩
theorem iEnt : ∃ i, Try.prog.info? 88 = some i ∧ i.zero = some (.agg #[.string ByteArray.empty, .int .i64 0]) ∧ i.size = 2 ∧ i.bytes = 24 := by
  have h : (Try.prog.info? 88).bind (fun i => if i.size = 2 ∧ i.bytes = 24 then i.zero else none) = some (.agg #[.string ByteArray.empty, .int .i64 0]) := by kernel_rfl
  cases hi : Try.prog.info? 88 with
  | none => rw [hi] at h; cases h
  | some j =>
    rw [hi] at h
    by_cases hc : j.size = 2 ∧ j.bytes = 24
    · simp [hc] at h
      exact ⟨j, rfl, h, hc.1, hc.2⟩
    · simp [hc] at h
/-- a list of entries put behind a list that the call owns -/
theorem wpList_app_ens {w : World} {ops : Array Oper} {rest : List Oper} {o : Oper} {a : Act} {Q : Exit → Act → World → Prop} (B : Nat) (v : Value) (d : List En) (v2 : Value) (e : List En) (L : List En) (hL : d ++ e = L) (hgd : o.guard = none) (s x : Operand)
    (ho : o.op = .call { callee := .builtin .append, args := #[s, x], argTypes := #[45, 45] }) (hs : a.eval s = v) (hown : EO B w v d) (hx : a.eval x = v2) (h2 : ER w v2 e)
    (hd : d.length + e.length ≤ 1099511627776) (hB : B ≤ w.heap.size)
    (hk : ∀ va c w', EO B w' (.slice va L.length c) L → Below B w w' → wpList Try.prog ops Q rest (a.put o.dst (.slice va L.length c)) w') : wpList Try.prog ops Q (o :: rest) a w := by
  subst hL
  obtain ⟨i, hi, hz, hsz, hby⟩ := iEnt
  have none_ : ∀ p c, v2 = .slice p 0 c → e = [] → wpList Try.prog ops Q (o :: rest) a w := by
    rintro p c rfl rfl
    have hown0 := hown
    obtain ⟨va, vc, rfl⟩ := hown.er.form
    refine wpList_plain hgd fun K' hK => ?_
    have hrun := run_app_nothing (P := Try.prog) (w := w) B 45 o.type 88 i 2 Try.underlying45 hi _ _ _ hown p c
    unfold Oper.wp
    simp [execOp, ho, resolve, invoke, builtin, hs, hx, hrun, Result.andThen]
    refine hK _ _ ?_
    have := hk va vc w (by rw [List.append_nil]; exact hown0) (Below.refl _ _)
    rw [List.append_nil] at this
    exact this
  rcases h2 with ⟨A, cap, e1, e2⟩ | ⟨b, off, cap, e1, hcap, hx2⟩
  · exact none_ A cap e1 e2
  · by_cases h0 : e.length = 0
    · exact none_ _ cap (by rw [e1, h0]) (List.eq_nil_of_length_eq_zero h0)
    · subst e1
      refine wpList_append_lies _ hgd s x 45 ho B 88 i (.agg #[.string ByteArray.empty, .int .i64 0]) 2 24 Try.underlying45 hi hz hsz hby rfl (by decide) v d.length (eC d) hs hown ⟨b, off, none⟩ e.length cap (eC e) hx (eC_len e) ?_ eC_one (by omega) (by unfold maxLen; omega) (by omega) hB _ rfl ?_
      · intro j u hu
        obtain ⟨q, y, hq, h | h⟩ := eC_inv e j u hu
        · rw [Addr.add_lit, h.1, h.2]; exact (hx2 q y hq).1
        · rw [Addr.add_lit, h.1, h.2, ← Nat.add_assoc]; exact (hx2 q y hq).2
      · intro g' cap' w' o1 o2 o3 o4
        have e1 : d.length + e.length = (d ++ e).length := by rw [List.length_append]
        rw [e1] at o1 ⊢
        exact hk _ _ _ (by unfold EO; rw [eC_app]; exact o1) ((Below.refl B w).grown o2 hB fun q hq => (World.ownsRow.lt hown q hq).1)
theorem one_er {w : World} {b : Nat} {y : En} (h : Bk w b 88 #[.string y.1, .int .i64 y.2]) : ER w (.slice (some ⟨b, 0, none⟩) 1 1) [y] :=
  .inr ⟨b, 0, 1, rfl, Nat.le_refl _, fun i x hi => by
    cases i with
    | zero => simp at hi; subst hi; exact ⟨h.cell 0, h.cell 1⟩
    | succ i => simp at hi⟩
set_option maxHeartbeats 2000000 in
theorem rsum_any (v : Value) (l : List En) (w : World) (h : ER w v l) (hp : ∀ y ∈ l, 1 ≤ y.2) (hs : sumE l ≤ 4611686018427387904) :
    Calls Try.prog 24 #[v] w fun e w' => e = .returned (.int .i64 (sumE l)) ∧ ∃ n, w' = w.drewN n := by
  obtain ⟨va, vc, rfl⟩ := h.form
  have HE := Lib.hid h
  have HP := Lib.hid hp
  have HSU := Lib.hid hs
  have hlen := sum_pos hp
  have HLEN : Hid (l.length ≤ 4611686018427387904) := Lib.hid (by omega)
  clear h hp hs hlen
  go_enter Try.func24, Try.ntmps24
  go_wp2
  go_loopg [3, 4] l.length (fun g u3 u4 wx => ∃ i : Nat, u4 = .int .i64 (i : Int) ∧ u3 = .int .i64 (sumE (l.take i)) ∧ i + g = l.length ∧ ∃ n, wx = w.drewN n)
  case atStart => exact ⟨0, rfl, rfl, by omega, 0, rfl⟩
  case round =>
    obtain ⟨i, rfl, rfl, hi, n0, rfl⟩ := hrel
    cases gk with
    | zero =>
      have hil : i = l.length := by omega
      have l1 : ¬ ((i : Int) < (l.length : Int)) := by omega
      rw [hil, List.take_length]
      have l1' : ¬ ((l.length : Int) < (l.length : Int)) := by omega
      clear hi hil
      go_wp2
      go_ret
      exact ⟨rfl, _, rfl⟩
    | succ g =>
      have hlt : i < l.length := by omega
      obtain ⟨b, off, cap, he, hc, hx⟩ := HE.out.inv (by omega)
      injection he with e1 _ e3
      subst e1 e3
      obtain ⟨y, hy⟩ : ∃ y, l[i] = y := ⟨_, rfl⟩
      have hyi : l[i]? = some y := by rw [List.getElem?_eq_getElem hlt, hy]
      obtain ⟨x0, x1⟩ := hx i y hyi
      have l0 : (0 : Int) ≤ (i : Int) := by omega
      have l1 : (i : Int) < (l.length : Int) := by omega
      obtain ⟨i1, hi1⟩ : ∃ i1, i + 1 = i1 := ⟨_, rfl⟩
      have wk : IntKind.i64.wrap ((i : Int) + 1) = (i1 : Int) := by rw [show (i : Int) + 1 = (i1 : Int) by omega]; exact IntWalk.i64_in _ (by have := HLEN.out; omega)
      obtain ⟨S, hS⟩ : ∃ S, sumE (l.take i) = S := ⟨_, rfl⟩
      have hs1 : sumE (l.take i1) = S + y.2 := by
        rw [← hi1, List.take_add_one, hyi, Option.toList, sum_app, hS, sumE, sumE]; omega
      have hsp := sum_app (l.take i1) (l.drop i1)
      rw [List.take_append_drop] at hsp
      have hd0 := sum_nonneg (l := l.drop i1) fun z hz => HP.out z (List.mem_of_mem_drop hz)
      have ht0 := sum_nonneg (l := l.take i1) fun z hz => HP.out z (List.mem_of_mem_take hz)
      have wz : IntKind.i64.wrap (S + y.2) = S + y.2 := IntWalk.i64_in _ (by have := HSU.out; omega)
      rw [hS]
      have HS1 := Lib.hid hs1
      have HI1 : Hid (i1 + g = l.length) := Lib.hid (by omega)
      clear hi hx hc hy hyi hi1 hS hs1 hsp hd0 ht0 hlt
      go_wp2
      go_roundg g
      case measure => exact Nat.lt_succ_self _
      case rel => exact ⟨i1, rfl, by rw [HS1.out], HI1.out, _, rfl⟩
end Go.Proofs.Ytfilmbeoggmglaa.SL
