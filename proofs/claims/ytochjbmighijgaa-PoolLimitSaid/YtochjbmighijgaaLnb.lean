/- Rows of pairs in memory: a slice of pairs that may share its row with another one; what an append makes. Conditions: how many. -/
import Derived.Test.YtochjbmighijgaaLna
import Derived.ArgAppend
namespace Go.Proofs.Ytochjbmighijgaa.LN
open Go.ChangeShapes Go.WideShapes Go.ChangeAt Go.RowKit
open Go.Proofs.Ytochjbmighijgaa.SL Go.Proofs.Ytochjbmighijgaa.RW
set_option maxRecDepth 100000
set_option linter.unusedVariables false
set_option linter.unusedSimpArgs false

/-- the type's elements are pairs of numbers -/
structure PT (S T : TypeId) : Prop where
  und : Try.prog.underlying S = some (.slice T)
  inf : ∃ i, Try.prog.info? T = some i ∧ i.zero = some (.agg #[nV 0, nV 0]) ∧ i.size = 2 ∧ i.bytes = 16
/-- v is a slice that reads as l, in a row of memory made here; the room behind it is there -/
def WS (T : TypeId) (B : Nat) (w : World) (v : Value) (l : List Wt) : Prop :=
  (v = .slice none 0 0 ∧ l = []) ∨ ∃ g off cap cur, v = .slice (some ⟨g, off, none⟩) l.length cap ∧ B ≤ g ∧ w.heap[g]? = some (.cells cur T (0, 0)) ∧ l.length ≤ cap ∧ cap ≤ maxLen ∧ off + cap * 2 ≤ cur.size ∧
    ∀ j u, (pC l)[j]? = some u → cur[off + j]? = some u
section
variable {T : TypeId} {B : Nat} {w w' : World} {v : Value} {l : List Wt}
theorem WS.nil (T : TypeId) (B : Nat) (w : World) : WS T B w (.slice none 0 0) [] := .inl ⟨rfl, rfl⟩
theorem WS.form (h : WS T B w v l) : ∃ a cap, v = .slice a l.length cap := by
  rcases h with ⟨rfl, rfl⟩ | ⟨g, off, cap, cur, rfl, _⟩
  · exact ⟨_, _, rfl⟩
  · exact ⟨_, _, rfl⟩
theorem WS.caple (h : WS T B w v l) : ∃ a cap, v = .slice a l.length cap ∧ l.length ≤ cap := by
  rcases h with ⟨rfl, rfl⟩ | ⟨g, off, cap, cur, rfl, _, _, hc, _⟩
  · exact ⟨_, _, rfl, Nat.le_refl _⟩
  · exact ⟨_, _, rfl, hc⟩
theorem WS.lt (h : WS T B w v l) (g : Nat) (hg : v.ownBlock = some g) : B ≤ g ∧ g < w.heap.size := by
  rcases h with ⟨rfl, rfl⟩ | ⟨q, off, cap, cur, rfl, hb, hh, _⟩
  · cases hg
  · injection hg with hg
    subst hg
    exact ⟨hb, (Array.getElem?_eq_some_iff.1 hh).1⟩
theorem WS.ty (h : WS T B w v l) (g : Nat) (hg : v.ownBlock = some g) : ∃ cur, w.heap[g]? = some (.cells cur T (0, 0)) := by
  rcases h with ⟨rfl, rfl⟩ | ⟨q, off, cap, cur, rfl, hb, hh, _⟩
  · cases hg
  · injection hg with hg
    subst hg
    exact ⟨cur, hh⟩
theorem WS.keep (h : WS T B w v l) (hk : ∀ g, v.ownBlock = some g → w'.heap[g]? = w.heap[g]?) : WS T B w' v l := by
  rcases h with h | ⟨g, off, cap, cur, rfl, hb, hh, hr⟩
  · exact .inl h
  · exact .inr ⟨g, off, cap, cur, rfl, hb, (hk g rfl).trans hh, hr⟩
theorem WS.below (h : WS T B w v l) (hb : Below w.heap.size w w') : WS T B w' v l := h.keep fun g hg => hb.block g (h.lt g hg).2
theorem WS.mono (h : WS T B w v l) {B' : Nat} (hB : B' ≤ B) : WS T B' w v l := by
  rcases h with h | ⟨g, off, cap, cur, rfl, hb, hr⟩
  · exact .inl h
  · exact .inr ⟨g, off, cap, cur, rfl, Nat.le_trans hB hb, hr⟩
theorem WS.inv (h : WS T B w v l) (hp : 0 < l.length) : ∃ g off cap, v = .slice (some ⟨g, off, none⟩) l.length cap ∧ l.length ≤ cap ∧ ∀ (i : Nat) (p : Wt), l[i]? = some p → w.cell? ⟨g, off + i * 2, none⟩ = some (nV p.1) ∧ w.cell? ⟨g, off + i * 2 + 1, none⟩ = some (nV p.2) := by
  rcases h with ⟨rfl, rfl⟩ | ⟨g, off, cap, cur, rfl, hb, hh, hc, hm, hs, hx⟩
  · simp at hp
  · refine ⟨g, off, cap, rfl, hc, fun i p hi => ?_⟩
    obtain ⟨h1, h2⟩ := pC_at l i p hi
    refine ⟨(cell_of_row w g _ cur _ _ hh).trans (hx _ _ h1), ?_⟩
    rw [Nat.add_assoc]
    exact (cell_of_row w g _ cur _ _ hh).trans (hx _ _ h2)
/-- a part of it, cut at both ends; the room behind may go, too -/
theorem WS.cut (h : WS T B w v l) {g off cap : Nat} (hv : v = .slice (some ⟨g, off, none⟩) l.length cap) (i k c : Nat) (hik : i ≤ k) (hk : k ≤ l.length) (hc : k ≤ c) (hcc : c ≤ cap) : WS T B w (.slice (some ⟨g, off + i * 2, none⟩) (k - i) (c - i)) ((l.take k).drop i) := by
  rcases h with ⟨rfl, rfl⟩ | ⟨g', off', cap', cur, e, hb, hh, hc', hm, hs, hx⟩
  · cases hv
  · rw [e] at hv
    injection hv with e1 e2 e3
    injection e1 with e1
    injection e1 with e1 e4
    subst e1 e3 e4
    have hl : ((l.take k).drop i).length = k - i := by rw [List.length_drop, List.length_take]; omega
    refine .inr ⟨g', off' + i * 2, c - i, cur, by rw [hl], hb, hh, by rw [hl]; omega, by omega, by omega, fun j u hj => ?_⟩
    rw [pC_drop, pC_take, List.getElem?_drop, List.getElem?_take] at hj
    split at hj
    · have := hx _ u hj
      rw [← this]
      congr 1
      omega
    · cases hj
end
/-- what an append to v, of n pairs, makes: a pair behind these, or a new row -/
structure App (T : TypeId) (w w' : World) (v : Value) : Prop where
  os : w'.os = w.os
  tape : w'.tape = w.tape
  output : w'.output = w.output
  size : w.heap.size ≤ w'.heap.size
  block : ∀ k, k < w.heap.size → v.ownBlock ≠ some k → w'.heap[k]? = w.heap[k]?
  full : ∀ a n cap, v = .slice a n cap → cap ≤ n → Below w.heap.size w w'
  row : ∀ g off n cap cur, v = .slice (some ⟨g, off, none⟩) n cap → w.heap[g]? = some (.cells cur T (0, 0)) → ∃ cur', w'.heap[g]? = some (.cells cur' T (0, 0)) ∧ cur'.size = cur.size ∧ ∀ i, i < off + n * 2 → cur'[i]? = cur[i]?
section
variable {T : TypeId} {B : Nat} {w w' : World} {v : Value} {l : List Wt}
variable {g off n n' : Nat}
theorem App.below (h : App T w w' v) {B : Nat} (hB : B ≤ w.heap.size) (hv : ∀ g, v.ownBlock = some g → B ≤ g) : Below B w w' :=
  ⟨h.os, h.tape, h.output, h.size, fun k hk => h.block k (Nat.lt_of_lt_of_le hk hB) fun e => by have := hv k e; omega⟩
/-- a slice of the same row, not beyond what v had, stays -/
theorem WS.app (h : WS T B w (.slice (some ⟨g, off, none⟩) n n') l) {cap : Nat} (ha : App T w w' (.slice (some ⟨g, off, none⟩) n cap)) (hn : l.length = n) : WS T B w' (.slice (some ⟨g, off, none⟩) n n') l := by
  rcases h with ⟨e, _⟩ | ⟨g', off', cap', cur, e, hb, hh, hc, hm, hs, hx⟩
  · cases e
  · injection e with e1 e2 e3
    injection e1 with e1
    injection e1 with e1 e4
    subst e1 e3 e4
    obtain ⟨cur', h1, h2, h3⟩ := ha.row g off n cap cur rfl hh
    refine .inr ⟨g, off, n', cur', by rw [hn], hb, h1, hc, hm, by rw [h2]; exact hs, fun j u hj => ?_⟩
    have hj2 := (List.getElem?_eq_some_iff.1 hj).1
    rw [pC_len, hn] at hj2
    rw [h3 _ (by omega)]
    exact hx j u hj
end
theorem sl_oneP {T : TypeId} {W : World} {b : Nat} {p : Wt} (h : Bk W b T (pA p)) : ∀ (i : Nat) (v : Value), (pR p)[i]? = some v → W.cell? ((⟨b, 0, none⟩ : Addr).add i) = some v := by
  intro i v hi
  rw [Addr.add_lit, Nat.zero_add, h.cell i]
  match i with
  | 0 => exact hi
  | 1 => exact hi
  | n + 2 => simp [pR] at hi
/-- where an append's outcome lies -/
def Lies (N : Nat) (v v' : Value) : Prop := ∀ g, v'.ownBlock = some g → N ≤ g ∨ (v.ownBlock = some g ∧ ∃ a n c, v = .slice a n c ∧ n < c)
/-- one pair more -/
theorem run_app_pair {S T ty : TypeId} (hp : PT S T) {B : Nat} {w : World} {v : Value} {l : List Wt} (h : WS T B w v l) (p : Wt) (b : Nat) (hb : Bk w b T (pA p)) (hl : l.length ≤ 1099511627776) (hB : B ≤ w.heap.size) :
    ∃ v' w', (Builtin.append_ #[S, S] ty #[v, .slice (some ⟨b, 0, none⟩) 1 1]).run Try.prog w = .ok v' w' ∧ WS T B w' v' (l ++ [p]) ∧ App T w w' v ∧ Lies w.heap.size v v' := by
  obtain ⟨i, hi, hz, hsz, hby⟩ := hp.inf
  have hlen : (l ++ [p]).length = l.length + 1 := by simp
  have hnew : ∀ (v' : Value) (w' : World), w'.ownsRow w.heap.size T 2 v' (l.length + 1) (pC l ++ pR p) → WS T B w' v' (l ++ [p]) := by
    intro v' w' ho
    rcases ho.2 with ⟨_, hz⟩ | ⟨g, cap, cur, rfl, hbb, hg, hc, hm, hs, ht⟩
    · omega
    · refine .inr ⟨g, 0, cap, cur, by rw [hlen], by omega, hg, by rw [hlen]; exact hc, hm, by rw [hs]; omega, fun j u hj => ?_⟩
      rw [pC_app, pC_single] at hj
      have := World.ownsRow.cells ho (g := g) rfl j u hj
      rw [Addr.add_lit, Nat.zero_add, cell_of_row w' g j cur _ _ hg] at this
      rw [Nat.zero_add]; exact this
  have hgr : ∀ w', w.grownBy w' none → App T w w' v := fun w' hg => by
    refine ⟨hg.os, hg.tape, hg.output, hg.size, fun k hk _ => hg.block k hk (by simp), fun _ _ _ _ _ => ⟨hg.os, hg.tape, hg.output, hg.size, fun k hk => hg.block k hk (by simp)⟩, fun g off n cap cur e hh => ⟨cur, (hg.block g (Array.getElem?_eq_some_iff.1 hh).1 (by simp)).trans hh, rfl, fun _ _ => rfl⟩⟩
  have hmax : l.length + 1 ≤ maxLen := by unfold maxLen; omega
  rcases h with ⟨rfl, rfl⟩ | ⟨g, off, cap, cur, rfl, hbg, hh, hc, hm, hs, hx⟩
  · obtain ⟨v', w', hrun, h1, h2, _⟩ := run_append_own (P := Try.prog) w w.heap.size S ty T i (.agg #[nV 0, nV 0]) 2 16 hp.und hi hz hsz hby rfl (by decide) (.slice none 0 0) 0 [] (World.ownsRow_nil w _ T 2) ⟨b, 0, none⟩ 1 1 (pR p) rfl (sl_oneP hb) (by intro u hu; simp [pR] at hu; rcases hu with rfl | rfl <;> rfl) (by unfold maxLen; omega) (by omega) (Nat.le_refl _)
    exact ⟨v', w', hrun, hnew v' w' h1, hgr w' h2, fun q hq => .inl (World.ownsRow.lt h1 q hq).1⟩
  · by_cases hr : l.length + 1 ≤ cap
    · have hspare : ∀ j, j < (pR p).length → (w.cell? ⟨g, off + l.length * i.size + j, none⟩).isSome = true := fun j hj => by
        rw [cell_of_row w g _ cur _ _ hh, hsz]
        have : (pR p).length = 2 := rfl
        rw [Array.getElem?_eq_getElem (by omega)]; rfl
      have hrun := run_append_room_cells (P := Try.prog) w S ty T i hp.und hi g off l.length cap ⟨b, 0, none⟩ 1 1 (pR p) (by rw [hsz]; rfl) (sl_oneP hb) (by intro u hu; simp [pR] at hu; rcases hu with rfl | rfl <;> rfl) hr hspare (fun j hj => Bk.frozen (show Bk w g T cur from hh) _)
      rw [hsz] at hrun
      have hset : Bk (w.setCells g (off + l.length * 2) (pR p)) g T ((cur.setIfInBounds (off + l.length * 2) (nV p.1)).setIfInBounds (off + l.length * 2 + 1) (nV p.2)) := ((show Bk w g T cur from hh).set_ (off + l.length * 2) (nV p.1)).set_ (off + l.length * 2 + 1) (nV p.2)
      have hother : ∀ k, k ≠ g → (w.setCells g (off + l.length * 2) (pR p)).heap[k]? = w.heap[k]? := fun k hk =>
        (Below.heap_setCell (w.setCell ⟨g, off + l.length * 2, none⟩ (nV p.1)) ⟨g, off + l.length * 2 + 1, none⟩ (nV p.2) k hk).trans (Below.heap_setCell w ⟨g, off + l.length * 2, none⟩ (nV p.1) k hk)
      refine ⟨_, _, hrun, .inr ⟨g, off, cap, _, by rw [hlen], hbg, hset, by rw [hlen]; exact hr, hm, by simpa using hs, fun j u hj => ?_⟩, ⟨rfl, rfl, rfl, ?_, fun k hk hne => hother k (fun e => hne (by rw [e]; rfl)), fun a n c e hc => ?_, ?_⟩, fun q hq => .inr ⟨hq, _, _, _, rfl, hr⟩⟩
      · rw [pC_app, pC_single] at hj
        have hcl := pC_len l
        by_cases hjl : j < l.length * 2
        · rw [List.getElem?_append_left (by omega)] at hj
          have := hx j u hj
          rw [Array.getElem?_setIfInBounds_ne (by omega), Array.getElem?_setIfInBounds_ne (by omega)]
          exact this
        · rw [List.getElem?_append_right (by omega), hcl] at hj
          have hlt := (List.getElem?_eq_some_iff.1 hj).1
          have hlt : j - l.length * 2 < 2 := hlt
          by_cases hj0 : j = l.length * 2
          · subst hj0
            rw [Nat.sub_self] at hj
            injection hj with hj
            subst hj
            rw [Array.getElem?_setIfInBounds_ne (by omega), Array.getElem?_setIfInBounds_self_of_lt (by omega)]
          · have hj1 : j = l.length * 2 + 1 := by omega
            subst hj1
            rw [show l.length * 2 + 1 - l.length * 2 = 1 by omega] at hj
            injection hj with hj
            subst hj
            rw [show off + (l.length * 2 + 1) = off + l.length * 2 + 1 by omega, Array.getElem?_setIfInBounds_self_of_lt (by simp; omega)]
      · show w.heap.size ≤ ((w.setCell ⟨g, off + l.length * 2, none⟩ (nV p.1)).setCell ⟨g, off + l.length * 2 + 1, none⟩ (nV p.2)).heap.size
        simp [World.setCell]
      · injection e with _ e2 e3
        omega
      · intro g' off' n cap' cur' e hh'
        injection e with e1 e2 e3
        injection e1 with e1
        injection e1 with e1 e4
        subst e1 e3 e4 e2
        rw [hh] at hh'
        injection hh' with hh'
        injection hh' with hh'
        subst hh'
        refine ⟨_, hset, by simp, fun k hk => ?_⟩
        rw [Array.getElem?_setIfInBounds_ne (by omega), Array.getElem?_setIfInBounds_ne (by omega)]
    · obtain ⟨v', w', hrun, h1, h2⟩ := run_append_arg_grows (P := Try.prog) w S ty T i (.agg #[nV 0, nV 0]) 2 16 hp.und hi hz hsz hby rfl (by decide) ⟨g, off, none⟩ l.length cap (pC l) (pC_len l) (fun j u hj => by rw [Addr.add_lit]; exact (cell_of_row w g _ cur _ _ hh).trans (hx j u hj)) ⟨b, 0, none⟩ 1 1 (pR p) rfl (sl_oneP hb) (by omega) hmax (by omega)
      exact ⟨v', w', hrun, hnew v' w' h1, hgr w' h2, fun q hq => .inl (World.ownsRow.lt h1 q hq).1⟩
theorem wpList_app_pair {S T : TypeId} (hp : PT S T) {w : World} {ops : Array Oper} {rest : List Oper} {o : Oper} {a : Act} {Q : Exit → Act → World → Prop} (B : Nat) (v : Value) (l : List Wt) (p : Wt) (b : Nat) (hgd : o.guard = none) (s x : Operand)
    (ho : o.op = .call { callee := .builtin .append, args := #[s, x], argTypes := #[S, S] }) (hs : a.eval s = v) (h : WS T B w v l) (hx : a.eval x = .slice (some ⟨b, 0, none⟩) 1 1) (hb : Bk w b T (pA p)) (hl : l.length ≤ 1099511627776) (hB : B ≤ w.heap.size)
    (hk : ∀ va c w', WS T B w' (.slice va (l.length + 1) c) (l ++ [p]) → App T w w' v → Lies w.heap.size v (.slice va (l.length + 1) c) → wpList Try.prog ops Q rest (a.put o.dst (.slice va (l.length + 1) c)) w') : wpList Try.prog ops Q (o :: rest) a w := by
  refine wpList_plain hgd fun K hK => ?_
  obtain ⟨v', w', hr, h1, h2, h3⟩ := run_app_pair (ty := o.type) hp h p b hb hl hB
  obtain ⟨va, c, rfl⟩ := h1.form
  rw [List.length_append] at hr h1 h3
  unfold Oper.wp
  simp [execOp, ho, resolve, invoke, builtin, hs, hx, hr, Result.andThen]
  exact hK _ _ (hk va c w' h1 h2 h3)
theorem step_app_pair {S T : TypeId} (hp : PT S T) {w : World} {ops : Array Oper} {o : Oper} {a : Act} {K : Act → World → Prop} {Q : Exit → Act → World → Prop} {E : Prop} (B : Nat) (v : Value) (l : List Wt) (p : Wt) (b : Nat) (hgd : o.guard = none) (s x : Operand)
    (ho : o.op = .call { callee := .builtin .append, args := #[s, x], argTypes := #[S, S] }) (hs : a.eval s = v) (h : WS T B w v l) (hx : a.eval x = .slice (some ⟨b, 0, none⟩) 1 1) (hb : Bk w b T (pA p)) (hl : l.length ≤ 1099511627776) (hB : B ≤ w.heap.size)
    (hk : ∀ va c w', WS T B w' (.slice va (l.length + 1) c) (l ++ [p]) → App T w w' v → Lies w.heap.size v (.slice va (l.length + 1) c) → K (a.put o.dst (.slice va (l.length + 1) c)) w') :
    if Region.wanted o (yielded ops a.tmps) = true then Oper.wp Try.prog o a w K Q else E := by
  have hw : Region.wanted o (yielded ops a.tmps) = true := by simp [Region.wanted, hgd]
  rw [if_pos hw]
  obtain ⟨v', w', hr, h1, h2, h3⟩ := run_app_pair (ty := o.type) hp h p b hb hl hB
  obtain ⟨va, c, rfl⟩ := h1.form
  rw [List.length_append] at hr h1 h3
  unfold Oper.wp
  simp [execOp, ho, resolve, invoke, builtin, hs, hx, hr, Result.andThen]
  exact hk va c w' h1 h2 h3
end Go.Proofs.Ytochjbmighijgaa.LN
