/- Lists of numbers in memory; Ints, are two the same. Conditions: how many. -/
import Derived.Test.YtochjbmighijgaaLnc
import Derived.Deep.RegionHeld3
import Derived.Deep.CutBlock
import Derived.Deep.QuietTactic
namespace Go.Proofs.Ytochjbmighijgaa.LN
open Go.ChangeShapes Go.WideShapes Go.ChangeAt Go.RowKit
open Go.Proofs.Ytochjbmighijgaa.SL Go.Proofs.Ytochjbmighijgaa.RW
set_option maxRecDepth 100000
set_option linter.unusedVariables false
set_option linter.unusedSimpArgs false

/-- the call owns the numbers -/
def OI (B : Nat) (w : World) (v : Value) (d : List Int) : Prop := w.ownsRow B 3 1 v d.length (d.map nV)
/-- v is a slice of numbers that reads as d -/
def IS (w : World) (v : Value) (d : List Int) : Prop :=
  (∃ A cap, v = .slice A 0 cap ∧ d = []) ∨ ∃ h off cap cs fr, v = .slice (some ⟨h, off, none⟩) d.length cap ∧ d.length ≤ cap ∧ w.heap[h]? = some (.cells cs 3 fr) ∧ ∀ (i : Nat) (x : Int), d[i]? = some x → cs[off + i]? = some (nV x)
/-- blocks of numbers are as they were -/
def Ki (w w' : World) : Prop := ∀ (b : Nat) (cs : Array Value) (fr : Nat × Nat), w.heap[b]? = some (.cells cs 3 fr) → w'.heap[b]? = w.heap[b]?
section
variable {w w' : World} {v : Value} {d : List Int} {B : Nat}
theorem IS.ki (h : IS w v d) (hk : Ki w w') : IS w' v d := by
  rcases h with h | ⟨b, off, cap, cs, fr, e, hc, hb, hx⟩
  · exact .inl h
  · exact .inr ⟨b, off, cap, cs, fr, e, hc, (hk b cs fr hb).trans hb, hx⟩
theorem Ki.below (h : Below w.heap.size w w') : Ki w w' := fun b cs fr hb => h.block b (Array.getElem?_eq_some_iff.1 hb).1
theorem IS.below (h : IS w v d) (hb : Below w.heap.size w w') : IS w' v d := h.ki (.below hb)
theorem IS.form (h : IS w v d) : ∃ a cap, v = .slice a d.length cap := by
  rcases h with ⟨A, cap, rfl, rfl⟩ | ⟨h, off, cap, cs, fr, rfl, _⟩
  · exact ⟨_, _, rfl⟩
  · exact ⟨_, _, rfl⟩
theorem IS.nil (w : World) : IS w (.slice none 0 0) [] := .inl ⟨_, _, rfl, rfl⟩
theorem IS.at_ (h : IS w v d) (hp : 0 < d.length) : ∃ b off cap, v = .slice (some ⟨b, off, none⟩) d.length cap ∧ d.length ≤ cap ∧ ∀ (i : Nat) (x : Int), d[i]? = some x → w.cell? ⟨b, off + i, none⟩ = some (nV x) := by
  rcases h with ⟨A, cap, rfl, rfl⟩ | ⟨b, off, cap, cs, fr, e, hc, hb, hx⟩
  · simp at hp
  · exact ⟨b, off, cap, e, hc, fun i x hi => (cell_of_row w b (off + i) cs _ fr hb).trans (hx i x hi)⟩
theorem OI.is (h : OI B w v d) : IS w v d := by
  rcases h.2 with ⟨rfl, hz⟩ | ⟨g, cap, cur, rfl, hb, hh, hc, hm, hs, ht⟩
  · exact .inl ⟨none, 0, rfl, List.eq_nil_of_length_eq_zero hz⟩
  · refine .inr ⟨g, 0, cap, cur, _, rfl, hc, hh, fun i x hi => ?_⟩
    have := World.ownsRow.cells h (g := g) rfl i (nV x) (by rw [List.getElem?_map, hi]; rfl)
    rw [Addr.add_lit, Nat.zero_add, cell_of_row w g i cur _ _ hh] at this
    rw [Nat.zero_add]; exact this
theorem OI.keep (h : OI B w v d) (hk : ∀ g, v.ownBlock = some g → w'.heap[g]? = w.heap[g]?) : OI B w' v d := by
  refine ⟨h.1, ?_⟩
  rcases h.2 with h2 | ⟨g, cap, cur, rfl, hb, hg, hr⟩
  · exact .inl h2
  · exact .inr ⟨g, cap, cur, rfl, hb, (hk g rfl).trans hg, hr⟩
theorem OI.below (h : OI B w v d) (hb : Below w.heap.size w w') : OI B w' v d := h.keep fun g hg => hb.block g (World.ownsRow.lt h g hg).2
theorem OI.nil (B : Nat) (w : World) : OI B w (.slice none 0 0) [] := World.ownsRow_nil _ _ _ _
theorem OI.mono (h : OI B w v d) {B' : Nat} (hB : B' ≤ B) : OI B' w v d := by
  refine ⟨h.1, ?_⟩
  rcases h.2 with h2 | ⟨g, cap, cur, rfl, hb, hr⟩
  · exact .inl h2
  · exact .inr ⟨g, cap, cur, rfl, Nat.le_trans hB hb, hr⟩
theorem OI.form (h : OI B w v d) : ∃ a cap, v = .slice a d.length cap := h.is.form
end
theorem sl_oneI {W : World} {b : Nat} {k : Int} (h : Bk W b 3 #[nV k]) : ∀ (i : Nat) (v : Value), [nV k][i]? = some v → W.cell? ((⟨b, 0, none⟩ : Addr).add i) = some v := by
  intro i v hi
  rw [Addr.add_lit, Nat.zero_add]
  rw [h.cell i]
  simpa using hi
theorem iInt : ∃ i, Try.prog.info? 3 = some i ∧ i.zero = some (nV 0) ∧ i.size = 1 ∧ i.bytes = 8 := by
  have h : (Try.prog.info? 3).bind (fun i => if i.size = 1 ∧ i.bytes = 8 then i.zero else none) = some (nV 0) := by kernel_rfl
  cases hi : Try.prog.info? 3 with
  | none => rw [hi] at h; cases h
  | some j =>
    rw [hi] at h
    by_cases hc : j.size = 1 ∧ j.bytes = 8
    · simp [hc] at h
      exact ⟨j, rfl, h, hc.1, hc.2⟩
    · simp [hc] at h
/-- one number more -/
theorem wpList_app_int {w : World} {ops : Array Oper} {rest : List Oper} {o : Oper} {a : Act} {Q : Exit → Act → World → Prop} (B : Nat) (v : Value) (d : List Int) (k : Int) (b : Nat) (hgd : o.guard = none) (s x : Operand)
    (ho : o.op = .call { callee := .builtin .append, args := #[s, x], argTypes := #[38, 38] }) (hs : a.eval s = v) (hown : OI B w v d) (hx : a.eval x = .slice (some ⟨b, 0, none⟩) 1 1) (hb : Bk w b 3 #[nV k])
    (hd : d.length ≤ 1099511627776) (hB : B ≤ w.heap.size)
    (hk : ∀ g cap w', OI B w' (.slice (some ⟨g, 0, none⟩) (d.length + 1) cap) (d ++ [k]) → w.grownBy w' v.ownBlock → wpList Try.prog ops Q rest (a.put o.dst (.slice (some ⟨g, 0, none⟩) (d.length + 1) cap)) w') : wpList Try.prog ops Q (o :: rest) a w := by
  obtain ⟨i, hi, hz, hsz, hby⟩ := iInt
  refine wpList_append_lies _ hgd s x 38 ho B 3 i (nV 0) 1 8 Try.underlying38 hi hz hsz hby rfl (by decide) v d.length (d.map nV) hs hown ⟨b, 0, none⟩ 1 1 [nV k] hx rfl (sl_oneI hb) (by intro u hu; simp at hu; subst hu; rfl) (by decide) (by unfold maxLen; omega) (by omega) hB _ rfl ?_
  intro g cap w' h1 h2 h3 h4
  refine hk g cap w' ?_ h2
  unfold OI
  rw [List.length_append, List.map_append]
  exact h1
set_option maxHeartbeats 4000000 in
theorem ints_any (w : World) (v u : Value) (d e : List Int) (hv : IS w v d) (hu : IS w u e) (hd : d.length ≤ 1000000) :
    Calls Try.prog 39 #[v, u] w (RdP (.bool (decide (d = e))) w) := by
  have HV := Lib.hid hv
  have HU := Lib.hid hu
  have HD := Lib.hid hd
  obtain ⟨n, hn⟩ : ∃ n, d.length = n := ⟨_, rfl⟩
  obtain ⟨m, hm⟩ : ∃ n, e.length = n := ⟨_, rfl⟩
  obtain ⟨va, vc, rfl⟩ := hv.form
  obtain ⟨ua, uc, rfl⟩ := hu.form
  rw [hn] at HV hd ⊢
  rw [hm] at HU ⊢
  have HN := Lib.hid hn
  have HM := Lib.hid hm
  by_cases hl : n = m
  · subst hl
    have HD2 := Lib.hid hd
    clear hv hu hd hn hm HD
    go_enter Try.func39, Try.ntmps39
    go_wp2
    go_loopg [5] n (fun gk u5 wx => ∃ j : Nat, u5 = .int .i64 (j : Int) ∧ j + gk = n ∧ d.take j = e.take j ∧ Below w.heap.size w wx)
    case atStart => exact ⟨0, rfl, by omega, by simp, Below.refl _ _⟩
    case round =>
      obtain ⟨j, rfl, hj, heq, hb⟩ := hrel
      have HB := Lib.hid hb
      cases gk with
      | zero =>
        have l1 : ¬ ((j : Int) < (n : Int)) := by omega
        have hde : d = e := by
          rw [List.take_of_length_le (by rw [HN.out]; omega), List.take_of_length_le (by rw [HM.out]; omega)] at heq
          exact heq
        have HFIN : Hid (RdP (.bool (decide (d = e))) w (.returned (.bool true)) wr) := Lib.hid ⟨by rw [decide_eq_true hde], hb⟩
        clear heq hde hj hb
        go_wp2
        go_ret
        exact HFIN.out
      | succ gk1 =>
        have hdl : j < d.length := by rw [HN.out]; omega
        have hel : j < e.length := by rw [HM.out]; omega
        obtain ⟨b, off, cp, h1, _, hx⟩ := (HV.out.below hb).at_ (by omega)
        rw [HN.out] at h1
        injection h1 with e1 _ e2
        subst e1 e2
        obtain ⟨b', off', cp', h1', _, hx'⟩ := (HU.out.below hb).at_ (by omega)
        rw [HM.out] at h1'
        injection h1' with e1 _ e2
        subst e1 e2
        obtain ⟨x, hx9⟩ : ∃ c, d[j] = c := ⟨_, rfl⟩
        obtain ⟨y, hy9⟩ : ∃ c, e[j] = c := ⟨_, rfl⟩
        have hdj : d[j]? = some x := by rw [List.getElem?_eq_getElem hdl, hx9]
        have hej : e[j]? = some y := by rw [List.getElem?_eq_getElem hel, hy9]
        have x0 := hx j x hdj
        have y0 := hx' j y hej
        have l0 : (0 : Int) ≤ (j : Int) := by omega
        have l1 : (j : Int) < (n : Int) := by omega
        obtain ⟨j1, hj1⟩ : ∃ j1, j + 1 = j1 := ⟨_, rfl⟩
        have wk : IntKind.i64.wrap ((j : Int) + 1) = (j1 : Int) := by rw [show (j : Int) + 1 = (j1 : Int) by omega]; exact IntWalk.i64_in _ (by have := HD2.out; omega)
        have HJ : Hid (j1 + gk1 = n) := Lib.hid (by omega)
        by_cases hxy : x = y
        · have HEQ : Hid (d.take j1 = e.take j1) := Lib.hid (by rw [← hj1, List.take_add_one, List.take_add_one, heq, hdj, hej, hxy])
          subst hxy
          clear heq hj hb hdl hel hx hx' hx9 hy9 hdj hej hj1
          go_wp2_with fail
          go_quiet (fail)
          go_wp2
          have HB9 := Lib.hid (HB.out.trans ((below_drewN wr.heap.size wr nq).mono HB.out.size))
          go_roundg gk1
          case measure => exact Nat.lt_succ_self _
          case rel => exact ⟨j1, rfl, HJ.out, HEQ.out, HB9.out⟩
        · have hne : d ≠ e := fun h => hxy (by rw [h, hej] at hdj; injection hdj with hdj; exact hdj.symm)
          have HNE : Hid (∀ w', Below wr.heap.size wr w' → RdP (.bool (decide (d = e))) w (.returned (.bool false)) w') := Lib.hid (fun w' hb9 => ⟨by rw [decide_eq_false hne], hb.trans (hb9.mono hb.size)⟩)
          clear heq hj hb hdl hel hx hx' hx9 hy9 hdj hej hj1 hne
          go_wp2_with fail
          go_quiet (fail)
          go_wp2
          go_ret
          exact HNE.out _ (below_drewN _ _ _)
  · have hne : d ≠ e := fun h => hl (by rw [← hn, ← hm, h])
    rw [decide_eq_false hne]
    have hl2 : ¬ ((n : Int) = (m : Int)) := by omega
    clear hv hu hd hn hm hne hl HD
    go_enter Try.func39, Try.ntmps39
    go_wp2
    go_ret
    exact ⟨rfl, Below.refl _ _⟩
theorem pu1 {α : Type _} {xs : List α} {i : Nat} (h : i < xs.toArray.size) : xs.toArray[i] = xs[i]'(by simpa using h) := by simp
theorem pu2 {α : Type _} (a : α) (l : List α) (i : Nat) (h : i + 1 < (a :: l).length) : (a :: l)[i + 1] = l[i]'(by simpa using h) := rfl
theorem pu3 {α : Type _} (a : α) (l : List α) : (a :: l)[0]'(by simp) = a := rfl
theorem pu4 {α : Type _} (l : List α) (i : Nat) (a : α) : l.toArray.setIfInBounds i a = (l.set i a).toArray := by simp
theorem pu5 {α : Type _} (a b : α) (l : List α) : (a :: l).set 0 b = b :: l := rfl
theorem pu6 {α : Type _} (a b : α) (l : List α) (n : Nat) : (a :: l).set (n + 1) b = a :: l.set n b := rfl
theorem pu.{u} : (∀ (α : Type u) (xs : List α) (i : Nat) (h : i < xs.toArray.size), xs.toArray[i] = xs[i]'(by simpa using h)) ∧ (∀ (α : Type u) (a : α) (l : List α) (i : Nat) (h : i + 1 < (a :: l).length), (a :: l)[i + 1] = l[i]'(by simpa using h)) ∧ (∀ (α : Type u) (a : α) (l : List α), (a :: l)[0]'(by simp) = a) ∧ (∀ (α : Type u) (l : List α) (i : Nat) (a : α), l.toArray.setIfInBounds i a = (l.set i a).toArray) ∧ (∀ (α : Type u) (a b : α) (l : List α), (a :: l).set 0 b = b :: l) ∧ (∀ (α : Type u) (a b : α) (l : List α) (n : Nat), (a :: l).set (n + 1) b = a :: l.set n b) := ⟨fun _ _ _ h => pu1 h, fun _ a l i h => pu2 a l i h, fun _ a l => pu3 a l, fun _ l i a => pu4 l i a, fun _ a b l => pu5 a b l, fun _ a b l n => pu6 a b l n⟩
section
variable {P : Program} {ops : Array Oper} {Q : Exit → Act → World → Prop} {md : Region.Mode} {S : World → Prop} {fuel : Nat} {listed : Array Bool} {a : Act} {w : World}
theorem tkY (i : Nat) (v : Value) {oi : Oper} (hi : ops[i]? = some oi) (hS : S w) (hy : ∀ w, S w → (execOp a.eval oi).run P w = .ok (.value v) w) (h : wpAnyH P md ops Q S fuel (listed.setIfInBounds i true) (a.put oi.dst v) w)
    (hs : Region.noSelect ops = true := by kernel_rfl) (hf : Region.free md ops listed i = true := by kernel_rfl) (hr : (Region.ready md ops listed).contains i = true := by kernel_rfl) (hw : Region.wanted oi (yielded ops a.tmps) = true := by kernel_rfl)
    (hQ : ∀ c a w, Q (.panic c) (a.put oi.dst v) w → Q (.panic c) a w := by exact fun _ _ _ h => h) : wpAnyH P md ops Q S (fuel + 1) listed a w := wpAnyH_take hi hs hf hr hQ (.inl ⟨hw, hy⟩) hS h
theorem tkN (i : Nat) {oi : Oper} (hi : ops[i]? = some oi) (hS : S w) (h : wpAnyH P md ops Q S fuel (listed.setIfInBounds i true) (a.put oi.dst undef) w)
    (hs : Region.noSelect ops = true := by kernel_rfl) (hf : Region.free md ops listed i = true := by kernel_rfl) (hr : (Region.ready md ops listed).contains i = true := by kernel_rfl) (hw : Region.wanted oi (yielded ops a.tmps) = false := by kernel_rfl)
    (hQ : ∀ c a w, Q (.panic c) (a.put oi.dst undef) w → Q (.panic c) a w := by exact fun _ _ _ h => h) : wpAnyH P md ops Q S (fuel + 1) listed a w := wpAnyH_take hi hs hf hr hQ (.inr ⟨hw, rfl⟩) hS h
end
end Go.Proofs.Ytochjbmighijgaa.LN
