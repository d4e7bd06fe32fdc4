/- What slices.Delete does to entries that a call owns. Conditions: how many. -/
import Derived.Test.YtochjbmighijgaaPob
namespace Go.Proofs.Ytochjbmighijgaa.PO
open Go.ChangeShapes Go.WideShapes Go.ChangeAt Go.RowKit
open Go.Proofs.Ytochjbmighijgaa.SL Go.Proofs.Ytochjbmighijgaa.RW
set_option maxRecDepth 100000
set_option linter.unusedVariables false
set_option linter.unusedSimpArgs false

theorem run_app_non {P : Program} {w : World} (base : Nat) (t ty e : TypeId) (i : TypeInfo) (size : Nat) (ht : P.underlying t = some (.slice e)) (hi : P.info? e = some i)
    (v : Value) (n : Nat) (xs : List Value) (hown : w.ownsRow base e size v n xs) (p : Option Addr) (c : Nat) : (Builtin.append_ #[t, t] ty #[v, .slice p 0 c]).run P w = .ok v w := by
  have hf : (Builtin.firstCells i.size 0 (.slice p 0 c)).run P w = .ok #[] w := by
    cases p with
    | none => exact run_firstCells_none w i.size 0 0 c
    | some ad => exact run_firstCells_some w i.size 0 ad 0 c [] (by simp) (fun j v hj => by simp at hj)
  rcases hown.2 with ⟨rfl, rfl⟩ | ⟨g, cap, cur, rfl, _, _, hnc, _⟩
  · simp [Builtin.append_, run_underlying ht, sizeOf, typeInfo, hi, Builtin.lenOf, hf]
  · simp [Builtin.append_, run_underlying ht, sizeOf, typeInfo, hi, Builtin.lenOf, hf, hnc, storeCells]
section
variable {P : Program} {w : World}
theorem step_app_room {ops : Array Oper} {o : Oper} {a : Act} {K : Act → World → Prop} {Q : Exit → Act → World → Prop} {E : Prop} (hgd : o.guard = none) (s x : Operand) (t : TypeId)
    (ho : o.op = .call { callee := .builtin .append, args := #[s, x], argTypes := #[t, t] })
    (base : Nat) (e : TypeId) (i : TypeInfo) (size : Nat) (ht : P.underlying t = some (.slice e)) (hi : P.info? e = some i) (hsize : i.size = size)
    (g n cap : Nat) (xs : List Value) (hs : a.eval s = .slice (some ⟨g, 0, none⟩) n cap) (hown : w.ownsRow base e size (.slice (some ⟨g, 0, none⟩) n cap) n xs)
    (ad : Addr) (m c : Nat) (news : List Value) (hx : a.eval x = .slice (some ad) m c) (hl : news.length = m * size) (hnews : ∀ j u, news[j]? = some u → w.cell? (ad.add j) = some u) (h1 : ∀ u ∈ news, u.oneCell' = true)
    (hroom : n + m ≤ cap)
    (h : ∀ w', w'.ownsRow base e size (.slice (some ⟨g, 0, none⟩) (n + m) cap) (n + m) (xs ++ news) → w.grownBy w' (some g) → K (a.put o.dst (.slice (some ⟨g, 0, none⟩) (n + m) cap)) w') :
    if Region.wanted o (yielded ops a.tmps) = true then Oper.wp P o a w K Q else E := by
  have hw : Region.wanted o (yielded ops a.tmps) = true := by simp [Region.wanted, hgd]
  rw [if_pos hw]
  exact wp_append_own_spare w s x t ho base e i size ht hi hsize g n cap xs hs hown ad m c news hx hl hnews h1 hroom h
theorem step_app_nothing {ops : Array Oper} {o : Oper} {a : Act} {K : Act → World → Prop} {Q : Exit → Act → World → Prop} {E : Prop} (hgd : o.guard = none) (s x : Operand) (t : TypeId)
    (ho : o.op = .call { callee := .builtin .append, args := #[s, x], argTypes := #[t, t] })
    (base : Nat) (e : TypeId) (i : TypeInfo) (size : Nat) (ht : P.underlying t = some (.slice e)) (hi : P.info? e = some i)
    (v : Value) (n : Nat) (xs : List Value) (hs : a.eval s = v) (hown : w.ownsRow base e size v n xs) (p : Option Addr) (c : Nat) (hx : a.eval x = .slice p 0 c)
    (h : K (a.put o.dst v) w) : if Region.wanted o (yielded ops a.tmps) = true then Oper.wp P o a w K Q else E := by
  have hw : Region.wanted o (yielded ops a.tmps) = true := by simp [Region.wanted, hgd]
  rw [if_pos hw]
  have hrun := run_app_non (P := P) (w := w) base t o.type e i size ht hi v n xs hown p c
  unfold Oper.wp
  simp [execOp, ho, resolve, invoke, builtin, hs, hx, hrun, Result.andThen]
  exact h
end
theorem splice_take' {α : Type} (L : List α) (o k : Nat) (cs : List α) (h : k ≤ o) (h2 : o ≤ L.length) : (splice L o cs).take k = L.take k := by
  unfold splice
  rw [List.take_append_of_le_length (by rw [List.length_take]; omega), List.take_take]
  congr 1; omega
def DelP (B : Nat) (row : Option Nat) (R : List Rs) (w : World) (e : Ending) (w' : World) : Prop :=
  ∃ a c, e = .returned (.slice a R.length c) ∧ EQ B w' (.slice a R.length c) R ∧ w.grownBy w' row ∧ ∀ q, (Value.slice a R.length c).ownBlock = some q → row = some q
theorem delLen (l : List Rs) (i j : Nat) (h : i ≤ j) (hj : j ≤ l.length) : (l.take i ++ l.drop j).length = i + (l.length - j) := by
  rw [List.length_append, List.length_take, List.length_drop]; omega
theorem grownRefl (w : World) (row : Option Nat) : w.grownBy w row := ⟨rfl, rfl, rfl, Nat.le_refl _, fun _ _ _ => rfl⟩
set_option maxHeartbeats 4000000 in
theorem edel_none (B : Nat) (v : Value) (l : List Rs) (i : Nat) (w : World) (h : EQ B w v l) (hi : i ≤ l.length) (hl : l.length ≤ 1000000) :
    Calls Try.prog 45 #[v, .int .i64 (i : Int), .int .i64 (i : Int)] w (DelP B v.ownBlock l w) := by
  have HO := Lib.hid h
  have l0 : (0 : Int) ≤ (i : Int) := by omega
  have l1 : (i : Int) ≤ (l.length : Int) := by omega
  have hin : i ≤ l.length := hi
  rcases h.inv with ⟨rfl, rfl⟩ | ⟨g, cap, rfl, hcap, hmx, hBg, hgl⟩
  · have : i = 0 := by simpa using hi
    subst this
    clear h hi hl
    go_enter Try.func45, Try.ntmps45
    go_wp2
    go_ret
    exact ⟨none, 0, rfl, HO.out, grownRefl _ _, fun q hq => hq⟩
  · have hcm : cap ≤ 9223372036854775807 := by unfold maxLen at hmx; omega
    have l2 : (l.length : Int) ≤ (cap : Int) := by omega
    have l3 : (i : Int) ≤ (cap : Int) := by omega
    by_cases hil : i = l.length
    · subst hil
      clear h hi
      go_enter Try.func45, Try.ntmps45
      go_wp2
      all_goals
        go_ret
        exact ⟨some ⟨g, 0, none⟩, cap, rfl, HO.out, grownRefl _ _, fun q hq => hq⟩
    · have hil2 : ¬ (l.length = i) := fun e => hil e.symm
      clear h hi
      go_enter Try.func45, Try.ntmps45
      go_wp2
      all_goals
        go_ret
        exact ⟨some ⟨g, 0, none⟩, cap, rfl, HO.out, grownRefl _ _, fun q hq => hq⟩
set_option maxHeartbeats 4000000 in
theorem edel_some (B g cap : Nat) (l : List Rs) (i j : Nat) (w : World) (h : EQ B w (.slice (some ⟨g, 0, none⟩) l.length cap) l) (hcap : l.length ≤ cap) (hmx : cap ≤ maxLen) (hij : i < j) (hj : j ≤ l.length) (hl : l.length ≤ 1000000) :
    Calls Try.prog 45 #[.slice (some ⟨g, 0, none⟩) l.length cap, .int .i64 (i : Int), .int .i64 (j : Int)] w (DelP B (some g) (l.take i ++ l.drop j) w) := by
  obtain ⟨i30, hi30, hz30, hs30, hb30⟩ := iEnt
  have und30 := undE
  have HO := Lib.hid h
  have hcm : cap ≤ 9223372036854775807 := by unfold maxLen at hmx; omega
  have hdl := delLen l i j (by omega) hj
  obtain ⟨R, hR⟩ : ∃ R, l.take i ++ l.drop j = R := ⟨_, rfl⟩
  obtain ⟨d, hd⟩ : ∃ d, i + (l.length - j) = d := ⟨_, rfl⟩
  rw [hR, hd] at hdl
  have HR := Lib.hid hR
  have HRL := Lib.hid hdl
  have HD := Lib.hid hd
  have HIJ : Hid (i < j ∧ j ≤ l.length ∧ d < l.length ∧ l.length ≤ cap ∧ l.length ≤ 1000000) := Lib.hid (by omega)
  rw [hR]
  unfold DelP
  rw [hdl]
  have HCUT : Hid (w.drew.ownsRow B 76 2 (.slice (some ⟨g, 0, none⟩) i cap) i (eC (l.take i))) := Lib.hid (by rw [eC_take]; exact own_cut h i (by omega))
  have l0 : (0 : Int) ≤ (i : Int) := by omega
  have l1 : (i : Int) ≤ (j : Int) := by omega
  have l2 : (j : Int) ≤ (l.length : Int) := by omega
  have l3 : (l.length : Int) ≤ (cap : Int) := by omega
  have l4 : ¬ ((i : Int) = (j : Int)) := by omega
  have l5 : (i : Int) ≤ (l.length : Int) := by omega
  have l6 : (0 : Int) ≤ (j : Int) := by omega
  have l7 : ¬ (cap = i) := by omega
  have l8 : ¬ (cap = d) := by omega
  have l9 : (0 : Int) ≤ (d : Int) := by omega
  have l10 : (d : Int) ≤ (l.length : Int) := by omega
  have l11 : (i : Int) ≤ (cap : Int) := by omega
  have HEND := Lib.hid (fun (w2 : World) (ho2 : w2.ownsRow B 76 2 (.slice (some ⟨g, 0, none⟩) d cap) d (eC R)) => own_more ho2 l.length (by omega) hcap)
  by_cases hjn : j = l.length
  · subst hjn
    have hd2 : i = d := by omega
    subst hd2
    clear h hij hj hl hR hd hdl hmx
    go_enter Try.func45, Try.ntmps45
    have HER : Hid (eC R = eC (l.take i)) := Lib.hid (by rw [← HR.out, List.drop_of_length_le (Nat.le_refl _), List.append_nil])
    by_cases hcj : cap = l.length
    · subst hcj
      go_wp2_with fail
      go_region_law (refine step_app_nothing rfl _ _ 62 rfl B 76 i30 2 und30 hi30 (.slice (some ⟨g, 0, none⟩) i l.length) i (eC (l.take i)) (by simp [Act.eval, Act.put]) HCUT.out _ _ (by rfl) ?_)
      obtain ⟨ys, hys, ho3⟩ := HEND.out _ (show w.drew.ownsRow _ _ _ _ _ _ from by rw [HER.out]; exact HCUT.out)
      have HO3 := Lib.hid ho3
      clear hys ho3
      go_wp2_with (refine wpList_clear (z := 2) rfl _ 62 rfl i30 #[.int .i64 0, .int .i64 0] und30 hi30 hz30 rfl (by intro v hv; simp at hv; rcases hv with rfl | rfl <;> rfl) i _ rfl HO3.out (by have := HIJ.out; omega) ?_; intro w5 ho5 hg5)
      have hcut := own_cut ho5 i (by have := HIJ.out; omega)
      rw [splice_take' _ _ _ _ (Nat.le_refl _) (by rw [List.length_append, eC_len, HRL.out]; omega), List.take_left' (by rw [eC_len, HRL.out])] at hcut
      have HCU := Lib.hid (EQ.of hcut HRL.out rfl)
      have HG5 := Lib.hid (show w.grownBy w5 (some g) from ⟨hg5.os, hg5.tape, hg5.output, hg5.size, hg5.block⟩)
      clear ho5 hg5 hcut
      go_wp2
      go_ret
      exact ⟨some ⟨g, 0, none⟩, l.length, rfl, HCU.out, HG5.out, fun q hq => (by first | exact hq | (injection hq))⟩
    · have hcj2 : ¬ (l.length = cap) := fun e => hcj e.symm
      go_wp2_with fail
      go_region_law (refine step_app_nothing rfl _ _ 62 rfl B 76 i30 2 und30 hi30 (.slice (some ⟨g, 0, none⟩) i cap) i (eC (l.take i)) (by simp [Act.eval, Act.put]) HCUT.out _ _ (by rfl) ?_)
      obtain ⟨ys, hys, ho3⟩ := HEND.out _ (show w.drew.ownsRow _ _ _ _ _ _ from by rw [HER.out]; exact HCUT.out)
      have HO3 := Lib.hid ho3
      clear hys ho3
      go_wp2_with (refine wpList_clear (z := 2) rfl _ 62 rfl i30 #[.int .i64 0, .int .i64 0] und30 hi30 hz30 rfl (by intro v hv; simp at hv; rcases hv with rfl | rfl <;> rfl) i _ rfl HO3.out (by have := HIJ.out; omega) ?_; intro w5 ho5 hg5)
      have hcut := own_cut ho5 i (by have := HIJ.out; omega)
      rw [splice_take' _ _ _ _ (Nat.le_refl _) (by rw [List.length_append, eC_len, HRL.out]; omega), List.take_left' (by rw [eC_len, HRL.out])] at hcut
      have HCU := Lib.hid (EQ.of hcut HRL.out rfl)
      have HG5 := Lib.hid (show w.grownBy w5 (some g) from ⟨hg5.os, hg5.tape, hg5.output, hg5.size, hg5.block⟩)
      clear ho5 hg5 hcut
      go_wp2
      go_ret
      exact ⟨some ⟨g, 0, none⟩, cap, rfl, HCU.out, HG5.out, fun q hq => (by first | exact hq | (injection hq))⟩
  · have hcj : ¬ (cap = j) := by omega
    have hsrc : ∀ q u, (eC (l.drop j))[q]? = some u → w.drew.cell? ((⟨g, j * 2, none⟩ : Addr).add q) = some u := by
      intro q u hq
      rw [eC_drop, List.getElem?_drop] at hq
      have h1 := World.ownsRow.cells HO.out (g := g) rfl (j * 2 + q) u hq
      rw [Addr.add_lit, Nat.zero_add] at h1
      rw [Addr.add_lit]; exact h1
    have HSRC := Lib.hid hsrc
    have HNL : Hid ((eC (l.drop j)).length = (l.length - j) * 2) := Lib.hid (by rw [eC_len, List.length_drop])
    clear h hij hj hl hR hd hdl hmx hsrc hjn
    go_enter Try.func45, Try.ntmps45
    go_wp2_with fail
    go_region_law (refine step_app_room rfl _ _ 62 rfl B 76 i30 2 und30 hi30 hs30 g i cap (eC (l.take i)) (by simp [Act.eval, Act.put]) HCUT.out ⟨g, j * 2, none⟩ (l.length - j) (cap - j) (eC (l.drop j)) (by simp [Act.eval, Act.put]) HNL.out HSRC.out (eC_one _) (by have := HIJ.out; omega) ?_; intro w3 ho3 hg3)
    have ho4 : w3.ownsRow B 76 2 (.slice (some ⟨g, 0, none⟩) d cap) d (eC R) := by
      rw [HD.out] at ho3
      rw [← HR.out, eC_app]; exact ho3
    have HO4 := Lib.hid ho4
    have HG3 := Lib.hid hg3
    have hd0 := HD.out
    clear ho3 ho4 hg3
    try rw [hd0]
    obtain ⟨ys, hys, ho3⟩ := HEND.out _ HO4.out
    have HO3 := Lib.hid ho3
    clear hys ho3
    go_wp2_with (refine wpList_clear (z := 2) rfl _ 62 rfl i30 #[.int .i64 0, .int .i64 0] und30 hi30 hz30 rfl (by intro v hv; simp at hv; rcases hv with rfl | rfl <;> rfl) d _ rfl HO3.out (by have := HIJ.out; omega) ?_; intro w5 ho5 hg5)
    have hcut := own_cut ho5 d (by have := HIJ.out; omega)
    rw [splice_take' _ _ _ _ (Nat.le_refl _) (by rw [List.length_append, eC_len, HRL.out]; omega), List.take_left' (by rw [eC_len, HRL.out])] at hcut
    have HCU := Lib.hid (EQ.of hcut HRL.out rfl)
    have HG5 := Lib.hid (show w.grownBy w5 (some g) from ⟨hg5.os.trans HG3.out.os, hg5.tape.trans HG3.out.tape, hg5.output.trans HG3.out.output, Nat.le_trans HG3.out.size hg5.size, fun k hk hn => (hg5.block k (Nat.lt_of_lt_of_le hk HG3.out.size) hn).trans (HG3.out.block k hk hn)⟩)
    clear ho5 hg5 hcut
    go_wp2
    go_ret
    exact ⟨some ⟨g, 0, none⟩, cap, rfl, HCU.out, HG5.out, fun q hq => (by first | exact hq | (injection hq))⟩
/-- some entries taken out, at any place -/
theorem edelete_any (B : Nat) (v : Value) (l : List Rs) (i j : Nat) (w : World) (h : EQ B w v l) (hij : i ≤ j) (hj : j ≤ l.length) (hl : l.length ≤ 1000000) :
    Calls Try.prog 45 #[v, .int .i64 (i : Int), .int .i64 (j : Int)] w (DelP B v.ownBlock (l.take i ++ l.drop j) w) := by
  by_cases he : i = j
  · subst he
    rw [List.take_append_drop]
    exact edel_none B v l i w h hj hl
  · rcases h.inv with ⟨rfl, rfl⟩ | ⟨g, cap, rfl, hcap, hmx, hBg, hgl⟩
    · simp at hj; omega
    · exact edel_some B g cap l i j w h hcap hmx (by omega) hj hl
end Go.Proofs.Ytochjbmighijgaa.PO
