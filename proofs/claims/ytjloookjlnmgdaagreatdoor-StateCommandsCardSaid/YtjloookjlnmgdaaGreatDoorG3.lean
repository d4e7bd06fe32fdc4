/- What slices.Insert does, of one element, where the slice has no room for more: a new row. Conditions: how many.
   What slices.IndexFunc and slices.DeleteFunc do to rows that a call owns, at Do's closure. Conditions: how many rows.
   What package lexer's own tests of letters answer (letter, digit, inWord, inTag, inNum), and the document's own. Condition: none.
   What package lexer's row answers: how many bytes stand at the beginning whose letters are all of a sort. Condition: none but the text's own size.
   What strings.IndexByte answers, at this translation. Condition: none.
   What package lexer's blank answers: strings.ContainsRune of the five blanks. Condition: none.
   What package lexer's readers of rows answer: gap, num, sign, param; the package strings that they call. Condition: none but a text's length. -/
import Derived.Test.YtjloookjlnmgdaaGreatDoorG2
import Derived.Deep.RegionLaw
import Derived.Test.YtjloookjlnmgdaaGreatDoorG1
import Derived.LoopTactic
import Derived.Test.YtjloookjlnmgdaaGreatDoorRows
import Derived.WalkKit
import Derived.ProofKit
import Derived.OpenShut
import Derived.ShutString
import Derived.Below
import Derived.IntWalk
import Derived.Lib.Strings
import Derived.Lib.Hide
import Derived.Lib.Bytealg
import Derived.Lib.Walk
import Derived.Lib.IndexLaws
import Derived.Laws.IdiomStrings
import Derived.Deep.QuietTactic
import Derived.Deep.RegionWith
import Derived.Deep.DeepCutAuto
import Derived.BigQuiet
import Derived.Laws.Runes
import Derived.WalkMore
import Derived.Deep.RegionHeld3
import Derived.Test.YtjloookjlnmgdaaGreatDoorShelf
set_option linter.unusedSimpArgs false
set_option linter.unusedVariables false
namespace Go.Proofs.YtjloookjlnmgdaaGreatDoor
open Go.ChangeShapes Go.WideShapes Go.ChangeAt Go.RowKit
set_option maxRecDepth 100000
set_option linter.unusedVariables false
set_option linter.unusedSimpArgs false

theorem splice_end {α : Type} (A Z X : List α) (k : Nat) (hk : A.length = k) (h : X.length ≤ Z.length) : splice (A ++ Z) k X = A ++ X ++ Z.drop X.length := by
  subst hk
  unfold splice
  rw [List.take_left, List.drop_append, List.drop_of_length_le (by omega : A.length ≤ A.length + X.length), List.nil_append, ← List.append_assoc]
  congr 2
  omega
theorem splice_ins {α : Type} (A Z X Y : List α) (k m : Nat) (hk : A.length = k) (hm : k + X.length = m) (hz : Z.length = X.length + Y.length) : splice (splice (A ++ Z) k X) m Y = A ++ (X ++ Y) := by
  rw [splice_end A Z X k hk (by omega)]
  have h2 : (A ++ X).length = m := by rw [List.length_append]; omega
  have h3 : (Z.drop X.length).length = Y.length := by rw [List.length_drop]; omega
  rw [splice_end (A ++ X) (Z.drop X.length) Y m h2 (by omega), List.drop_of_length_le (by omega), List.append_nil, List.append_assoc]
def InsP (ty : TypeId) (B g : Nat) (l : List (Value × Value)) (w : World) (e : Ending) (w' : World) : Prop :=
  ∃ h c, e = .returned (.slice (some ⟨h, 0, none⟩) l.length c) ∧ w'.ownsRow B ty 2 (.slice (some ⟨h, 0, none⟩) l.length c) l.length (fl l) ∧ w.grownBy w' (some g) ∧ (h = g ∨ w.heap.size ≤ h)
theorem insLen {α : Type} (l : List α) (i : Nat) (x : α) (h : i ≤ l.length) : (l.take i ++ x :: l.drop i).length = l.length + 1 := by
  rw [List.length_append, List.length_cons, List.length_take, List.length_drop]; omega
set_option maxHeartbeats 4000000 in
theorem rinsert_any (B g : Nat) (l : List (Value × Value)) (i : Nat) (p0 p1 : Value) (vb : Nat) (w : World) (h : w.ownsRow B 45 2 (.slice (some ⟨g, 0, none⟩) l.length l.length) l.length (fl l)) (hone : ∀ v ∈ fl l, v.oneCell' = true) (hp0 : p0.oneCell' = true) (hp1 : p1.oneCell' = true)
    (hv0 : w.cell? ⟨vb, 0, none⟩ = some p0) (hv1 : w.cell? ⟨vb, 1, none⟩ = some p1) (hi : i ≤ l.length) (hl : l.length ≤ 1000000) (hB : B ≤ w.heap.size) :
    Calls Tryz.prog 68 #[.slice (some ⟨g, 0, none⟩) l.length l.length, .int .i64 (i : Int), .slice (some ⟨vb, 0, none⟩) 1 1] w (InsP 45 B g (l.take i ++ (p0, p1) :: l.drop i) w) := by
  obtain ⟨i30, hi30, hz30, hs30, hb30⟩ := iRow
  have und30 := undRow
  have hnews : ∀ (W : World), W.cell? ⟨vb, 0, none⟩ = some p0 → W.cell? ⟨vb, 1, none⟩ = some p1 → ∀ j u, ([p0, p1] : List Value)[j]? = some u → W.cell? ((⟨vb, 0, none⟩ : Addr).add j) = some u := by
    intro W h0 h1 j u hu
    rw [Addr.add_lit]
    match j, hu with
    | 0, hu => simp at hu; subst hu; exact h0
    | 1, hu => simp at hu; subst hu; exact h1
  have hone2 : ∀ u ∈ ([p0, p1] : List Value), u.oneCell' = true := by
    intro u hu
    simp only [List.mem_cons, List.not_mem_nil, or_false] at hu
    rcases hu with rfl | rfl
    · exact hp0
    · exact hp1
  have HN := Lib.hid hnews
  have HO2 := Lib.hid hone2
  have HO := Lib.hid h
  have HONE := Lib.hid hone
  have HB := Lib.hid hB
  have HL := Lib.hid hl
  have HV0 := Lib.hid hv0
  have HV1 := Lib.hid hv1
  have hgl := (h.lt g rfl).2
  have hvl : vb < w.heap.size := World.block_lt_of_cell? w _ hv0
  have HGL := Lib.hid hgl
  have HVL := Lib.hid hvl
  have hll := insLen l i (p0, p1) hi
  obtain ⟨R, hR⟩ : ∃ R, l.take i ++ (p0, p1) :: l.drop i = R := ⟨_, rfl⟩
  rw [hR] at hll ⊢
  have HR := Lib.hid hR
  obtain ⟨n1, hn1⟩ : ∃ n1, l.length + 1 = n1 := ⟨_, rfl⟩
  rw [hn1] at hll
  have HRL := Lib.hid hll
  have HN1 := Lib.hid hn1
  have l0 : (0 : Int) ≤ (i : Int) := by omega
  have l1 : (i : Int) ≤ (l.length : Int) := by omega
  have wk : IntKind.i64.wrap ((l.length : Int) + 1) = (n1 : Int) := by rw [show (l.length : Int) + 1 = (n1 : Int) by omega]; exact IntWalk.i64_in _ (by omega)
  unfold InsP
  rw [hll]
  clear h hone hp0 hp1 hnews hone2 hl hgl hvl hR hll hB
  by_cases hin : i = l.length
  · subst hin
    clear hv0 hv1
    go_enter Tryz.func68, Tryz.ntmps68
    go_wp2_with (at_builtin; refine wpList_append_lies _ rfl _ _ 36 rfl B 45 i30 (.agg #[.int .i64 0, .int .i64 0]) 2 16 und30 hi30 hz30 hs30 hb30 rfl (by decide) _ l.length (fl l) rfl HO.out ⟨vb, 0, none⟩ 1 1 [p0, p1] rfl rfl ?c1 ?c2 (by decide) ?c3 ?c4 ?c5 _ rfl ?_)
    all_goals first
      | exact HN.out _ HV0.out HV1.out
      | exact HO2.out
      | (have := HL.out; unfold maxLen; omega)
      | (have := HL.out; omega)
      | exact HB.out
      | skip
    intro g9 cap9 w9 hown9 hgr9 hat9 hlt9
    have hR2 := HR.out
    rw [List.take_of_length_le (Nat.le_refl _), List.drop_of_length_le (Nat.le_refl _)] at hR2
    have hown8 : w9.ownsRow B 45 2 (.slice (some ⟨g9, 0, none⟩) n1 cap9) n1 (fl R) := by
      rw [← hR2, fl_append]
      exact hown9
    have HO9 := Lib.hid hown8
    have HG9 := Lib.hid hgr9
    have hat8 : g9 = g ∨ w.heap.size ≤ g9 := by
      rcases hat9 with h | h
      · left; injection h with h; exact h.symm
      · right; omega
    have HA9 := Lib.hid hat8
    clear hown9 hown8 hgr9 hat9 hat8 hR2
    go_wp2
    go_ret
    exact ⟨g9, cap9, rfl, HO9.out, HG9.out, HA9.out⟩
  · have hil : i < l.length := by omega
    have HIL := Lib.hid hil
    obtain ⟨k, hk⟩ : ∃ k, n1 - i = k := ⟨_, rfl⟩
    have HK := Lib.hid hk
    have wk2 : IntKind.i64.wrap ((n1 : Int) - (i : Int)) = (k : Int) := by rw [show (n1 : Int) - (i : Int) = (k : Int) by omega]; exact IntWalk.i64_in _ (by have := HL.out; have := HN1.out; omega)
    have l2 : ¬ ((i : Int) = (l.length : Int)) := by omega
    have l3 : (l.length : Int) < (n1 : Int) := by omega
    have l4 : ¬ (l.length = i) := by omega
    obtain ⟨i1, hi1⟩ : ∃ i1, i + 1 = i1 := ⟨_, rfl⟩
    have HI1 := Lib.hid hi1
    have wk3 : IntKind.i64.wrap ((i : Int) + 1) = (i1 : Int) := by rw [show (i : Int) + 1 = (i1 : Int) by omega]; exact IntWalk.i64_in _ (by have := HL.out; have := HIL.out; omega)
    obtain ⟨c, w1, hrun, hown, hgr⟩ := run_app_zeros (P := Tryz.prog) (w := w) (B := B) (e := 45) 36 3 36 i30 (.int .i64 0) (.int .i64 0) 16 .i64 .i64 und30 Tryz.underlying3 hi30 hz30 hs30 hb30
      (some ⟨g, 0, none⟩) i l.length (fl (l.take i)) (by rw [fl_len, List.length_take]; omega) (fun _ => ⟨_, rfl, fun j v hj => by
        rw [fl_take, List.getElem?_take] at hj
        split at hj
        · have := HO.out.cells rfl j v hj
          exact this
        · cases hj⟩) k (by omega) (by omega) HB.out (by have := HL.out; omega) (by have := HL.out; unfold maxLen; omega)
    have hik : i + k = n1 := by omega
    rw [hik] at hrun hown
    have hcap : n1 ≤ c := by
      rcases hown.2 with ⟨h', _⟩ | ⟨g', cap', cur, h', _, _, hnc, _⟩
      · cases h'
      · injection h' with _ _ h'; omega
    have l5 : (n1 : Int) ≤ (c : Int) := by omega
    have l6 : ¬ (c = i) := by omega
    have l7 : ¬ (c = i1) := by omega
    have l8 : (i : Int) ≤ (n1 : Int) := by omega
    have l9 : (i1 : Int) ≤ (n1 : Int) := by omega
    have l10 : (0 : Int) ≤ (i1 : Int) := by omega
    have HIK := Lib.hid hik
    have HC := Lib.hid hcap
    have HOW := Lib.hid hown
    have HGR := Lib.hid hgr
    have x0 : w1.cell? ⟨vb, 0, none⟩ = some p0 := hgr.cell (a := ⟨vb, 0, none⟩) hv0 (by simp)
    have x1 : w1.cell? ⟨vb, 1, none⟩ = some p1 := hgr.cell (a := ⟨vb, 1, none⟩) hv1 (by simp)
    have HX0 := Lib.hid x0
    have HX1 := Lib.hid x1
    clear x0 x1 hv0 hv1 hin hil hk hi1 hown hgr hik hcap
    obtain ⟨H, hH⟩ : ∃ H, w.heap.size = H := ⟨_, rfl⟩
    have HH := Lib.hid hH
    rw [hH] at hrun HOW ⊢
    clear hH
    go_enter Tryz.func68, Tryz.ntmps68
    go_wp2_with (first
      | (at_builtin; refine Lib.wpList_append_run _ rfl _ _ _ _ rfl _ _ rfl rfl _ _ hrun ?_)
      | (refine wpList_copy2 rfl _ _ 36 36 rfl i30 und30 hi30 hs30 _ _ _ _ _ _ rfl rfl HOW.out [p0, p1] ?d1 ?d2 ?d3 HO2.out ?_))
    case d1 =>
      have := HIL.out; have := HN1.out
      rw [show Nat.min 1 (n1 - i) = 1 from Nat.min_eq_left (by omega)]; rfl
    case d2 => exact fun _ => ⟨_, rfl, HN.out w1 HX0.out HX1.out⟩
    case d3 =>
      have := HIL.out; have := HN1.out
      show i * 2 + 2 ≤ n1 * 2
      omega
    intro w3 ho3 hg3
    have hm1 : Nat.min 1 (n1 - i) = 1 := Nat.min_eq_left (by have := HIL.out; have := HN1.out; omega)
    have hm2 : Nat.min (l.length - i) (n1 - i1) = l.length - i := Nat.min_eq_left (by have := HIL.out; have := HN1.out; have := HI1.out; omega)
    have hdl : (fl (l.drop i)).length = (l.length - i) * 2 := by rw [fl_len, List.length_drop]
    have hsrc : ∀ j v, (fl (l.drop i))[j]? = some v → w3.cell? ((⟨g, i * 2, none⟩ : Addr).add j) = some v := by
      intro j v hj
      rw [fl_drop, List.getElem?_drop] at hj
      have h1 := HO.out.cells rfl (i * 2 + j) v hj
      rw [Addr.add_lit, Nat.zero_add] at h1
      rw [Addr.add_lit]
      have hne : g ≠ H := by have := HGL.out; have := HH.out; omega
      exact hg3.cell (a := ⟨g, i * 2 + j, none⟩) (HGR.out.cell (a := ⟨g, i * 2 + j, none⟩) h1 (by simp)) (fun e => hne (by injection e))
    have HSRC := Lib.hid hsrc
    have HO3 := Lib.hid ho3
    have HG3 := Lib.hid hg3
    have HM2 := Lib.hid hm2
    have HDL := Lib.hid hdl
    have HONED : Hid (∀ v ∈ fl (l.drop i), v.oneCell' = true) := Lib.hid (fun v hv => HONE.out v (by rw [fl_drop] at hv; exact List.mem_of_mem_drop hv))
    clear hsrc ho3 hg3 hm2 hdl
    rw [hm1]
    clear hm1
    go_wp2_with fail
    go_region_law (refine step_copy2 rfl _ _ 36 36 rfl i30 und30 hi30 hs30 (i1 * 2) (n1 - i1) (c - i1) (some ⟨g, i * 2, none⟩) (l.length - i) (l.length - i) (by simp [Act.eval, Act.put]) (by simp [Act.eval, Act.put]) HO3.out (fl (l.drop i)) (by rw [HM2.out]; exact HDL.out) (fun _ => ⟨_, rfl, HSRC.out⟩) (by rw [HDL.out]; have := HIL.out; have := HN1.out; have := HI1.out; omega) HONED.out ?_; intro w4 ho4 hg4)
    have HO4 := Lib.hid ho4
    have HG4 := Lib.hid hg4
    clear ho4 hg4
    go_wp2
    go_ret
    have hO := HO4.out
    rw [splice_ins _ _ _ _ _ _ (by rw [fl_len, List.length_take, Nat.min_eq_left (Nat.le_of_lt HIL.out)]) (by have := HI1.out; show i * 2 + 2 = i1 * 2; omega) (by rw [fl_len, List.length_replicate, HDL.out]; have := HIK.out; have := HN1.out; have := HIL.out; show k * 2 = 2 + _; omega)] at hO
    have hG : w.grownBy w4 (some g) := by
      have g1 := HGR.out
      have hsz := HH.out
      refine ⟨HG4.out.os.trans (HG3.out.os.trans g1.os), HG4.out.tape.trans (HG3.out.tape.trans g1.tape), HG4.out.output.trans (HG3.out.output.trans g1.output), Nat.le_trans g1.size (Nat.le_trans HG3.out.size HG4.out.size), fun q hq _ => ?_⟩
      have hqH : some q ≠ some H := fun e => by injection e with e; omega
      have h1 := g1.size
      exact (HG4.out.block q (Nat.lt_of_lt_of_le hq (Nat.le_trans h1 HG3.out.size)) hqH).trans ((HG3.out.block q (Nat.lt_of_lt_of_le hq h1) hqH).trans (g1.block q hq (by simp)))
    refine ⟨H, c, rfl, ?_, hG, .inr (Nat.le_refl _)⟩
    rw [← HR.out, fl_append]
    exact hO
set_option maxHeartbeats 4000000 in
theorem tinsert_any (B g : Nat) (l : List (Value × Value)) (i : Nat) (p0 p1 : Value) (vb : Nat) (w : World) (h : w.ownsRow B 43 2 (.slice (some ⟨g, 0, none⟩) l.length l.length) l.length (fl l)) (hone : ∀ v ∈ fl l, v.oneCell' = true) (hp0 : p0.oneCell' = true) (hp1 : p1.oneCell' = true)
    (hv0 : w.cell? ⟨vb, 0, none⟩ = some p0) (hv1 : w.cell? ⟨vb, 1, none⟩ = some p1) (hi : i ≤ l.length) (hl : l.length ≤ 1000000) (hB : B ≤ w.heap.size) :
    Calls Tryz.prog 66 #[.slice (some ⟨g, 0, none⟩) l.length l.length, .int .i64 (i : Int), .slice (some ⟨vb, 0, none⟩) 1 1] w (InsP 43 B g (l.take i ++ (p0, p1) :: l.drop i) w) := by
  obtain ⟨i30, hi30, hz30, hs30, hb30⟩ := iTab
  have und30 := undTab
  have hnews : ∀ (W : World), W.cell? ⟨vb, 0, none⟩ = some p0 → W.cell? ⟨vb, 1, none⟩ = some p1 → ∀ j u, ([p0, p1] : List Value)[j]? = some u → W.cell? ((⟨vb, 0, none⟩ : Addr).add j) = some u := by
    intro W h0 h1 j u hu
    rw [Addr.add_lit]
    match j, hu with
    | 0, hu => simp at hu; subst hu; exact h0
    | 1, hu => simp at hu; subst hu; exact h1
  have hone2 : ∀ u ∈ ([p0, p1] : List Value), u.oneCell' = true := by
    intro u hu
    simp only [List.mem_cons, List.not_mem_nil, or_false] at hu
    rcases hu with rfl | rfl
    · exact hp0
    · exact hp1
  have HN := Lib.hid hnews
  have HO2 := Lib.hid hone2
  have HO := Lib.hid h
  have HONE := Lib.hid hone
  have HB := Lib.hid hB
  have HL := Lib.hid hl
  have HV0 := Lib.hid hv0
  have HV1 := Lib.hid hv1
  have hgl := (h.lt g rfl).2
  have hvl : vb < w.heap.size := World.block_lt_of_cell? w _ hv0
  have HGL := Lib.hid hgl
  have HVL := Lib.hid hvl
  have hll := insLen l i (p0, p1) hi
  obtain ⟨R, hR⟩ : ∃ R, l.take i ++ (p0, p1) :: l.drop i = R := ⟨_, rfl⟩
  rw [hR] at hll ⊢
  have HR := Lib.hid hR
  obtain ⟨n1, hn1⟩ : ∃ n1, l.length + 1 = n1 := ⟨_, rfl⟩
  rw [hn1] at hll
  have HRL := Lib.hid hll
  have HN1 := Lib.hid hn1
  have l0 : (0 : Int) ≤ (i : Int) := by omega
  have l1 : (i : Int) ≤ (l.length : Int) := by omega
  have wk : IntKind.i64.wrap ((l.length : Int) + 1) = (n1 : Int) := by rw [show (l.length : Int) + 1 = (n1 : Int) by omega]; exact IntWalk.i64_in _ (by omega)
  unfold InsP
  rw [hll]
  clear h hone hp0 hp1 hnews hone2 hl hgl hvl hR hll hB
  by_cases hin : i = l.length
  · subst hin
    clear hv0 hv1
    go_enter Tryz.func66, Tryz.ntmps66
    go_wp2_with (at_builtin; refine wpList_append_lies _ rfl _ _ 32 rfl B 43 i30 (.agg #[.string ByteArray.empty, .slice none 0 0]) 2 40 und30 hi30 hz30 hs30 hb30 rfl (by decide) _ l.length (fl l) rfl HO.out ⟨vb, 0, none⟩ 1 1 [p0, p1] rfl rfl ?c1 ?c2 (by decide) ?c3 ?c4 ?c5 _ rfl ?_)
    all_goals first
      | exact HN.out _ HV0.out HV1.out
      | exact HO2.out
      | (have := HL.out; unfold maxLen; omega)
      | (have := HL.out; omega)
      | exact HB.out
      | skip
    intro g9 cap9 w9 hown9 hgr9 hat9 hlt9
    have hR2 := HR.out
    rw [List.take_of_length_le (Nat.le_refl _), List.drop_of_length_le (Nat.le_refl _)] at hR2
    have hown8 : w9.ownsRow B 43 2 (.slice (some ⟨g9, 0, none⟩) n1 cap9) n1 (fl R) := by
      rw [← hR2, fl_append]
      exact hown9
    have HO9 := Lib.hid hown8
    have HG9 := Lib.hid hgr9
    have hat8 : g9 = g ∨ w.heap.size ≤ g9 := by
      rcases hat9 with h | h
      · left; injection h with h; exact h.symm
      · right; omega
    have HA9 := Lib.hid hat8
    clear hown9 hown8 hgr9 hat9 hat8 hR2
    go_wp2
    go_ret
    exact ⟨g9, cap9, rfl, HO9.out, HG9.out, HA9.out⟩
  · have hil : i < l.length := by omega
    have HIL := Lib.hid hil
    obtain ⟨k, hk⟩ : ∃ k, n1 - i = k := ⟨_, rfl⟩
    have HK := Lib.hid hk
    have wk2 : IntKind.i64.wrap ((n1 : Int) - (i : Int)) = (k : Int) := by rw [show (n1 : Int) - (i : Int) = (k : Int) by omega]; exact IntWalk.i64_in _ (by have := HL.out; have := HN1.out; omega)
    have l2 : ¬ ((i : Int) = (l.length : Int)) := by omega
    have l3 : (l.length : Int) < (n1 : Int) := by omega
    have l4 : ¬ (l.length = i) := by omega
    obtain ⟨i1, hi1⟩ : ∃ i1, i + 1 = i1 := ⟨_, rfl⟩
    have HI1 := Lib.hid hi1
    have wk3 : IntKind.i64.wrap ((i : Int) + 1) = (i1 : Int) := by rw [show (i : Int) + 1 = (i1 : Int) by omega]; exact IntWalk.i64_in _ (by have := HL.out; have := HIL.out; omega)
    obtain ⟨c, w1, hrun, hown, hgr⟩ := run_app_zeros (P := Tryz.prog) (w := w) (B := B) (e := 43) 32 3 32 i30 (.string ByteArray.empty) (.slice none 0 0) 40 .i64 .i64 und30 Tryz.underlying3 hi30 hz30 hs30 hb30
      (some ⟨g, 0, none⟩) i l.length (fl (l.take i)) (by rw [fl_len, List.length_take]; omega) (fun _ => ⟨_, rfl, fun j v hj => by
        rw [fl_take, List.getElem?_take] at hj
        split at hj
        · have := HO.out.cells rfl j v hj
          exact this
        · cases hj⟩) k (by omega) (by omega) HB.out (by have := HL.out; omega) (by have := HL.out; unfold maxLen; omega)
    have hik : i + k = n1 := by omega
    rw [hik] at hrun hown
    have hcap : n1 ≤ c := by
      rcases hown.2 with ⟨h', _⟩ | ⟨g', cap', cur, h', _, _, hnc, _⟩
      · cases h'
      · injection h' with _ _ h'; omega
    have l5 : (n1 : Int) ≤ (c : Int) := by omega
    have l6 : ¬ (c = i) := by omega
    have l7 : ¬ (c = i1) := by omega
    have l8 : (i : Int) ≤ (n1 : Int) := by omega
    have l9 : (i1 : Int) ≤ (n1 : Int) := by omega
    have l10 : (0 : Int) ≤ (i1 : Int) := by omega
    have HIK := Lib.hid hik
    have HC := Lib.hid hcap
    have HOW := Lib.hid hown
    have HGR := Lib.hid hgr
    have x0 : w1.cell? ⟨vb, 0, none⟩ = some p0 := hgr.cell (a := ⟨vb, 0, none⟩) hv0 (by simp)
    have x1 : w1.cell? ⟨vb, 1, none⟩ = some p1 := hgr.cell (a := ⟨vb, 1, none⟩) hv1 (by simp)
    have HX0 := Lib.hid x0
    have HX1 := Lib.hid x1
    clear x0 x1 hv0 hv1 hin hil hk hi1 hown hgr hik hcap
    obtain ⟨H, hH⟩ : ∃ H, w.heap.size = H := ⟨_, rfl⟩
    have HH := Lib.hid hH
    rw [hH] at hrun HOW ⊢
    clear hH
    go_enter Tryz.func66, Tryz.ntmps66
    go_wp2_with (first
      | (at_builtin; refine Lib.wpList_append_run _ rfl _ _ _ _ rfl _ _ rfl rfl _ _ hrun ?_)
      | (refine wpList_copy2 rfl _ _ 32 32 rfl i30 und30 hi30 hs30 _ _ _ _ _ _ rfl rfl HOW.out [p0, p1] ?d1 ?d2 ?d3 HO2.out ?_))
    case d1 =>
      have := HIL.out; have := HN1.out
      rw [show Nat.min 1 (n1 - i) = 1 from Nat.min_eq_left (by omega)]; rfl
    case d2 => exact fun _ => ⟨_, rfl, HN.out w1 HX0.out HX1.out⟩
    case d3 =>
      have := HIL.out; have := HN1.out
      show i * 2 + 2 ≤ n1 * 2
      omega
    intro w3 ho3 hg3
    have hm1 : Nat.min 1 (n1 - i) = 1 := Nat.min_eq_left (by have := HIL.out; have := HN1.out; omega)
    have hm2 : Nat.min (l.length - i) (n1 - i1) = l.length - i := Nat.min_eq_left (by have := HIL.out; have := HN1.out; have := HI1.out; omega)
    have hdl : (fl (l.drop i)).length = (l.length - i) * 2 := by rw [fl_len, List.length_drop]
    have hsrc : ∀ j v, (fl (l.drop i))[j]? = some v → w3.cell? ((⟨g, i * 2, none⟩ : Addr).add j) = some v := by
      intro j v hj
      rw [fl_drop, List.getElem?_drop] at hj
      have h1 := HO.out.cells rfl (i * 2 + j) v hj
      rw [Addr.add_lit, Nat.zero_add] at h1
      rw [Addr.add_lit]
      have hne : g ≠ H := by have := HGL.out; have := HH.out; omega
      exact hg3.cell (a := ⟨g, i * 2 + j, none⟩) (HGR.out.cell (a := ⟨g, i * 2 + j, none⟩) h1 (by simp)) (fun e => hne (by injection e))
    have HSRC := Lib.hid hsrc
    have HO3 := Lib.hid ho3
    have HG3 := Lib.hid hg3
    have HM2 := Lib.hid hm2
    have HDL := Lib.hid hdl
    have HONED : Hid (∀ v ∈ fl (l.drop i), v.oneCell' = true) := Lib.hid (fun v hv => HONE.out v (by rw [fl_drop] at hv; exact List.mem_of_mem_drop hv))
    clear hsrc ho3 hg3 hm2 hdl
    rw [hm1]
    clear hm1
    go_wp2_with fail
    go_region_law (refine step_copy2 rfl _ _ 32 32 rfl i30 und30 hi30 hs30 (i1 * 2) (n1 - i1) (c - i1) (some ⟨g, i * 2, none⟩) (l.length - i) (l.length - i) (by simp [Act.eval, Act.put]) (by simp [Act.eval, Act.put]) HO3.out (fl (l.drop i)) (by rw [HM2.out]; exact HDL.out) (fun _ => ⟨_, rfl, HSRC.out⟩) (by rw [HDL.out]; have := HIL.out; have := HN1.out; have := HI1.out; omega) HONED.out ?_; intro w4 ho4 hg4)
    have HO4 := Lib.hid ho4
    have HG4 := Lib.hid hg4
    clear ho4 hg4
    go_wp2
    go_ret
    have hO := HO4.out
    rw [splice_ins _ _ _ _ _ _ (by rw [fl_len, List.length_take, Nat.min_eq_left (Nat.le_of_lt HIL.out)]) (by have := HI1.out; show i * 2 + 2 = i1 * 2; omega) (by rw [fl_len, List.length_replicate, HDL.out]; have := HIK.out; have := HN1.out; have := HIL.out; show k * 2 = 2 + _; omega)] at hO
    have hG : w.grownBy w4 (some g) := by
      have g1 := HGR.out
      have hsz := HH.out
      refine ⟨HG4.out.os.trans (HG3.out.os.trans g1.os), HG4.out.tape.trans (HG3.out.tape.trans g1.tape), HG4.out.output.trans (HG3.out.output.trans g1.output), Nat.le_trans g1.size (Nat.le_trans HG3.out.size HG4.out.size), fun q hq _ => ?_⟩
      have hqH : some q ≠ some H := fun e => by injection e with e; omega
      have h1 := g1.size
      exact (HG4.out.block q (Nat.lt_of_lt_of_le hq (Nat.le_trans h1 HG3.out.size)) hqH).trans ((HG3.out.block q (Nat.lt_of_lt_of_le hq h1) hqH).trans (g1.block q hq (by simp)))
    refine ⟨H, c, rfl, ?_, hG, .inr (Nat.le_refl _)⟩
    rw [← HR.out, fl_append]
    exact hO
end Go.Proofs.YtjloookjlnmgdaaGreatDoor
namespace Go.Proofs.YtjloookjlnmgdaaGreatDoor
open Go.ChangeShapes Go.WideShapes Go.ChangeAt Go.RowKit
set_option maxRecDepth 100000
set_option linter.unusedVariables false
set_option linter.unusedSimpArgs false

/-- the place of the first row that is meant -/
def idxM (kb : Bool) (K : Int) : List Rw → Nat → Int
  | [], _ => -1
  | r :: t, i => if meantB kb K r = true then (i : Int) else idxM kb K t (i + 1)
theorem idx_some (kb : Bool) (K : Int) : ∀ (l : List Rw) (i : Nat), (idxM kb K l i = -1 ∧ ∀ r ∈ l, meantB kb K r = false) ∨ ∃ k r, idxM kb K l i = ((i + k : Nat) : Int) ∧ l[k]? = some r ∧ meantB kb K r = true ∧ ∀ x ∈ l.take k, meantB kb K x = false
  | [], i => .inl ⟨rfl, fun r h => by simp at h⟩
  | r :: t, i => by
    rw [idxM]
    by_cases h : meantB kb K r = true
    · rw [if_pos h]; exact .inr ⟨0, r, by simp, rfl, h, fun x hx => by simp at hx⟩
    · rw [if_neg h]
      have h0 : meantB kb K r = false := by simpa using h
      rcases idx_some kb K t (i + 1) with ⟨h1, h2⟩ | ⟨k, u, h1, h2, h3, h4⟩
      · refine .inl ⟨h1, fun x hx => ?_⟩
        rcases List.mem_cons.1 hx with rfl | hx
        · exact h0
        · exact h2 x hx
      · refine .inr ⟨k + 1, u, by rw [h1]; congr 1; omega, by simpa using h2, h3, fun x hx => ?_⟩
        rw [List.take_succ_cons] at hx
        rcases List.mem_cons.1 hx with rfl | hx
        · exact h0
        · exact h4 x hx
theorem del_none {kb : Bool} {K : Int} {l : List Rw} (h : ∀ r ∈ l, meantB kb K r = false) : delR kb K l = l := by
  unfold delR
  rw [List.filter_eq_self]
  intro a ha
  rw [h a ha]; rfl
theorem del_snoc (kb : Bool) (K : Int) {l : List Rw} {i : Nat} {r : Rw} (h : l[i]? = some r) : delR kb K (l.take (i + 1)) = if meantB kb K r = true then delR kb K (l.take i) else delR kb K (l.take i) ++ [r] := by
  unfold delR
  rw [List.take_add_one, h, Option.toList_some, List.filter_append, List.filter_cons]
  cases meantB kb K r <;> simp
set_option maxHeartbeats 2000000 in
theorem ridx_any (v : Value) (l : List Rw) (x : Nat) (kb : Bool) (K : Int) (w : World) (h : RR w v l) (hc : CK w x kb K) (hs : l.length ≤ 1000000) :
    Calls Tryz.prog 69 #[v, .func (.func 40) #[] #[.pointer (some ⟨x, 0, none⟩)]] w fun e w' => e = .returned (.int .i64 (idxM kb K l 0)) ∧ Below w.heap.size w w' := by
  obtain ⟨R, hR⟩ : ∃ R, idxM kb K l 0 = R := ⟨_, rfl⟩
  rw [hR]
  obtain ⟨a, cap, rfl⟩ := h.form
  have HH := Lib.hid h
  have HR := Lib.hid hR
  have HC := Lib.hid hc
  have HX := Lib.hid hc.lt
  have HS := Lib.hid hs
  have henter : ∀ args w, (callFunc 40 args).run Tryz.prog w = .ok (.enter 40 args) w := fun args w => by show Sem.run Tryz.prog (callFunc 40 args) w = _; go_simp
  clear h hR hc hs
  go_enter Tryz.func69, Tryz.ntmps69
  go_wp2
  go_loopg [8] l.length (fun gk u8 wx => ∃ i : Nat, u8 = .int .i64 (i : Int) ∧ i + gk = l.length ∧ Below w.heap.size w wx ∧ idxM kb K (l.drop i) i = R)
  case atStart => exact ⟨0, rfl, by omega, Below.refl _ _, HR.out⟩
  case round =>
    obtain ⟨i, rfl, hi, hB, hr⟩ := hrel
    have HB := Lib.hid hB
    have HI := Lib.hid hi
    cases gk with
    | zero =>
      have l1 : ¬ ((i : Int) < (l.length : Int)) := by omega
      have hR : R = -1 := by rw [← hr, List.drop_of_length_le (by omega)]; rfl
      subst hR
      clear hB hi hr
      go_wp2
      go_ret
      exact ⟨rfl, HB.out⟩
    | succ gk =>
      have hlt : i < l.length := by omega
      have hRR := HH.out.below hB
      obtain ⟨b, o, cp, he, hcp, hx⟩ := hRR.inv (by omega)
      injection he with ea _ ec
      subst ea ec
      obtain ⟨t, ht0⟩ : ∃ t, l[i] = t := ⟨_, rfl⟩
      obtain ⟨x0, x1⟩ := hx i t (by rw [List.getElem?_eq_getElem hlt, ht0])
      have l0 : (0 : Int) ≤ (i : Int) := by omega
      have l1 : (i : Int) < (l.length : Int) := by omega
      obtain ⟨i1, hi1⟩ : ∃ i1, i + 1 = i1 := ⟨_, rfl⟩
      have wk : IntKind.i64.wrap ((i : Int) + 1) = (i1 : Int) := by rw [show (i : Int) + 1 = (i1 : Int) by omega]; exact IntWalk.i64_in _ (by have := HS.out; omega)
      have HI1 := Lib.hid hi1
      rw [List.drop_eq_getElem_cons hlt, ht0, idxM, hi1] at hr
      obtain ⟨r0, r1⟩ := t
      have HF := Lib.hid (meant_any r0 r1 x kb K wr (HC.out.below hB HX.out))
      obtain ⟨Q, hQ⟩ : ∃ Q, meantB kb K (r0, r1) = Q := ⟨_, rfl⟩
      rw [hQ] at HF
      simp only [hQ] at hr
      have HR2 := Lib.hid hr
      clear hB hi hr hRR hx ht0 hi1 hQ hlt
      cases Q with
      | true =>
        have hR : R = (i : Int) := by have := HR2.out; simpa using this.symm
        subst hR
        go_wp2_with (go_at_call 40; (refine HF.out.mono ?_); rintro e w2 ⟨rfl, hb2⟩; have HB2 := Lib.hid hb2; clear hb2)
        go_ret
        exact ⟨rfl, HB.out.trans (HB2.out.mono HB.out.size)⟩
      | false =>
        go_wp2_with (go_at_call 40; (refine HF.out.mono ?_); rintro e w2 ⟨rfl, hb2⟩; have HB2 := Lib.hid hb2; clear hb2)
        go_roundg gk
        case measure => exact Nat.lt_succ_self _
        case rel => exact ⟨i1, rfl, by have := HI1.out; have := HI.out; omega, HB.out.trans (HB2.out.mono HB.out.size), by have := HR2.out; simpa using this⟩
/-- rows moved to the front: the first i are what stays of the first j, those from j on are as they were -/
structure DelI (kb : Bool) (K : Int) (l m : List Rw) (i j : Nat) : Prop where
  len : m.length = l.length
  lt : i < j
  le : j ≤ l.length
  done : m.take i = delR kb K (l.take j)
  rest : m.drop j = l.drop j
theorem take_set_far {α : Type} (m : List α) (i j : Nat) (x : α) (h : i ≤ j) : (m.set j x).take i = m.take i := by
  apply List.ext_getElem?
  intro k
  rw [List.getElem?_take, List.getElem?_take]
  split
  · rw [List.getElem?_set, if_neg (by omega)]
  · rfl
theorem drop_set_far {α : Type} (m : List α) (i j : Nat) (x : α) (h : i < j) : (m.set i x).drop j = m.drop j := by
  apply List.ext_getElem?
  intro k
  rw [List.getElem?_drop, List.getElem?_drop, List.getElem?_set, if_neg (by omega)]
theorem DelI.at_ {kb : Bool} {K : Int} {l m : List Rw} {i j : Nat} (h : DelI kb K l m i j) (hj : j < l.length) : m[j]? = some l[j] := by
  have := congrArg (fun q => q[0]?) h.rest
  simp only [List.getElem?_drop, Nat.add_zero] at this
  rw [this, List.getElem?_eq_getElem hj]
theorem DelI.skip {kb : Bool} {K : Int} {l m : List Rw} {i j : Nat} (h : DelI kb K l m i j) (hj : j < l.length) (hm : meantB kb K l[j] = true) : DelI kb K l m i (j + 1) :=
  ⟨h.len, by have := h.lt; omega, hj, by rw [del_snoc kb K (List.getElem?_eq_getElem hj), if_pos hm]; exact h.done, by
    have := congrArg (List.drop 1) h.rest
    rw [List.drop_drop, List.drop_drop] at this
    exact this⟩
theorem DelI.keep {kb : Bool} {K : Int} {l m : List Rw} {i j : Nat} (h : DelI kb K l m i j) (hj : j < l.length) (hm : meantB kb K l[j] = false) : DelI kb K l (m.set i l[j]) (i + 1) (j + 1) := by
  have hi := h.lt
  refine ⟨by rw [List.length_set]; exact h.len, by omega, hj, ?_, ?_⟩
  · rw [del_snoc kb K (List.getElem?_eq_getElem hj), hm, if_neg (by decide), ← h.done, List.take_add_one, List.getElem?_set, if_pos rfl, if_pos (by rw [h.len]; omega), take_set_far m i i _ (Nat.le_refl _)]
    rfl
  · rw [drop_set_far _ _ _ _ (by omega)]
    have := congrArg (List.drop 1) h.rest
    rw [List.drop_drop, List.drop_drop] at this
    exact this
theorem DelI.start {kb : Bool} {K : Int} {l : List Rw} {i : Nat} {r : Rw} (hr : l[i]? = some r) (hm : meantB kb K r = true) (hf : ∀ x ∈ l.take i, meantB kb K x = false) : DelI kb K l l i (i + 1) := by
  have hi := (List.getElem?_eq_some_iff.1 hr).1
  exact ⟨rfl, by omega, hi, by rw [del_snoc kb K hr, if_pos hm, del_none hf], rfl⟩
theorem OR.cells {B g cap : Nat} {w : World} {l : List Rw} (h : OR B w (.slice (some ⟨g, 0, none⟩) l.length cap) l) (i : Nat) (r : Rw) (hi : l[i]? = some r) : w.cell? ⟨g, i * 2, none⟩ = some (.int .i64 r.1) ∧ w.cell? ⟨g, i * 2 + 1, none⟩ = some (.int .i64 r.2) ∧ w.frozen? ⟨g, i * 2, none⟩ = false ∧ w.frozen? ⟨g, i * 2 + 1, none⟩ = false := by
  obtain ⟨h1, h2⟩ := rcs_at l i r hi
  have hl : i < l.length := (List.getElem?_eq_some_iff.1 hi).1
  have c := fun j hj => World.ownsRow.cellAt h (g := g) (n := l.length) (cap := cap) j hj
  exact ⟨(c (i * 2) (by omega)).trans h1, (c (i * 2 + 1) (by omega)).trans h2, World.ownsRow.frozenAt h _, World.ownsRow.frozenAt h _⟩
theorem rcs_set (l : List Rw) (i : Nat) (r q : Rw) (h : l[i]? = some r) : ((rcs l).set (i * 2) (.int .i64 q.1)).set (i * 2 + 1) (.int .i64 q.2) = rcs (l.set i q) := by
  unfold rcs
  have h1 : (l.map rp)[i]? = some (rp r) := by rw [List.getElem?_map, h]; rfl
  rw [fl_set1 _ i (rp r) _ h1, fl_set2 _ i (.int .i64 q.1, (rp r).2) _ (by rw [List.getElem?_set, if_pos rfl, if_pos (List.getElem?_eq_some_iff.1 h1).1 |> Eq.symm |>.symm]), List.set_set, List.map_set]
theorem OR.set {B g cap : Nat} {w : World} {l : List Rw} (h : OR B w (.slice (some ⟨g, 0, none⟩) l.length cap) l) (i : Nat) (r q : Rw) (hi : l[i]? = some r) :
    OR B ((w.setCell ⟨g, i * 2, none⟩ (.int .i64 q.1)).setCell ⟨g, i * 2 + 1, none⟩ (.int .i64 q.2)) (.slice (some ⟨g, 0, none⟩) l.length cap) (l.set i q) ∧ w.grownBy ((w.setCell ⟨g, i * 2, none⟩ (.int .i64 q.1)).setCell ⟨g, i * 2 + 1, none⟩ (.int .i64 q.2)) (some g) := by
  obtain ⟨a1, a2⟩ := World.ownsRow.stored h (i * 2) (.int .i64 q.1)
  obtain ⟨b1, b2⟩ := World.ownsRow.stored a1 (i * 2 + 1) (.int .i64 q.2)
  rw [rcs_set l i r q hi] at b1
  exact ⟨by unfold OR; rw [List.length_set]; exact b1, ⟨b2.os.trans a2.os, b2.tape.trans a2.tape, b2.output.trans a2.output, Nat.le_trans a2.size b2.size, fun k hk hn => (b2.block k (Nat.lt_of_lt_of_le hk a2.size) hn).trans (a2.block k hk hn)⟩⟩
theorem grown_trans {a b c : World} {row : Option Nat} (h : a.grownBy b row) (k : b.grownBy c row) : a.grownBy c row :=
  ⟨k.os.trans h.os, k.tape.trans h.tape, k.output.trans h.output, Nat.le_trans h.size k.size, fun i hi hn => (k.block i (Nat.lt_of_lt_of_le hi h.size) hn).trans (h.block i hi hn)⟩
theorem grown_bel {a b : World} {row : Option Nat} (h : Below a.heap.size a b) : a.grownBy b row := ⟨h.os, h.tape, h.output, h.size, fun k hk _ => h.block k hk⟩
theorem grown_row {a b : World} {row : Option Nat} (h : a.grownBy b none) : a.grownBy b row := ⟨h.os, h.tape, h.output, h.size, fun k hk _ => h.block k hk (by simp)⟩
def DelP (B : Nat) (g cap : Nat) (kb : Bool) (K : Int) (l : List Rw) (w : World) (e : Ending) (w' : World) : Prop :=
  e = .returned (.slice (some ⟨g, 0, none⟩) (delR kb K l).length cap) ∧ OR B w' (.slice (some ⟨g, 0, none⟩) (delR kb K l).length cap) (delR kb K l) ∧ w.grownBy w' (some g)
theorem OR.cut {B g cap : Nat} {w : World} {l : List Rw} (h : OR B w (.slice (some ⟨g, 0, none⟩) l.length cap) l) (k : Nat) (hk : k ≤ l.length) : OR B w (.slice (some ⟨g, 0, none⟩) (l.take k).length cap) (l.take k) := by
  have := own_cut h k hk
  unfold OR
  rw [rcs_take, List.length_take, show min k l.length = k by omega]
  exact this
theorem splice_take {α : Type} (L : List α) (o k : Nat) (cs : List α) (h : k ≤ o) (h2 : o ≤ L.length) : (splice L o cs).take k = L.take k := by
  unfold splice
  rw [List.take_append_of_le_length (by rw [List.length_take]; omega), List.take_take]
  congr 1; omega
end Go.Proofs.YtjloookjlnmgdaaGreatDoor
namespace Go.Proofs.YtjloookjlnmgdaaGreatDoor
open Go.ChangeShapes Go.WideShapes Go.ChangeAt Go.RowKit
set_option maxRecDepth 100000
set_option linter.unusedVariables false
set_option linter.unusedSimpArgs false

theorem retb {x y : Bool} (h : x = y) : Ending.returned (.bool x) = Ending.returned (.bool y) := by rw [h]
def letN (n : Int) : Bool := decide (97 ≤ n ∧ n ≤ 122 ∨ 65 ≤ n ∧ n ≤ 90 ∨ n = 95 ∨ 127 < n)
def digN (n : Int) : Bool := decide (48 ≤ n ∧ n ≤ 57)
def wordN (n : Int) : Bool := letN n || digN n || n == 36
def tagN (n : Int) : Bool := letN n || digN n
def numN (n : Int) : Bool := digN n || n == 46

theorem let_any (n : Int) (w : World) : Calls Tryz.prog 122 #[.int .i32 n] w fun e w' => e = .returned (.bool (letN n)) ∧ w' = w := by
  obtain ⟨b, hb⟩ : ∃ b, letN n = b := ⟨_, rfl⟩
  rw [hb]
  have HB := Lib.hid hb
  clear hb
  go_enter Tryz.func122, Tryz.ntmps122
  go_wp2
  all_goals
    go_ret
    refine ⟨?_, rfl⟩
    rw [← HB.out]
    refine retb ?_
    unfold letN
    rw [Bool.eq_iff_iff]
    simp
    try omega
theorem dig_any (n : Int) (w : World) : Calls Tryz.prog 127 #[.int .i32 n] w fun e w' => e = .returned (.bool (digN n)) ∧ w' = w := by
  obtain ⟨b, hb⟩ : ∃ b, digN n = b := ⟨_, rfl⟩
  rw [hb]
  have HB := Lib.hid hb
  clear hb
  go_enter Tryz.func127, Tryz.ntmps127
  go_wp2
  all_goals
    go_ret
    refine ⟨?_, rfl⟩
    rw [← HB.out]
    refine retb ?_
    unfold digN
    rw [Bool.eq_iff_iff]
    simp
    try omega
theorem rlet_any (n : Int) (w : World) : Calls Tryz.prog 75 #[.int .u8 n] w fun e w' => e = .returned (.bool (letN n)) ∧ w' = w := by
  obtain ⟨b, hb⟩ : ∃ b, letN n = b := ⟨_, rfl⟩
  rw [hb]
  have HB := Lib.hid hb
  clear hb
  go_enter Tryz.func75, Tryz.ntmps75
  go_wp2
  all_goals
    go_ret
    refine ⟨?_, rfl⟩
    rw [← HB.out]
    refine retb ?_
    unfold letN
    rw [Bool.eq_iff_iff]
    simp
    try omega
theorem rdig_any (n : Int) (w : World) : Calls Tryz.prog 78 #[.int .u8 n] w fun e w' => e = .returned (.bool (digN n)) ∧ w' = w := by
  obtain ⟨b, hb⟩ : ∃ b, digN n = b := ⟨_, rfl⟩
  rw [hb]
  have HB := Lib.hid hb
  clear hb
  go_enter Tryz.func78, Tryz.ntmps78
  go_wp2
  all_goals
    go_ret
    refine ⟨?_, rfl⟩
    rw [← HB.out]
    refine retb ?_
    unfold digN
    rw [Bool.eq_iff_iff]
    simp
    try omega
theorem let_b (n : Int) (b : Bool) (h : Hid (letN n = b)) (w : World) : Calls Tryz.prog 122 #[.int .i32 n] w fun e w' => e = .returned (.bool b) ∧ w' = w := by
  have := let_any n w
  rw [h.out] at this
  exact this
theorem dig_b (n : Int) (b : Bool) (h : Hid (digN n = b)) (w : World) : Calls Tryz.prog 127 #[.int .i32 n] w fun e w' => e = .returned (.bool b) ∧ w' = w := by
  have := dig_any n w
  rw [h.out] at this
  exact this
theorem word_any (n : Int) (w : World) : Calls Tryz.prog 123 #[.int .i32 n] w fun e w' => e = .returned (.bool (wordN n)) ∧ w' = w := by
  obtain ⟨b0, h0⟩ : ∃ b, letN n = b := ⟨_, rfl⟩
  have H0 := Lib.hid h0
  clear h0
  obtain ⟨b1, h1⟩ : ∃ b, digN n = b := ⟨_, rfl⟩
  have H1 := Lib.hid h1
  clear h1
  cases b0 <;> cases b1
  all_goals
    go_enter Tryz.func123, Tryz.ntmps123
    go_wp2_with (first | (go_at_call 122; (with_reducible refine (let_b n _ H0 _).mono ?_); rintro e w1 ⟨rfl, hw⟩; obtain rfl := hw.symm) | (go_at_call 127; (with_reducible refine (dig_b n _ H1 _).mono ?_); rintro e w1 ⟨rfl, hw⟩; obtain rfl := hw.symm))
  all_goals
    go_ret
    refine ⟨retb ?_, rfl⟩
    unfold wordN
    rw [H0.out, H1.out]
    try simp
theorem tag_any (n : Int) (w : World) : Calls Tryz.prog 194 #[.int .i32 n] w fun e w' => e = .returned (.bool (tagN n)) ∧ w' = w := by
  obtain ⟨b0, h0⟩ : ∃ b, letN n = b := ⟨_, rfl⟩
  have H0 := Lib.hid h0
  clear h0
  obtain ⟨b1, h1⟩ : ∃ b, digN n = b := ⟨_, rfl⟩
  have H1 := Lib.hid h1
  clear h1
  cases b0 <;> cases b1
  all_goals
    go_enter Tryz.func194, Tryz.ntmps194
    go_wp2_with (first | (go_at_call 122; (with_reducible refine (let_b n _ H0 _).mono ?_); rintro e w1 ⟨rfl, hw⟩; obtain rfl := hw.symm) | (go_at_call 127; (with_reducible refine (dig_b n _ H1 _).mono ?_); rintro e w1 ⟨rfl, hw⟩; obtain rfl := hw.symm))
  all_goals
    go_ret
    refine ⟨retb ?_, rfl⟩
    unfold tagN
    rw [H0.out, H1.out]
    try simp
theorem num_any (n : Int) (w : World) : Calls Tryz.prog 128 #[.int .i32 n] w fun e w' => e = .returned (.bool (numN n)) ∧ w' = w := by
  obtain ⟨b0, h0⟩ : ∃ b, digN n = b := ⟨_, rfl⟩
  have H0 := Lib.hid h0
  clear h0
  cases b0
  all_goals
    go_enter Tryz.func128, Tryz.ntmps128
    go_wp2_with (first | (go_at_call 127; (with_reducible refine (dig_b n _ H0 _).mono ?_); rintro e w1 ⟨rfl, hw⟩; obtain rfl := hw.symm))
  all_goals
    go_ret
    refine ⟨retb ?_, rfl⟩
    unfold numN
    rw [H0.out]
    try simp
end Go.Proofs.YtjloookjlnmgdaaGreatDoor
namespace Go.Proofs.YtjloookjlnmgdaaGreatDoor
open Go.ChangeShapes Go.WideShapes Go.ChangeAt Go.RowKit
set_option maxRecDepth 100000
set_option linter.unusedVariables false
set_option linter.unusedSimpArgs false

/-- how many bytes stand ahead of the first that does not fit -/
def rowL (p : UInt8 → Bool) (l : Tx) : Nat := (l.takeWhile p).length
/-- a test of letters that says of all above 127 one thing, as the test of bytes says of all bytes above 127 -/
structure Kin (t : Int → Bool) (p : UInt8 → Bool) (hi : Bool) : Prop where
  low : ∀ c : UInt8, c.toNat < 128 → t (c.toNat : Int) = p c
  wide : ∀ n : Int, 128 ≤ n → t n = hi
  bytes : ∀ c : UInt8, 128 ≤ c.toNat → p c = hi
theorem rowL_at (p : UInt8 → Bool) (l : Tx) (n : Nat) (h1 : ∀ c ∈ l.take n, p c = true) (c : UInt8) (r : Tx) (h2 : l.drop n = c :: r) (h3 : p c = false) : rowL p l = n := by
  have hn : n < l.length := by
    have := congrArg List.length h2
    rw [List.length_drop, List.length_cons] at this; omega
  have e : l = l.take n ++ c :: r := by rw [← h2, List.take_append_drop]
  unfold rowL
  rw [e, List.takeWhile_append_of_pos h1, List.takeWhile_cons, if_neg (by rw [h3]; decide), List.append_nil, List.length_take]
  omega
theorem rowL_all (p : UInt8 → Bool) (l : Tx) (n : Nat) (h1 : ∀ c ∈ l.take n, p c = true) (hn : l.length ≤ n) : rowL p l = l.length := by
  rw [List.take_of_length_le hn] at h1
  unfold rowL
  have : l.takeWhile p = l := by
    have := List.takeWhile_append_of_pos (l₂ := []) h1
    simpa using this
  rw [this]
theorem get_list (s : ByteArray) (n : Nat) (h : n < s.size) : s.data.toList.drop n = s[n] :: s.data.toList.drop (n + 1) := by
  have hl : n < s.data.toList.length := by rw [← Lib.size_eq]; exact h
  rw [List.drop_eq_getElem_cons hl]
  rfl
theorem take_more (p : UInt8 → Bool) (s : ByteArray) (pos k : Nat) (h1 : ∀ c ∈ s.data.toList.take pos, p c = true) (h2 : ∀ j, j < k → ∀ hj : pos + j < s.size, p (s[pos + j]'hj) = true) (hk : pos + k ≤ s.size) : ∀ c ∈ s.data.toList.take (pos + k), p c = true := by
  induction k with
  | zero => exact h1
  | succ k ih =>
    have hlt : pos + k < s.data.toList.length := by rw [← Lib.size_eq]; omega
    have hlt2 : pos + k < s.size := by omega
    rw [← Nat.add_assoc, List.take_succ_eq_append_getElem hlt]
    intro c hc
    rcases List.mem_append.1 hc with hc | hc
    · exact ih (fun j hj hj2 => h2 j (by omega) hj2) (by omega) c hc
    · rw [List.mem_singleton.1 hc]
      exact h2 k (by omega) hlt2
/-- the iterator's block is written -/
theorem iter_below {w0 w : World} (g : Nat) (o : Obj) (B : Nat) (h : Below B w0 w) (hg : B ≤ g) : Below B w0 { w with heap := w.heap.setIfInBounds g o } := by
  refine ⟨h.os, h.tape, h.output, by simpa using h.size, fun k hk => ?_⟩
  rw [← h.block k hk]
  exact Array.getElem?_setIfInBounds_ne (by omega)
/-- what the step of a range over a string does to the row that has been gone over -/
theorem row_step (t : Int → Bool) (p : UInt8 → Bool) (hi : Bool) (hs : Kin t p hi) (s : ByteArray) (pos : Nat) (hp : pos < s.size) (h : ∀ c ∈ s.data.toList.take pos, p c = true) :
    (t ((Utf8.decode s pos).1 : Nat) = false → rowL p s.data.toList = pos) ∧ (t ((Utf8.decode s pos).1 : Nat) = true → pos + (Utf8.decode s pos).2 ≤ s.size ∧ 1 ≤ (Utf8.decode s pos).2 ∧ ∀ c ∈ s.data.toList.take (pos + (Utf8.decode s pos).2), p c = true) := by
  by_cases ha : (s[pos]'hp).toNat < 128
  · rw [decode_ascii s pos hp ha, hs.low _ ha]
    refine ⟨fun e => rowL_at p _ pos h _ _ (get_list s pos hp) e, fun e => ⟨hp, Nat.le_refl _, take_more p s pos 1 h (fun j hj hj2 => ?_) hp⟩⟩
    have : j = 0 := by omega
    subst this; exact e
  · have ha' : 128 ≤ (s[pos]'hp).toNat := by omega
    obtain ⟨d1, d2⟩ := decode_high s pos hp ha'
    obtain ⟨e1, e2⟩ := decode_wide s pos hp ha'
    rw [hs.wide _ (by omega)]
    refine ⟨fun e => rowL_at p _ pos h _ _ (get_list s pos hp) (by rw [hs.bytes _ ha']; exact e), fun e => ⟨e1, d2, take_more p s pos _ h (fun j hj hj2 => ?_) e1⟩⟩
    rw [hs.bytes _ (e2 j hj hj2)]; exact e

set_option maxRecDepth 100000 in
theorem row_letter (t : Int → Bool) (p : UInt8 → Bool) (hi : Bool) (hs : Hid (Kin t p hi)) (s : ByteArray) (w : World)
    (hf : Hid (∀ (n : Int) (w : World), Calls Tryz.prog 122 #[.int .i32 n] w fun e w' => e = .returned (.bool (t n)) ∧ Below w.heap.size w w')) :
    Calls Tryz.prog 118 #[.string s, .func (.func 122) #[] #[]] w fun e w' => e = .returned (.int .i64 (rowL p s.data.toList : Nat)) ∧ Below w.heap.size w w' := by
  have h0 : (w.iter s 0).heap[w.heap.size]? = some (.stringIter s 0) := w.iter_heap s 0
  have hb0 : Below w.heap.size w (w.iter s 0) := (Below.refl _ _).alloc (Nat.le_refl _) _
  go_enter Tryz.func118, Tryz.ntmps118
  go_wp2
  go_loopw [5] (fun _ wr => ∃ pos, wr.heap[w.heap.size]? = some (.stringIter s pos) ∧ pos ≤ s.size ∧ (∀ c ∈ s.data.toList.take pos, p c = true) ∧ Below w.heap.size w wr) (fun _ wr => s.size - wr.iterPos w.heap.size)
  case atStart => exact ⟨0, h0, Nat.zero_le _, by simp, hb0⟩
  case round =>
    obtain ⟨pos, hg, hps, hall, hB⟩ := hrel
    clear h0 hb0
    have HG := Lib.hid hg
    have HALL := Lib.hid hall
    have HB := Lib.hid hB
    have hip : wr.iterPos w.heap.size = pos := by simp [World.iterPos, hg]
    have HIP := Lib.hid hip
    clear hg hall hB hip
    by_cases hp : pos < s.size
    · have hnx : ∀ ty, (Instr.next (.pointer (some ⟨w.heap.size, 0, none⟩)) true ty).run Tryz.prog wr = _ := fun ty => run_next_at_ wr w.heap.size s pos ty HG.out hp
      have st := row_step t p hi hs.out s pos hp HALL.out
      have h1 : ({ wr with heap := wr.heap.setIfInBounds w.heap.size (.stringIter s (pos + (Utf8.decode s pos).2)) } : World).heap[w.heap.size]? = some (.stringIter s (pos + (Utf8.decode s pos).2)) := by
        have hlt : w.heap.size < wr.heap.size := (Array.getElem?_eq_some_iff.1 HG.out).1
        simp [hlt]
      have hB1 := iter_below w.heap.size (.stringIter s (pos + (Utf8.decode s pos).2)) w.heap.size HB.out (Nat.le_refl _)
      generalize ({ wr with heap := wr.heap.setIfInBounds w.heap.size (.stringIter s (pos + (Utf8.decode s pos).2)) } : World) = w1 at *
      generalize (Utf8.decode s pos).1 = rn at *
      generalize (Utf8.decode s pos).2 = wd at *
      obtain ⟨b, hb⟩ : ∃ b, t (rn : Nat) = b := ⟨_, rfl⟩
      rw [hb] at st
      have F1 := hf.out (rn : Nat)
      rw [hb] at F1
      have HF1 := Lib.hid F1
      have ST := Lib.hid st
      have H1 := Lib.hid h1
      have HB1 := Lib.hid hB1
      clear F1 st hb h1 hB1
      cases b with
      | false =>
        have HR := Lib.hid (ST.out.1 rfl)
        clear ST
        go_wp2_with (go_at_call 122; refine (HF1.out _).mono ?_; rintro e w2 ⟨rfl, hb2⟩)
        go_ret
        exact ⟨by rw [HR.out]; rfl, HB1.out.trans (hb2.mono HB1.out.size)⟩
      | true =>
        obtain ⟨s1, s2, s3⟩ := ST.out.2 rfl
        go_wp2_with (go_at_call 122; refine (HF1.out _).mono ?_; rintro e w2 ⟨rfl, hb2⟩)
        go_roundw
        case rel => exact ⟨pos + wd, (hb2.block _ (Array.getElem?_eq_some_iff.1 H1.out).1).trans H1.out, s1, s3, HB1.out.trans (hb2.mono HB1.out.size)⟩
        case measure =>
          have e2 : w2.iterPos w.heap.size = pos + wd := by simp [World.iterPos, (hb2.block _ (Array.getElem?_eq_some_iff.1 H1.out).1).trans H1.out]
          rw [HIP.out, e2]; omega
    · have hnx : ∀ ty, (Instr.next (.pointer (some ⟨w.heap.size, 0, none⟩)) true ty).run Tryz.prog wr = _ := fun ty => run_next_over wr w.heap.size s pos ty HG.out hp
      go_wp2
      go_ret
      refine ⟨?_, HB.out⟩
      rw [rowL_all p _ pos HALL.out (by rw [← Lib.size_eq]; omega), ← Lib.size_eq]; rfl
set_option maxRecDepth 100000 in
theorem row_word (t : Int → Bool) (p : UInt8 → Bool) (hi : Bool) (hs : Hid (Kin t p hi)) (s : ByteArray) (w : World)
    (hf : Hid (∀ (n : Int) (w : World), Calls Tryz.prog 123 #[.int .i32 n] w fun e w' => e = .returned (.bool (t n)) ∧ Below w.heap.size w w')) :
    Calls Tryz.prog 118 #[.string s, .func (.func 123) #[] #[]] w fun e w' => e = .returned (.int .i64 (rowL p s.data.toList : Nat)) ∧ Below w.heap.size w w' := by
  have h0 : (w.iter s 0).heap[w.heap.size]? = some (.stringIter s 0) := w.iter_heap s 0
  have hb0 : Below w.heap.size w (w.iter s 0) := (Below.refl _ _).alloc (Nat.le_refl _) _
  go_enter Tryz.func118, Tryz.ntmps118
  go_wp2
  go_loopw [5] (fun _ wr => ∃ pos, wr.heap[w.heap.size]? = some (.stringIter s pos) ∧ pos ≤ s.size ∧ (∀ c ∈ s.data.toList.take pos, p c = true) ∧ Below w.heap.size w wr) (fun _ wr => s.size - wr.iterPos w.heap.size)
  case atStart => exact ⟨0, h0, Nat.zero_le _, by simp, hb0⟩
  case round =>
    obtain ⟨pos, hg, hps, hall, hB⟩ := hrel
    clear h0 hb0
    have HG := Lib.hid hg
    have HALL := Lib.hid hall
    have HB := Lib.hid hB
    have hip : wr.iterPos w.heap.size = pos := by simp [World.iterPos, hg]
    have HIP := Lib.hid hip
    clear hg hall hB hip
    by_cases hp : pos < s.size
    · have hnx : ∀ ty, (Instr.next (.pointer (some ⟨w.heap.size, 0, none⟩)) true ty).run Tryz.prog wr = _ := fun ty => run_next_at_ wr w.heap.size s pos ty HG.out hp
      have st := row_step t p hi hs.out s pos hp HALL.out
      have h1 : ({ wr with heap := wr.heap.setIfInBounds w.heap.size (.stringIter s (pos + (Utf8.decode s pos).2)) } : World).heap[w.heap.size]? = some (.stringIter s (pos + (Utf8.decode s pos).2)) := by
        have hlt : w.heap.size < wr.heap.size := (Array.getElem?_eq_some_iff.1 HG.out).1
        simp [hlt]
      have hB1 := iter_below w.heap.size (.stringIter s (pos + (Utf8.decode s pos).2)) w.heap.size HB.out (Nat.le_refl _)
      generalize ({ wr with heap := wr.heap.setIfInBounds w.heap.size (.stringIter s (pos + (Utf8.decode s pos).2)) } : World) = w1 at *
      generalize (Utf8.decode s pos).1 = rn at *
      generalize (Utf8.decode s pos).2 = wd at *
      obtain ⟨b, hb⟩ : ∃ b, t (rn : Nat) = b := ⟨_, rfl⟩
      rw [hb] at st
      have F1 := hf.out (rn : Nat)
      rw [hb] at F1
      have HF1 := Lib.hid F1
      have ST := Lib.hid st
      have H1 := Lib.hid h1
      have HB1 := Lib.hid hB1
      clear F1 st hb h1 hB1
      cases b with
      | false =>
        have HR := Lib.hid (ST.out.1 rfl)
        clear ST
        go_wp2_with (go_at_call 123; refine (HF1.out _).mono ?_; rintro e w2 ⟨rfl, hb2⟩)
        go_ret
        exact ⟨by rw [HR.out]; rfl, HB1.out.trans (hb2.mono HB1.out.size)⟩
      | true =>
        obtain ⟨s1, s2, s3⟩ := ST.out.2 rfl
        go_wp2_with (go_at_call 123; refine (HF1.out _).mono ?_; rintro e w2 ⟨rfl, hb2⟩)
        go_roundw
        case rel => exact ⟨pos + wd, (hb2.block _ (Array.getElem?_eq_some_iff.1 H1.out).1).trans H1.out, s1, s3, HB1.out.trans (hb2.mono HB1.out.size)⟩
        case measure =>
          have e2 : w2.iterPos w.heap.size = pos + wd := by simp [World.iterPos, (hb2.block _ (Array.getElem?_eq_some_iff.1 H1.out).1).trans H1.out]
          rw [HIP.out, e2]; omega
    · have hnx : ∀ ty, (Instr.next (.pointer (some ⟨w.heap.size, 0, none⟩)) true ty).run Tryz.prog wr = _ := fun ty => run_next_over wr w.heap.size s pos ty HG.out hp
      go_wp2
      go_ret
      refine ⟨?_, HB.out⟩
      rw [rowL_all p _ pos HALL.out (by rw [← Lib.size_eq]; omega), ← Lib.size_eq]; rfl
set_option maxRecDepth 100000 in
theorem row_digit (t : Int → Bool) (p : UInt8 → Bool) (hi : Bool) (hs : Hid (Kin t p hi)) (s : ByteArray) (w : World)
    (hf : Hid (∀ (n : Int) (w : World), Calls Tryz.prog 127 #[.int .i32 n] w fun e w' => e = .returned (.bool (t n)) ∧ Below w.heap.size w w')) :
    Calls Tryz.prog 118 #[.string s, .func (.func 127) #[] #[]] w fun e w' => e = .returned (.int .i64 (rowL p s.data.toList : Nat)) ∧ Below w.heap.size w w' := by
  have h0 : (w.iter s 0).heap[w.heap.size]? = some (.stringIter s 0) := w.iter_heap s 0
  have hb0 : Below w.heap.size w (w.iter s 0) := (Below.refl _ _).alloc (Nat.le_refl _) _
  go_enter Tryz.func118, Tryz.ntmps118
  go_wp2
  go_loopw [5] (fun _ wr => ∃ pos, wr.heap[w.heap.size]? = some (.stringIter s pos) ∧ pos ≤ s.size ∧ (∀ c ∈ s.data.toList.take pos, p c = true) ∧ Below w.heap.size w wr) (fun _ wr => s.size - wr.iterPos w.heap.size)
  case atStart => exact ⟨0, h0, Nat.zero_le _, by simp, hb0⟩
  case round =>
    obtain ⟨pos, hg, hps, hall, hB⟩ := hrel
    clear h0 hb0
    have HG := Lib.hid hg
    have HALL := Lib.hid hall
    have HB := Lib.hid hB
    have hip : wr.iterPos w.heap.size = pos := by simp [World.iterPos, hg]
    have HIP := Lib.hid hip
    clear hg hall hB hip
    by_cases hp : pos < s.size
    · have hnx : ∀ ty, (Instr.next (.pointer (some ⟨w.heap.size, 0, none⟩)) true ty).run Tryz.prog wr = _ := fun ty => run_next_at_ wr w.heap.size s pos ty HG.out hp
      have st := row_step t p hi hs.out s pos hp HALL.out
      have h1 : ({ wr with heap := wr.heap.setIfInBounds w.heap.size (.stringIter s (pos + (Utf8.decode s pos).2)) } : World).heap[w.heap.size]? = some (.stringIter s (pos + (Utf8.decode s pos).2)) := by
        have hlt : w.heap.size < wr.heap.size := (Array.getElem?_eq_some_iff.1 HG.out).1
        simp [hlt]
      have hB1 := iter_below w.heap.size (.stringIter s (pos + (Utf8.decode s pos).2)) w.heap.size HB.out (Nat.le_refl _)
      generalize ({ wr with heap := wr.heap.setIfInBounds w.heap.size (.stringIter s (pos + (Utf8.decode s pos).2)) } : World) = w1 at *
      generalize (Utf8.decode s pos).1 = rn at *
      generalize (Utf8.decode s pos).2 = wd at *
      obtain ⟨b, hb⟩ : ∃ b, t (rn : Nat) = b := ⟨_, rfl⟩
      rw [hb] at st
      have F1 := hf.out (rn : Nat)
      rw [hb] at F1
      have HF1 := Lib.hid F1
      have ST := Lib.hid st
      have H1 := Lib.hid h1
      have HB1 := Lib.hid hB1
      clear F1 st hb h1 hB1
      cases b with
      | false =>
        have HR := Lib.hid (ST.out.1 rfl)
        clear ST
        go_wp2_with (go_at_call 127; refine (HF1.out _).mono ?_; rintro e w2 ⟨rfl, hb2⟩)
        go_ret
        exact ⟨by rw [HR.out]; rfl, HB1.out.trans (hb2.mono HB1.out.size)⟩
      | true =>
        obtain ⟨s1, s2, s3⟩ := ST.out.2 rfl
        go_wp2_with (go_at_call 127; refine (HF1.out _).mono ?_; rintro e w2 ⟨rfl, hb2⟩)
        go_roundw
        case rel => exact ⟨pos + wd, (hb2.block _ (Array.getElem?_eq_some_iff.1 H1.out).1).trans H1.out, s1, s3, HB1.out.trans (hb2.mono HB1.out.size)⟩
        case measure =>
          have e2 : w2.iterPos w.heap.size = pos + wd := by simp [World.iterPos, (hb2.block _ (Array.getElem?_eq_some_iff.1 H1.out).1).trans H1.out]
          rw [HIP.out, e2]; omega
    · have hnx : ∀ ty, (Instr.next (.pointer (some ⟨w.heap.size, 0, none⟩)) true ty).run Tryz.prog wr = _ := fun ty => run_next_over wr w.heap.size s pos ty HG.out hp
      go_wp2
      go_ret
      refine ⟨?_, HB.out⟩
      rw [rowL_all p _ pos HALL.out (by rw [← Lib.size_eq]; omega), ← Lib.size_eq]; rfl
set_option maxRecDepth 100000 in
theorem row_num (t : Int → Bool) (p : UInt8 → Bool) (hi : Bool) (hs : Hid (Kin t p hi)) (s : ByteArray) (w : World)
    (hf : Hid (∀ (n : Int) (w : World), Calls Tryz.prog 128 #[.int .i32 n] w fun e w' => e = .returned (.bool (t n)) ∧ Below w.heap.size w w')) :
    Calls Tryz.prog 118 #[.string s, .func (.func 128) #[] #[]] w fun e w' => e = .returned (.int .i64 (rowL p s.data.toList : Nat)) ∧ Below w.heap.size w w' := by
  have h0 : (w.iter s 0).heap[w.heap.size]? = some (.stringIter s 0) := w.iter_heap s 0
  have hb0 : Below w.heap.size w (w.iter s 0) := (Below.refl _ _).alloc (Nat.le_refl _) _
  go_enter Tryz.func118, Tryz.ntmps118
  go_wp2
  go_loopw [5] (fun _ wr => ∃ pos, wr.heap[w.heap.size]? = some (.stringIter s pos) ∧ pos ≤ s.size ∧ (∀ c ∈ s.data.toList.take pos, p c = true) ∧ Below w.heap.size w wr) (fun _ wr => s.size - wr.iterPos w.heap.size)
  case atStart => exact ⟨0, h0, Nat.zero_le _, by simp, hb0⟩
  case round =>
    obtain ⟨pos, hg, hps, hall, hB⟩ := hrel
    clear h0 hb0
    have HG := Lib.hid hg
    have HALL := Lib.hid hall
    have HB := Lib.hid hB
    have hip : wr.iterPos w.heap.size = pos := by simp [World.iterPos, hg]
    have HIP := Lib.hid hip
    clear hg hall hB hip
    by_cases hp : pos < s.size
    · have hnx : ∀ ty, (Instr.next (.pointer (some ⟨w.heap.size, 0, none⟩)) true ty).run Tryz.prog wr = _ := fun ty => run_next_at_ wr w.heap.size s pos ty HG.out hp
      have st := row_step t p hi hs.out s pos hp HALL.out
      have h1 : ({ wr with heap := wr.heap.setIfInBounds w.heap.size (.stringIter s (pos + (Utf8.decode s pos).2)) } : World).heap[w.heap.size]? = some (.stringIter s (pos + (Utf8.decode s pos).2)) := by
        have hlt : w.heap.size < wr.heap.size := (Array.getElem?_eq_some_iff.1 HG.out).1
        simp [hlt]
      have hB1 := iter_below w.heap.size (.stringIter s (pos + (Utf8.decode s pos).2)) w.heap.size HB.out (Nat.le_refl _)
      generalize ({ wr with heap := wr.heap.setIfInBounds w.heap.size (.stringIter s (pos + (Utf8.decode s pos).2)) } : World) = w1 at *
      generalize (Utf8.decode s pos).1 = rn at *
      generalize (Utf8.decode s pos).2 = wd at *
      obtain ⟨b, hb⟩ : ∃ b, t (rn : Nat) = b := ⟨_, rfl⟩
      rw [hb] at st
      have F1 := hf.out (rn : Nat)
      rw [hb] at F1
      have HF1 := Lib.hid F1
      have ST := Lib.hid st
      have H1 := Lib.hid h1
      have HB1 := Lib.hid hB1
      clear F1 st hb h1 hB1
      cases b with
      | false =>
        have HR := Lib.hid (ST.out.1 rfl)
        clear ST
        go_wp2_with (go_at_call 128; refine (HF1.out _).mono ?_; rintro e w2 ⟨rfl, hb2⟩)
        go_ret
        exact ⟨by rw [HR.out]; rfl, HB1.out.trans (hb2.mono HB1.out.size)⟩
      | true =>
        obtain ⟨s1, s2, s3⟩ := ST.out.2 rfl
        go_wp2_with (go_at_call 128; refine (HF1.out _).mono ?_; rintro e w2 ⟨rfl, hb2⟩)
        go_roundw
        case rel => exact ⟨pos + wd, (hb2.block _ (Array.getElem?_eq_some_iff.1 H1.out).1).trans H1.out, s1, s3, HB1.out.trans (hb2.mono HB1.out.size)⟩
        case measure =>
          have e2 : w2.iterPos w.heap.size = pos + wd := by simp [World.iterPos, (hb2.block _ (Array.getElem?_eq_some_iff.1 H1.out).1).trans H1.out]
          rw [HIP.out, e2]; omega
    · have hnx : ∀ ty, (Instr.next (.pointer (some ⟨w.heap.size, 0, none⟩)) true ty).run Tryz.prog wr = _ := fun ty => run_next_over wr w.heap.size s pos ty HG.out hp
      go_wp2
      go_ret
      refine ⟨?_, HB.out⟩
      rw [rowL_all p _ pos HALL.out (by rw [← Lib.size_eq]; omega), ← Lib.size_eq]; rfl
set_option maxRecDepth 100000 in
theorem row_tag (t : Int → Bool) (p : UInt8 → Bool) (hi : Bool) (hs : Hid (Kin t p hi)) (s : ByteArray) (w : World)
    (hf : Hid (∀ (n : Int) (w : World), Calls Tryz.prog 194 #[.int .i32 n] w fun e w' => e = .returned (.bool (t n)) ∧ Below w.heap.size w w')) :
    Calls Tryz.prog 118 #[.string s, .func (.func 194) #[] #[]] w fun e w' => e = .returned (.int .i64 (rowL p s.data.toList : Nat)) ∧ Below w.heap.size w w' := by
  have h0 : (w.iter s 0).heap[w.heap.size]? = some (.stringIter s 0) := w.iter_heap s 0
  have hb0 : Below w.heap.size w (w.iter s 0) := (Below.refl _ _).alloc (Nat.le_refl _) _
  go_enter Tryz.func118, Tryz.ntmps118
  go_wp2
  go_loopw [5] (fun _ wr => ∃ pos, wr.heap[w.heap.size]? = some (.stringIter s pos) ∧ pos ≤ s.size ∧ (∀ c ∈ s.data.toList.take pos, p c = true) ∧ Below w.heap.size w wr) (fun _ wr => s.size - wr.iterPos w.heap.size)
  case atStart => exact ⟨0, h0, Nat.zero_le _, by simp, hb0⟩
  case round =>
    obtain ⟨pos, hg, hps, hall, hB⟩ := hrel
    clear h0 hb0
    have HG := Lib.hid hg
    have HALL := Lib.hid hall
    have HB := Lib.hid hB
    have hip : wr.iterPos w.heap.size = pos := by simp [World.iterPos, hg]
    have HIP := Lib.hid hip
    clear hg hall hB hip
    by_cases hp : pos < s.size
    · have hnx : ∀ ty, (Instr.next (.pointer (some ⟨w.heap.size, 0, none⟩)) true ty).run Tryz.prog wr = _ := fun ty => run_next_at_ wr w.heap.size s pos ty HG.out hp
      have st := row_step t p hi hs.out s pos hp HALL.out
      have h1 : ({ wr with heap := wr.heap.setIfInBounds w.heap.size (.stringIter s (pos + (Utf8.decode s pos).2)) } : World).heap[w.heap.size]? = some (.stringIter s (pos + (Utf8.decode s pos).2)) := by
        have hlt : w.heap.size < wr.heap.size := (Array.getElem?_eq_some_iff.1 HG.out).1
        simp [hlt]
      have hB1 := iter_below w.heap.size (.stringIter s (pos + (Utf8.decode s pos).2)) w.heap.size HB.out (Nat.le_refl _)
      generalize ({ wr with heap := wr.heap.setIfInBounds w.heap.size (.stringIter s (pos + (Utf8.decode s pos).2)) } : World) = w1 at *
      generalize (Utf8.decode s pos).1 = rn at *
      generalize (Utf8.decode s pos).2 = wd at *
      obtain ⟨b, hb⟩ : ∃ b, t (rn : Nat) = b := ⟨_, rfl⟩
      rw [hb] at st
      have F1 := hf.out (rn : Nat)
      rw [hb] at F1
      have HF1 := Lib.hid F1
      have ST := Lib.hid st
      have H1 := Lib.hid h1
      have HB1 := Lib.hid hB1
      clear F1 st hb h1 hB1
      cases b with
      | false =>
        have HR := Lib.hid (ST.out.1 rfl)
        clear ST
        go_wp2_with (go_at_call 194; refine (HF1.out _).mono ?_; rintro e w2 ⟨rfl, hb2⟩)
        go_ret
        exact ⟨by rw [HR.out]; rfl, HB1.out.trans (hb2.mono HB1.out.size)⟩
      | true =>
        obtain ⟨s1, s2, s3⟩ := ST.out.2 rfl
        go_wp2_with (go_at_call 194; refine (HF1.out _).mono ?_; rintro e w2 ⟨rfl, hb2⟩)
        go_roundw
        case rel => exact ⟨pos + wd, (hb2.block _ (Array.getElem?_eq_some_iff.1 H1.out).1).trans H1.out, s1, s3, HB1.out.trans (hb2.mono HB1.out.size)⟩
        case measure =>
          have e2 : w2.iterPos w.heap.size = pos + wd := by simp [World.iterPos, (hb2.block _ (Array.getElem?_eq_some_iff.1 H1.out).1).trans H1.out]
          rw [HIP.out, e2]; omega
    · have hnx : ∀ ty, (Instr.next (.pointer (some ⟨w.heap.size, 0, none⟩)) true ty).run Tryz.prog wr = _ := fun ty => run_next_over wr w.heap.size s pos ty HG.out hp
      go_wp2
      go_ret
      refine ⟨?_, HB.out⟩
      rw [rowL_all p _ pos HALL.out (by rw [← Lib.size_eq]; omega), ← Lib.size_eq]; rfl
set_option maxRecDepth 100000 in
theorem row_blank (t : Int → Bool) (p : UInt8 → Bool) (hi : Bool) (hs : Hid (Kin t p hi)) (s : ByteArray) (w : World)
    (hf : Hid (∀ (n : Int) (w : World), Calls Tryz.prog 119 #[.int .i32 n] w fun e w' => e = .returned (.bool (t n)) ∧ Below w.heap.size w w')) :
    Calls Tryz.prog 118 #[.string s, .func (.func 119) #[] #[]] w fun e w' => e = .returned (.int .i64 (rowL p s.data.toList : Nat)) ∧ Below w.heap.size w w' := by
  have h0 : (w.iter s 0).heap[w.heap.size]? = some (.stringIter s 0) := w.iter_heap s 0
  have hb0 : Below w.heap.size w (w.iter s 0) := (Below.refl _ _).alloc (Nat.le_refl _) _
  go_enter Tryz.func118, Tryz.ntmps118
  go_wp2
  go_loopw [5] (fun _ wr => ∃ pos, wr.heap[w.heap.size]? = some (.stringIter s pos) ∧ pos ≤ s.size ∧ (∀ c ∈ s.data.toList.take pos, p c = true) ∧ Below w.heap.size w wr) (fun _ wr => s.size - wr.iterPos w.heap.size)
  case atStart => exact ⟨0, h0, Nat.zero_le _, by simp, hb0⟩
  case round =>
    obtain ⟨pos, hg, hps, hall, hB⟩ := hrel
    clear h0 hb0
    have HG := Lib.hid hg
    have HALL := Lib.hid hall
    have HB := Lib.hid hB
    have hip : wr.iterPos w.heap.size = pos := by simp [World.iterPos, hg]
    have HIP := Lib.hid hip
    clear hg hall hB hip
    by_cases hp : pos < s.size
    · have hnx : ∀ ty, (Instr.next (.pointer (some ⟨w.heap.size, 0, none⟩)) true ty).run Tryz.prog wr = _ := fun ty => run_next_at_ wr w.heap.size s pos ty HG.out hp
      have st := row_step t p hi hs.out s pos hp HALL.out
      have h1 : ({ wr with heap := wr.heap.setIfInBounds w.heap.size (.stringIter s (pos + (Utf8.decode s pos).2)) } : World).heap[w.heap.size]? = some (.stringIter s (pos + (Utf8.decode s pos).2)) := by
        have hlt : w.heap.size < wr.heap.size := (Array.getElem?_eq_some_iff.1 HG.out).1
        simp [hlt]
      have hB1 := iter_below w.heap.size (.stringIter s (pos + (Utf8.decode s pos).2)) w.heap.size HB.out (Nat.le_refl _)
      generalize ({ wr with heap := wr.heap.setIfInBounds w.heap.size (.stringIter s (pos + (Utf8.decode s pos).2)) } : World) = w1 at *
      generalize (Utf8.decode s pos).1 = rn at *
      generalize (Utf8.decode s pos).2 = wd at *
      obtain ⟨b, hb⟩ : ∃ b, t (rn : Nat) = b := ⟨_, rfl⟩
      rw [hb] at st
      have F1 := hf.out (rn : Nat)
      rw [hb] at F1
      have HF1 := Lib.hid F1
      have ST := Lib.hid st
      have H1 := Lib.hid h1
      have HB1 := Lib.hid hB1
      clear F1 st hb h1 hB1
      cases b with
      | false =>
        have HR := Lib.hid (ST.out.1 rfl)
        clear ST
        go_wp2_with (go_at_call 119; refine (HF1.out _).mono ?_; rintro e w2 ⟨rfl, hb2⟩)
        go_ret
        exact ⟨by rw [HR.out]; rfl, HB1.out.trans (hb2.mono HB1.out.size)⟩
      | true =>
        obtain ⟨s1, s2, s3⟩ := ST.out.2 rfl
        go_wp2_with (go_at_call 119; refine (HF1.out _).mono ?_; rintro e w2 ⟨rfl, hb2⟩)
        go_roundw
        case rel => exact ⟨pos + wd, (hb2.block _ (Array.getElem?_eq_some_iff.1 H1.out).1).trans H1.out, s1, s3, HB1.out.trans (hb2.mono HB1.out.size)⟩
        case measure =>
          have e2 : w2.iterPos w.heap.size = pos + wd := by simp [World.iterPos, (hb2.block _ (Array.getElem?_eq_some_iff.1 H1.out).1).trans H1.out]
          rw [HIP.out, e2]; omega
    · have hnx : ∀ ty, (Instr.next (.pointer (some ⟨w.heap.size, 0, none⟩)) true ty).run Tryz.prog wr = _ := fun ty => run_next_over wr w.heap.size s pos ty HG.out hp
      go_wp2
      go_ret
      refine ⟨?_, HB.out⟩
      rw [rowL_all p _ pos HALL.out (by rw [← Lib.size_eq]; omega), ← Lib.size_eq]; rfl

-- the tests of bytes
def letB (c : UInt8) : Bool := letN (c.toNat : Int)
def digB (c : UInt8) : Bool := digN (c.toNat : Int)
def wordB (c : UInt8) : Bool := wordN (c.toNat : Int)
def tagB (c : UInt8) : Bool := tagN (c.toNat : Int)
def numB (c : UInt8) : Bool := numN (c.toNat : Int)
theorem let_wide (n : Int) (h : 128 ≤ n) : letN n = true := by unfold letN; exact decide_eq_true (by omega)
theorem dig_wide (n : Int) (h : 128 ≤ n) : digN n = false := by unfold digN; exact decide_eq_false (by omega)
theorem kin_let : Kin letN letB true := ⟨fun _ _ => rfl, let_wide, fun c h => let_wide _ (by omega)⟩
theorem kin_dig : Kin digN digB false := ⟨fun _ _ => rfl, dig_wide, fun c h => dig_wide _ (by omega)⟩
theorem kin_word : Kin wordN wordB true := ⟨fun _ _ => rfl, fun n h => by unfold wordN; rw [let_wide n h]; rfl, fun c h => by unfold wordB wordN; rw [let_wide _ (by omega)]; rfl⟩
theorem kin_tag : Kin tagN tagB true := ⟨fun _ _ => rfl, fun n h => by unfold tagN; rw [let_wide n h]; rfl, fun c h => by unfold tagB tagN; rw [let_wide _ (by omega)]; rfl⟩
theorem num_wide (n : Int) (h : 128 ≤ n) : numN n = false := by unfold numN; rw [dig_wide n h, beq_eq_false_iff_ne.2 (by omega)]; rfl
theorem kin_num : Kin numN numB false := ⟨fun _ _ => rfl, num_wide, fun c h => num_wide _ (by omega)⟩
end Go.Proofs.YtjloookjlnmgdaaGreatDoor
namespace Go.Proofs.YtjloookjlnmgdaaGreatDoor
set_option linter.unusedSimpArgs false
open Go.ChangeShapes Go.WideShapes Go.ChangeAt Go.RowKit
set_option maxRecDepth 100000
set_option linter.unusedVariables false

theorem slidx_any (s : ByteArray) (c : Int) (w : World) :
    Calls Tryz.prog 165 #[.string s, .int .u8 c] w fun e w' => e = .returned (.int .i64 (Lib.indexByte s.data.toList c.toNat.toUInt8)) ∧ w' = w := by
  go_enter Tryz.func165, Tryz.ntmps165
  go_wp2
  rw [run_callFunc_extern Tryz.func195 (by kernel_rfl) (by kernel_rfl) (by kernel_rfl) (e := Extern.BytealgIndexByte.indexByte) (by kernel_rfl), Lib.run_indexByteString]
  simp only [Result.andThen]
  rw [Oper.upon_value]
  go_wp2
  go_ret
  exact ⟨rfl, rfl⟩

theorem sidx_any (s : ByteArray) (c : Int) (w : World) :
    Calls Tryz.prog 130 #[.string s, .int .u8 c] w fun e w' => e = .returned (.int .i64 (Lib.indexByte s.data.toList c.toNat.toUInt8)) ∧ w' = w := by
  have h := slidx_any s c
  go_enter Tryz.func130, Tryz.ntmps130
  go_wp2_with (go_at_call 165; refine (h _).mono ?_; rintro e w' ⟨rfl, rfl⟩)
  go_ret
  exact ⟨rfl, rfl⟩

end Go.Proofs.YtjloookjlnmgdaaGreatDoor
namespace Go.Proofs.YtjloookjlnmgdaaGreatDoor
open Go.ChangeShapes Go.WideShapes Go.ChangeAt Go.RowKit
set_option maxRecDepth 100000
set_option linter.unusedVariables false
set_option linter.unusedSimpArgs false

def blkN (n : Int) : Bool := decide (n = 32 ∨ n = 9 ∨ n = 10 ∨ n = 12 ∨ n = 13)
abbrev five : ByteArray := ⟨#[32, 9, 10, 12, 13]⟩

theorem valid_any (n : Int) (w : World) : Calls Tryz.prog 217 #[.int .i32 n] w fun e w' => e = .returned (.bool (Utf8.valid n)) ∧ w' = w := by
  obtain ⟨b, hb⟩ : ∃ b, Utf8.valid n = b := ⟨_, rfl⟩
  rw [hb]
  have HB := Lib.hid hb
  clear hb
  go_enter Tryz.func217, Tryz.ntmps217
  go_wp2
  all_goals
    go_ret
    refine ⟨?_, rfl⟩
    rw [← HB.out]
    refine retb ?_
    unfold Utf8.valid
    rw [Bool.eq_iff_iff]
    simp
    try omega
set_option maxRecDepth 100000 in
theorem runes_low (n : Int) (h0 : 0 ≤ n) (h1 : n < 128) (w : World) : Calls Tryz.prog 192 #[.string five, .int .i32 n] w fun e w' => e = .returned (.int .i64 (Lib.indexByte five.data.toList n.toNat.toUInt8)) ∧ Below w.heap.size w w' := by
  have d0 : decide ((0 : Int) ≤ n) = true := decide_eq_true h0
  have d1 : decide (n < (128 : Int)) = true := decide_eq_true h1
  have HM := Lib.hid (show n % 256 = n by omega)
  clear h0 h1
  go_enter Tryz.func192, Tryz.ntmps192
  go_wp2_with (go_at_call 130; refine (sidx_any _ _ _).mono ?_; rintro e w1 ⟨rfl, hw⟩; obtain rfl := hw.symm)
  go_ret
  refine ⟨?_, Below.refl _ _⟩
  rw [HM.out]; rfl
set_option maxRecDepth 100000 in
theorem runes_bad (n : Int) (h0 : Utf8.valid n = false) (w : World) : Calls Tryz.prog 192 #[.string five, .int .i32 n] w fun e w' => e = .returned (.int .i64 (-1)) ∧ Below w.heap.size w w' := by
  have hv : Calls Tryz.prog 217 #[.int .i32 n] w fun e w' => e = .returned (.bool false) ∧ w' = w := by
    have := valid_any n w
    rwa [h0] at this
  have hr : ¬ (0 ≤ n ∧ n < 55296) := by
    intro h; unfold Utf8.valid at h0; simp at h0; omega
  have d1 : (n == 65533) = false := by
    rw [beq_eq_false_iff_ne]; intro e; subst e; revert h0; decide
  clear h0
  have HV := Lib.hid hv
  clear hv
  by_cases h : 0 ≤ n
  · have d0 : decide ((0 : Int) ≤ n) = true := decide_eq_true h
    have d2 : decide (n < (128 : Int)) = false := decide_eq_false (by omega)
    clear h hr
    go_enter Tryz.func192, Tryz.ntmps192
    go_wp2_with (go_at_call 217; refine HV.out.mono ?_; rintro e w1 ⟨rfl, hw⟩; obtain rfl := hw.symm)
    go_ret
    exact ⟨rfl, Below.refl _ _⟩
  · have d0 : decide ((0 : Int) ≤ n) = false := decide_eq_false h
    clear h hr
    go_enter Tryz.func192, Tryz.ntmps192
    go_wp2_with (go_at_call 217; refine HV.out.mono ?_; rintro e w1 ⟨rfl, hw⟩; obtain rfl := hw.symm)
    go_ret
    exact ⟨rfl, Below.refl _ _⟩
theorem five_low (j : Nat) (h : j < five.size) : (five[j]'h).toNat < 128 := by
  have h5 : j < 5 := h
  match j, h5 with
  | 0, _ => show (32 : UInt8).toNat < 128; decide
  | 1, _ => show (9 : UInt8).toNat < 128; decide
  | 2, _ => show (10 : UInt8).toNat < 128; decide
  | 3, _ => show (12 : UInt8).toNat < 128; decide
  | 4, _ => show (13 : UInt8).toNat < 128; decide
set_option maxRecDepth 100000 in
theorem runes_err (w : World) : Calls Tryz.prog 192 #[.string five, .int .i32 65533] w fun e w' => e = .returned (.int .i64 (-1)) ∧ Below w.heap.size w w' := by
  obtain ⟨s, hs⟩ : ∃ s, s = five := ⟨_, rfl⟩
  have hlow : ∀ (j : Nat) (h : j < s.size), (s[j]'h).toNat < 128 := by subst hs; exact five_low
  rw [← hs]
  clear hs
  have HL := Lib.hid hlow
  clear hlow
  have h0 : (w.iter s 0).heap[w.heap.size]? = some (.stringIter s 0) := w.iter_heap s 0
  have hb0 : Below w.heap.size w (w.iter s 0) := (Below.refl _ _).alloc (Nat.le_refl _) _
  go_enter Tryz.func192, Tryz.ntmps192
  go_wp2
  go_loopw [5] (fun _ wr => ∃ pos, wr.heap[w.heap.size]? = some (.stringIter s pos) ∧ Below w.heap.size w wr) (fun _ wr => s.size - wr.iterPos w.heap.size)
  case atStart => exact ⟨0, h0, hb0⟩
  case round =>
    obtain ⟨pos, hg, hB⟩ := hrel
    clear h0 hb0
    have HG := Lib.hid hg
    have HB := Lib.hid hB
    have HIP := Lib.hid (show wr.iterPos w.heap.size = pos by simp [World.iterPos, hg])
    clear hg hB
    by_cases hp : pos < s.size
    · have hnx : ∀ ty, (Instr.next (.pointer (some ⟨w.heap.size, 0, none⟩)) true ty).run Tryz.prog wr = _ := fun ty => run_next_at_ wr w.heap.size s pos ty HG.out hp
      rw [decode_ascii s pos hp (HL.out pos hp)] at hnx
      have h1 : ({ wr with heap := wr.heap.setIfInBounds w.heap.size (.stringIter s (pos + 1)) } : World).heap[w.heap.size]? = some (.stringIter s (pos + 1)) := by
        have hlt : w.heap.size < wr.heap.size := (Array.getElem?_eq_some_iff.1 HG.out).1
        simp [hlt]
      have hB1 := iter_below w.heap.size (.stringIter s (pos + 1)) w.heap.size HB.out (Nat.le_refl _)
      have hne : (((s[pos]'hp).toNat : Int) == 65533) = false := by
        have := HL.out pos hp
        rw [beq_eq_false_iff_ne]; omega
      simp only at hnx
      generalize ({ wr with heap := wr.heap.setIfInBounds w.heap.size (.stringIter s (pos + 1)) } : World) = w1 at *
      generalize ((s[pos]'hp).toNat : Int) = rn at *
      have H1 := Lib.hid h1
      have HB1 := Lib.hid hB1
      clear h1 hB1
      go_wp2
      go_roundw
      case rel => exact ⟨pos + 1, H1.out, HB1.out⟩
      case measure =>
        have e2 : w1.iterPos w.heap.size = pos + 1 := by simp [World.iterPos, H1.out]
        rw [HIP.out, e2]; omega
    · have hnx : ∀ ty, (Instr.next (.pointer (some ⟨w.heap.size, 0, none⟩)) true ty).run Tryz.prog wr = _ := fun ty => run_next_over wr w.heap.size s pos ty HG.out hp
      go_wp2
      go_ret
      exact ⟨rfl, HB.out⟩
theorem below_drewN_ {B : Nat} {a w : World} (h : Below B a w) (n : Nat) : Below B a (w.drewN n) := ⟨h.os, h.tape, h.output, h.size, h.block⟩
theorem idx_none (l : Tx) (c : UInt8) (h : ∀ x ∈ l, x ≠ c) : Lib.indexByte l c = -1 := by
  induction l with
  | nil => rfl
  | cons x l ih =>
    have h1 := h x (by simp)
    have h2 := ih (fun y hy => h y (by simp [hy]))
    unfold Lib.indexByte
    rw [if_neg (by simpa using h1), h2]
    rfl
set_option maxHeartbeats 1000000 in
set_option maxRecDepth 100000 in
theorem runes_wide (n : Int) (hv : Utf8.valid n = true) (h128 : 128 ≤ n) (hne : n ≠ 65533) (w : World) : Calls Tryz.prog 192 #[.string five, .int .i32 n] w fun e w' => e = .returned (.int .i64 (-1)) ∧ Below w.heap.size w w' := by
  have hval : Calls Tryz.prog 217 #[.int .i32 n] w fun e w' => e = .returned (.bool true) ∧ w' = w := by
    have := valid_any n w
    rwa [hv] at this
  obtain ⟨z2, z4, zb⟩ := encode_facts n hv h128
  obtain ⟨L, hL⟩ : ∃ L, Utf8.encode n = L := ⟨_, rfl⟩
  obtain ⟨s, hs⟩ : ∃ s, s = five := ⟨_, rfl⟩
  have hlow : ∀ (j : Nat) (h : j < s.size), (s[j]'h).toNat < 128 := by subst hs; exact five_low
  have hsz : s.size = 5 := by rw [hs]; rfl
  have d0 : decide ((0 : Int) ≤ n) = true := decide_eq_true (by omega)
  have d2 : decide (n < (128 : Int)) = false := decide_eq_false (by omega)
  have d1 : (n == 65533) = false := by rw [beq_eq_false_iff_ne]; exact hne
  rw [← hs]
  rw [hL] at z2 z4 zb
  have HV := Lib.hid hval
  have HL := Lib.hid hlow
  have HZB := Lib.hid zb
  obtain ⟨m, hm⟩ : ∃ m, L.size = m + 1 := ⟨L.size - 1, by omega⟩
  have hm1 : 1 ≤ m := by omega
  have hm3 : m ≤ 3 := by omega
  have hLm : m < L.size := by omega
  have hsm : m < s.size := by omega
  have hb128 : 128 ≤ (L[m]'hLm).toNat := by
    have := zb (by omega)
    simpa [hm] using this
  have hs128 : (s[m]'hsm).toNat < 128 := hlow m hsm
  have hq : (((s[m]'hsm).toNat : Int) != ((L[m]'hLm).toNat : Int)) = true := by rw [bne, beq_eq_false_iff_ne.2 (by omega)]; rfl
  have hix : Hid (∀ a b, Lib.indexByte (s.extract a b).data.toList (((L[m]'hLm).toNat : Int).toNat.toUInt8) = -1) := Lib.hid (fun a b => idx_none _ _ (fun x hx e => by
    have hx2 : x ∈ s.data.toList := by
      have := List.mem_of_mem_drop (List.mem_of_mem_take (show x ∈ (s.data.toList.drop a).take (b - a) by simpa [List.extract_eq_take_drop] using hx))
      exact this
    obtain ⟨j, hj, rfl⟩ := List.getElem_of_mem hx2
    have hj2 : j < s.size := by rw [Lib.size_eq]; exact hj
    have := hlow j hj2
    have e2 : (s.data.toList[j]).toNat = (s[j]'hj2).toNat := rfl
    rw [e] at e2
    simp at e2
    omega))
  clear hs hlow hval zb hv h128 hne z2 z4
  have HSZ := Lib.hid hsz
  clear hsz
  go_enter Tryz.func192, Tryz.ntmps192
  go_wp2_with (go_at_call 217; refine HV.out.mono ?_; rintro e w1 ⟨rfl, hw⟩; obtain rfl := hw.symm)
  go_step3
  go_wp2
  have l0 : (0 : Int) ≤ (m : Int) := by omega
  have l1 : (m : Int) < (s.size : Int) := by omega
  have l2 : (m : Int) < (L.size : Int) := by omega
  have l4 : (m : Int) + 1 ≤ (s.size : Int) := by omega
  have l5 : m + 1 ≤ s.size := by omega
  have l6 : s.size ≤ 5 := by have := HSZ.out; omega
  have lw : IntKind.i64.wrap ((m : Int) + 1) = (m : Int) + 1 := IntWalk.i64_in _ (by omega)
  have HMM := Lib.hid hm
  clear hm hm1 hm3 hL
  go_loop [9] (fun i => i = .int .i64 m) (fun i => 0)
  case atStart => rfl
  case round =>
    subst hrel
    go_wp2
    go_step3
    go_wp2
    go_quiet (fail)
    go_wp2
    have l7 : (0:Int) ≤ (m : Int) + 1 := by omega
    have l8 : ((m : Int) + 1).toNat = m + 1 := by omega
    go_quiet (first | (go_at_call 130; exact (sidx_any _ _ _).mono (fun _ _ h => ⟨h.1, _, h.2⟩)))
    rw [hix.out]
    go_wp2
    simp (config := { zetaDelta := true }) only [Exit.noGoto_ret, Exit.inBlock, Exit.then]
    go_simp
    try rw [Exit.noGoto_ret]
    go_simp
    try rw [Exit.noGoto_ret]
    go_simp
    go_ret
    exact ⟨rfl, below_drewN_ (Below.refl _ _) _⟩
def fiveI (n : Int) : Int := if 0 ≤ n ∧ n < 128 then Lib.indexByte five.data.toList n.toNat.toUInt8 else -1
theorem runes_any (n : Int) (w : World) : Calls Tryz.prog 192 #[.string five, .int .i32 n] w fun e w' => e = .returned (.int .i64 (fiveI n)) ∧ Below w.heap.size w w' := by
  by_cases h : 0 ≤ n ∧ n < 128
  · rw [show fiveI n = _ from if_pos h]
    exact runes_low n h.1 h.2 w
  · rw [show fiveI n = _ from if_neg h]
    by_cases he : n = 65533
    · subst he; exact runes_err w
    · cases hv : Utf8.valid n with
      | false => exact runes_bad n hv w
      | true =>
        have h0 : 0 ≤ n := by unfold Utf8.valid at hv; simp at hv; omega
        exact runes_wide n hv (by omega) he w
def fiveB (n : Int) : Bool := decide (0 ≤ fiveI n)
theorem conr_any (n : Int) (w : World) : Calls Tryz.prog 160 #[.string five, .int .i32 n] w fun e w' => e = .returned (.bool (fiveB n)) ∧ Below w.heap.size w w' := by
  obtain ⟨i, hi⟩ : ∃ i, fiveI n = i := ⟨_, rfl⟩
  have hr := runes_any n w
  rw [hi] at hr
  have e1 : fiveB n = decide (0 ≤ i) := by unfold fiveB; rw [hi]
  rw [e1]
  have HR := Lib.hid hr
  clear hr hi e1
  go_enter Tryz.func160, Tryz.ntmps160
  go_wp2_with (go_at_call 192; refine HR.out.mono ?_; rintro e w1 ⟨rfl, hb⟩)
  go_ret
  exact ⟨rfl, hb⟩
theorem blank_any (n : Int) (w : World) : Calls Tryz.prog 119 #[.int .i32 n] w fun e w' => e = .returned (.bool (fiveB n)) ∧ Below w.heap.size w w' := by
  obtain ⟨b, hb⟩ : ∃ b, fiveB n = b := ⟨_, rfl⟩
  have hr := conr_any n w
  rw [hb] at *
  have HR := Lib.hid hr
  clear hr hb
  go_enter Tryz.func119, Tryz.ntmps119
  go_wp2_with (go_at_call 160; refine HR.out.mono ?_; rintro e w1 ⟨rfl, hb⟩)
  go_ret
  exact ⟨rfl, hb⟩
def fiveQ (c : UInt8) : Bool := fiveB (c.toNat : Int)
theorem five_wide (n : Int) (h : 128 ≤ n) : fiveB n = false := by unfold fiveB fiveI; rw [if_neg (by omega)]; rfl
theorem kin_blank : Kin fiveB fiveQ false := ⟨fun _ _ => rfl, five_wide, fun c h => five_wide _ (by omega)⟩
end Go.Proofs.YtjloookjlnmgdaaGreatDoor
namespace Go.Proofs.YtjloookjlnmgdaaGreatDoor
open Go.ChangeShapes Go.WideShapes Go.ChangeAt Go.RowKit
set_option maxRecDepth 100000
set_option linter.unusedVariables false
set_option linter.unusedSimpArgs false

abbrev pcV (k : Int) (t : ByteArray) (n : Int) : Value := .agg #[.int .i64 k, .string t, .int .i64 n]
theorem bcell {W w1 : World} (hb : Below W.heap.size W w1) : (∀ b o, b < W.heap.size → w1.cell? ⟨b, o, none⟩ = W.cell? ⟨b, o, none⟩) ∧ (∀ b o, b < W.heap.size → w1.frozen? ⟨b, o, none⟩ = W.frozen? ⟨b, o, none⟩) :=
  ⟨fun b o h => hb.cell (p := ⟨b, o, none⟩) h, fun b o h => hb.frozen (p := ⟨b, o, none⟩) h⟩
theorem clone_any (s : ByteArray) (w : World) (hs : s.size ≤ 281474976710656) :
    Calls Tryz.prog 48 #[.string s] w fun e w' => e = .returned (.string s) ∧ Below w.heap.size w w' := by
  have c := fun w => Tryz.stringslite_Clone s w (by omega)
  go_enter Tryz.func48, Tryz.ntmps48
  go_wp2_with (go_at_call 72; refine (c _).mono ?_; rintro e w' ⟨rfl, hb⟩)
  go_ret
  exact ⟨rfl, hb⟩
theorem weak_ {f : Nat} {t : Int → Bool} (h : ∀ (n : Int) (w : World), Calls Tryz.prog f #[.int .i32 n] w fun e w' => e = .returned (.bool (t n)) ∧ w' = w) :
    ∀ (n : Int) (w : World), Calls Tryz.prog f #[.int .i32 n] w fun e w' => e = .returned (.bool (t n)) ∧ Below w.heap.size w w' :=
  fun n w => (h n w).mono fun e w' hh => ⟨hh.1, by rw [hh.2]; exact Below.refl _ _⟩
theorem gap_any (s : ByteArray) (w : World) :
    Calls Tryz.prog 88 #[.string s] w fun e w' => e = .returned (pcV 0 ⟨#[]⟩ (rowL fiveQ s.data.toList : Nat)) ∧ Below w.heap.size w w' := by
  have hr := fun w => row_blank fiveB fiveQ false (Lib.hid kin_blank) s w (Lib.hid blank_any)
  obtain ⟨n, hn⟩ : ∃ n, rowL fiveQ s.data.toList = n := ⟨_, rfl⟩
  simp only [hn] at hr
  rw [hn]
  have HR := Lib.hid hr
  clear hr hn
  go_enter Tryz.func88, Tryz.ntmps88
  go_wp2_with (go_at_call 118; refine (HR.out _).mono ?_; rintro e w1 ⟨rfl, hb1⟩; obtain ⟨hcc, hff⟩ := bcell hb1)
  have hB : Below w.heap.size w w1 := ((Below.refl _ _).alloc (Nat.le_refl _) _).trans (hb1.mono (by simp))
  refine bodyPost_ret (v := pcV 0 ⟨#[]⟩ (n : Nat)) (by simp [results, Tryz.results88, go_sem, hcc, hff]) rfl ?_
  refine ⟨rfl, ((hB.setCell ?_ _).setCell ?_ _).setCell ?_ _⟩ <;> exact Nat.le_refl _
/-- the block of a piece that a function has made, as it was made; nothing older is changed -/
structure Own3 (w w1 : World) : Prop where
  bel : Below w.heap.size w w1
  lt : w.heap.size < w1.heap.size
  k0 : w1.cell? ⟨w.heap.size, 0, none⟩ = some (.int .i64 0)
  k1 : w1.cell? ⟨w.heap.size, 1, none⟩ = some (.string ⟨#[]⟩)
  k2 : w1.cell? ⟨w.heap.size, 2, none⟩ = some (.int .i64 0)
  f0 : w1.frozen? ⟨w.heap.size, 0, none⟩ = false
  f1 : w1.frozen? ⟨w.heap.size, 1, none⟩ = false
  f2 : w1.frozen? ⟨w.heap.size, 2, none⟩ = false
theorem Own3.new (w : World) : Own3 w (w.alloc (.cells #[.int .i64 0, .string ⟨#[]⟩, .int .i64 0] 92)) :=
  ⟨(Below.refl _ _).alloc (Nat.le_refl _) _, by simp, by simp [go_sem], by simp [go_sem], by simp [go_sem], by simp [go_sem], by simp [go_sem], by simp [go_sem]⟩
theorem Own3.step {w w1 w2 : World} (h : Own3 w w1) (b : Below w1.heap.size w1 w2) : Own3 w w2 := by
  obtain ⟨h1, h2⟩ := bcell b
  exact ⟨h.bel.trans (b.mono (Nat.le_of_lt h.lt)), Nat.lt_of_lt_of_le h.lt b.size, by rw [h1 _ _ h.lt]; exact h.k0, by rw [h1 _ _ h.lt]; exact h.k1, by rw [h1 _ _ h.lt]; exact h.k2, by rw [h2 _ _ h.lt]; exact h.f0, by rw [h2 _ _ h.lt]; exact h.f1, by rw [h2 _ _ h.lt]; exact h.f2⟩
theorem rowL_le (p : UInt8 → Bool) (l : Tx) : rowL p l ≤ l.length := by
  unfold rowL
  exact (List.takeWhile_sublist p).length_le
theorem num_no (s : ByteArray) (w : World) (h0 : rowL digB s.data.toList = 0) :
    Calls Tryz.prog 95 #[.string s] w fun e w' => e = .returned (pcV 0 ⟨#[]⟩ 0) ∧ Below w.heap.size w w' := by
  have hr := fun w => row_digit digN digB false (Lib.hid kin_dig) s w (Lib.hid (weak_ dig_any))
  simp only [h0] at hr
  have HR := Lib.hid hr
  clear hr h0
  go_enter Tryz.func95, Tryz.ntmps95
  go_wp2_with (go_at_call 118; refine (HR.out _).mono ?_; rintro e w1 ⟨rfl, hb1⟩; obtain ⟨hcc, hff⟩ := bcell hb1)
  have hB : Below w.heap.size w w1 := ((Below.refl _ _).alloc (Nat.le_refl _) _).trans (hb1.mono (by simp))
  refine bodyPost_ret (v := pcV 0 ⟨#[]⟩ 0) (by simp [results, Tryz.results95, go_sem, hcc, hff]) rfl ?_
  refine ⟨rfl, ((hB.setCell ?_ _).setCell ?_ _).setCell ?_ _⟩ <;> exact Nat.le_refl _
theorem num_yes (s : ByteArray) (w : World) (hs : s.size ≤ 281474976710656) (h0 : rowL digB s.data.toList ≠ 0) :
    Calls Tryz.prog 95 #[.string s] w fun e w' => e = .returned (pcV 4 (s.extract 0 (rowL numB s.data.toList)) (rowL numB s.data.toList : Nat)) ∧ Below w.heap.size w w' := by
  have hr := fun w => row_digit digN digB false (Lib.hid kin_dig) s w (Lib.hid (weak_ dig_any))
  have hq := fun w => row_num numN numB false (Lib.hid kin_num) s w (Lib.hid (weak_ num_any))
  obtain ⟨n, hn⟩ : ∃ n, rowL numB s.data.toList = n := ⟨_, rfl⟩
  obtain ⟨m, hm⟩ : ∃ m, rowL digB s.data.toList = m := ⟨_, rfl⟩
  have hle : n ≤ s.size := by rw [← hn, Lib.size_eq]; exact rowL_le _ _
  rw [hn]
  simp only [hn] at hq
  simp only [hm] at hr
  rw [hm] at h0
  have hc := fun w => clone_any (s.extract 0 n) w (by rw [ByteArray.size_extract]; omega)
  have HR := Lib.hid hr
  have HQ := Lib.hid hq
  have HC := Lib.hid hc
  clear hr hq hn hm hc hs
  have c0 : ((m : Int) == 0) = false := by rw [beq_eq_false_iff_ne]; omega
  have c1 : (0 : Int) ≤ (n : Int) := by omega
  have c2 : (n : Int) ≤ (s.size : Int) := by omega
  clear h0
  go_enter Tryz.func95, Tryz.ntmps95
  go_wp2_with (first
    | (go_at_call 118; (with_reducible refine (HR.out _).mono ?_); rintro e w1 ⟨rfl, hb1⟩; have F1 := (Own3.new w).step hb1; clear hb1; obtain ⟨hB, hL, k0, k1, k2, f0, f1, f2⟩ := id F1)
    | (go_at_call 118; (with_reducible refine (HQ.out _).mono ?_); rintro e w2 ⟨rfl, hb2⟩; have F2 := F1.step hb2; clear hb2 hB hL k0 k1 k2 f0 f1 f2; obtain ⟨hB, hL, k0, k1, k2, f0, f1, f2⟩ := id F2)
    | (go_at_call 48; (with_reducible refine (HC.out _).mono ?_); rintro e w3 ⟨rfl, hb3⟩; have F3 := F2.step hb3; clear hb3 hB hL k0 k1 k2 f0 f1 f2; obtain ⟨hB, hL, k0, k1, k2, f0, f1, f2⟩ := id F3))
  refine bodyPost_ret (v := pcV 4 (s.extract 0 n) (n : Nat)) (by simp [results, Tryz.results95, go_sem, k0, k1, k2]) rfl ?_
  refine ⟨rfl, ((hB.setCell ?_ _).setCell ?_ _).setCell ?_ _⟩ <;> exact Nat.le_refl _
end Go.Proofs.YtjloookjlnmgdaaGreatDoor
