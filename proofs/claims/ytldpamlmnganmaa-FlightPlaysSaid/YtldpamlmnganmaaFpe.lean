/- The document's drop. Conditions: how many. -/
import Derived.Test.YtldpamlmnganmaaFpd
namespace Go.Proofs.Ytldpamlmnganmaa.FL
open Go.ChangeShapes Go.WideShapes Go.ChangeAt Go.RowKit Go.Maps Go.ChangeMaps
open Go.Proofs.Ytldpamlmnganmaa.SL
set_option maxRecDepth 100000
set_option linter.unusedVariables false
set_option linter.unusedSimpArgs false

theorem RT.one {B : Nat} {w : World} {r : Nat} {X : List Xr} {v : Value} (h : RT B w r X v) : ∀ x ∈ X, x.2.1.oneCell' = true := fun x hx => by
  obtain ⟨a, c, e⟩ := (h.it x hx).1.form
  rw [e]; rfl
theorem ownMono {w : World} {B B' z n : Nat} {e : TypeId} {v : Value} {xs : List Value} (h : w.ownsRow B e z v n xs) (hB : B' ≤ B) : w.ownsRow B' e z v n xs := by
  refine ⟨h.1, ?_⟩
  rcases h.2 with h2 | ⟨g, cap, cur, rfl, hb, hr⟩
  · exact .inl h2
  · exact .inr ⟨g, cap, cur, rfl, Nat.le_trans hB hb, hr⟩
/-- the rows that are left, stored -/
theorem RT.stored {B : Nat} {w w' : World} {r : Nat} {X R : List Xr} {v u : Value} (h : RT B w r X v) (hb : Below w.heap.size w w') (ho : OX w.heap.size w' u R) (hR : ∀ y, y ∈ R → y ∈ X) (ha : R.Pairwise fun x y => x.2.1.ownBlock ≠ y.2.1.ownBlock) :
    RT B (w'.setCell ⟨r, 0, none⟩ u) r R u ∧ Chg (fun b => b = r) w (w'.setCell ⟨r, 0, none⟩ u) ∧ (∀ b, u.ownBlock = some b → w.heap.size ≤ b) := by
  have h1 := h.below hb
  have hlt := h.bk.lt
  have hB := Nat.le_trans h.bg (Nat.le_of_lt hlt)
  refine ⟨⟨h1.bk.set_ 0 u, ?_, fun x hx => ⟨OI.keep (h1.it x (hR x hx)).1 fun g hg => Below.heap_setCell _ _ _ _ (fun e => ?_), (h1.it x (hR x hx)).2⟩, ha, h.bg⟩, (Chg.of_below (S := fun b => b = r) hb).setCell (p := ⟨r, 0, none⟩) rfl u, fun b hb => (World.ownsRow.lt ho b hb).1⟩
  · refine ownMono (keepRow ho fun g hg => Below.heap_setCell _ _ _ _ (fun e => ?_)) hB
    have := (World.ownsRow.lt ho g hg).1
    simp only at e
    omega
  · obtain ⟨cur, fr, hc⟩ := own_ty (h1.it x (hR x hx)).1 hg
    have hb2 := h1.bk
    unfold Bk at hb2
    rw [e, hb2] at hc
    injection hc with hc
    injection hc with _ hc _
    exact absurd hc (by decide)
def DroP (B : Nat) (w : World) (r : Nat) (Y : List Xr) (e : Ending) (w' : World) : Prop := e = .returned (.tuple #[]) ∧ ∃ v, RT B w' r Y v ∧ Chg (fun b => b = r) w w' ∧ (∀ b, v.ownBlock = some b → w.heap.size ≤ b)
set_option maxHeartbeats 8000000 in
theorem rdrop_any {B : Nat} {w : World} {r : Nat} {X : List Xr} {v : Value} (h : RT B w r X v) (hX : X.length ≤ 100000) (i : Nat) (hi : i < X.length) :
    Calls Try.prog 32 #[ptr r, .int .i64 (i : Int)] w (DroP B w r (X.take i ++ X.drop (i + 1)) ) := by
  obtain ⟨x, hx⟩ : ∃ x, X[i]? = some x := ⟨X[i], List.getElem?_eq_getElem hi⟩
  obtain ⟨g, cap, rfl, _⟩ := h.at_ hx
  obtain ⟨n, hn⟩ : ∃ n, X.length = n := ⟨_, rfl⟩
  obtain ⟨M, hM⟩ : ∃ M, X.take i = M := ⟨_, rfl⟩
  obtain ⟨D, hD⟩ : ∃ D, X.drop (i + 1) = D := ⟨_, rfl⟩
  obtain ⟨R, hR⟩ : ∃ R, M ++ D = R := ⟨_, rfl⟩
  have hB : B ≤ w.heap.size := Nat.le_trans h.bg (Nat.le_of_lt h.bk.lt)
  have hrx : RX w (.slice (some ⟨g, 0, none⟩) n cap) X := by rw [← hn]; exact OX.rx h.own
  have hone := h.one
  have hMl : M.length = i := by rw [← hM, List.length_take]; omega
  have hDl : D.length = n - (i + 1) := by rw [← hD, List.length_drop]; omega
  have HM : Hid (RX w (.slice (some ⟨g, 0, none⟩) i cap) M) := Lib.hid (by rw [← hM]; exact hrx.take i (by omega))
  have HOM : Hid (∀ x ∈ M, x.2.1.oneCell' = true) := Lib.hid (fun x hx => hone x (by rw [← hM] at hx; exact List.mem_of_mem_take hx))
  have HOD : Hid (∀ x ∈ D, x.2.1.oneCell' = true) := Lib.hid (fun x hx => hone x (by rw [← hD] at hx; exact List.mem_of_mem_drop hx))
  have hcap : n ≤ cap := by
    rcases h.own.2 with ⟨e, _⟩ | ⟨g', c', cur, e, _, _, hc, _⟩
    · cases e
    · injection e with _ _ e
      omega
  have hcm : cap ≤ 9223372036854775807 := by
    rcases h.own.2 with ⟨e, _⟩ | ⟨g', c', cur, e, _, _, _, hc, _⟩
    · cases e
    · injection e with _ _ e
      unfold maxLen at hc
      omega
  rw [hM, hD, hR]
  have hc0 : w.cell? ⟨r, 0, none⟩ = some (.slice (some ⟨g, 0, none⟩) n cap) := by have := h.bk.cell 0; rw [hn] at this; exact this
  have hf0 : w.frozen? ⟨r, 0, none⟩ = false := h.bk.frozen 0
  have H := Lib.hid h
  have HL := Lib.hid (And.intro hMl (And.intro hDl hi))
  have HR := Lib.hid hR
  obtain ⟨i1, hi1⟩ : ∃ j, i + 1 = j := ⟨_, rfl⟩
  have wk : IntKind.i64.wrap ((i : Int) + 1) = (i1 : Int) := by rw [show (i : Int) + 1 = (i1 : Int) by omega]; exact IntWalk.i64_in _ (by omega)
  have HX : Hid (∀ y, y ∈ R → y ∈ X) := Lib.hid (fun y hy => by
    rw [← hR, ← hM, ← hD] at hy
    rcases List.mem_append.1 hy with hy | hy
    · exact List.mem_of_mem_take hy
    · exact List.mem_of_mem_drop hy)
  have HAP : Hid (R.Pairwise fun x y => x.2.1.ownBlock ≠ y.2.1.ownBlock) := Lib.hid (by
    have e : R.Sublist X := by
      rw [← hR, ← hM, ← hD]
      conv => rhs; rw [← List.take_append_drop i X]
      exact List.Sublist.append (List.Sublist.refl _) (by rw [show i + 1 = i + 1 from rfl, ← List.drop_drop]; exact List.drop_sublist 1 _)
    exact h.ap.sublist e)
  have HBW := Lib.hid hB
  have HXL : Hid (X.length = n ∧ n ≤ 100000 ∧ i + 1 = i1) := Lib.hid ⟨hn, by omega, hi1⟩
  have l0 : (0 : Int) ≤ (i : Int) := by omega
  have l1 : (i : Int) ≤ (cap : Int) := by omega
  have l2 : (i1 : Int) ≤ (n : Int) := by omega
  have l3 : (0 : Int) ≤ (i1 : Int) := by omega
  have l4 : (n : Int) ≤ (cap : Int) := by omega
  have l5 : (i : Int) ≤ (n : Int) := by omega
  have HDX : Hid (i1 < n → RX w (.slice (some ⟨g, i1 * 5, none⟩) (n - i1) (cap - i1)) D) := Lib.hid (fun hlt => by have := hrx.drop (i + 1) (by omega); rw [Nat.zero_add, hi1, ← hi1, hD, hi1] at this; exact this)
  have HDN : Hid (¬ i1 < n → D = []) := Lib.hid (fun hlt => List.eq_nil_of_length_eq_zero (by omega))
  clear hR hM hD hMl hDl hrx hone hcap hcm hX hi hx hn hi1 hB h
  by_cases hlt : i1 < n
  · have hc1 : ¬ (cap = i1) := by omega
    have hc2 : ¬ ((cap : Int) = (i1 : Int)) := by omega
    have hc3 : (i1 : Int) ≤ (cap : Int) := by omega
    have HD1 := Lib.hid (HDX.out hlt)
    clear hlt HDX HDN
    go_enter Try.func32, Try.ntmps32
    go_wp2_with (first | (at_builtin; refine wpList_app_rows w.heap.size (.slice none 0 0) [] _ M M rfl rfl _ _ rfl rfl (World.ownsRow_nil _ _ _ _) rfl HM.out HOM.out (by have := HL.out; have := HXL.out; simp; omega) (Nat.le_refl _) ?_; intro va9 c9 w9 o9 gr9; have b9 : Below w.heap.size w w9 := (by rcases gr9 with gr9 | rfl; exact (Below.refl _ _).grown gr9 (Nat.le_refl _) (fun k hk => by cases hk); exact Below.refl _ _); have HB9 := Lib.hid b9; have HO9 := Lib.hid o9; have q0 := (b9.cell (p := ⟨r, 0, none⟩) (World.block_lt_of_cell? _ _ hc0)).trans hc0; have f9 := ((H.out.bk.heap (b9.block _ H.out.bk.lt)).frozen 0); clear gr9 b9 o9) | (at_builtin; refine wpList_app_rows w.heap.size (.slice va9 M.length c9) M _ D R HR.out rfl _ _ rfl rfl HO9.out rfl (HD1.out.below HB9.out) HOD.out (by have := HL.out; have := HXL.out; omega) HB9.out.size ?_; intro va10 c10 w10 o10 gr10; have b10 : Below w.heap.size w w10 := (by rcases gr10 with gr10 | rfl; exact HB9.out.grown gr10 HB9.out.size (fun k hk => (World.ownsRow.lt HO9.out k hk).1); exact HB9.out); have HST := Lib.hid (H.out.stored b10 o10 HX.out HAP.out); have q1 := (b10.cell (p := ⟨r, 0, none⟩) (World.block_lt_of_cell? _ _ hc0)).trans hc0; have f1 := ((H.out.bk.heap (b10.block _ H.out.bk.lt)).frozen 0); clear gr10 b10 o10))
    go_wp2
    first | go_end0 | (refine bodyPost_ret (v := .tuple #[]) (by simp [results, Try.results32, go_sem]) rfl ?_)
    exact ⟨rfl, _, HST.out⟩
  · have hd := HDN.out hlt
    have hin : i1 = n := by have := HXL.out; have := HL.out; omega
    subst hin
    have HDE := Lib.hid hd
    clear hlt HDX HDN hd
    by_cases hc1 : cap = i1
    · have hc2 : ((cap : Int) = (i1 : Int)) := by omega
      subst hc1
      clear hc2
      go_enter Try.func32, Try.ntmps32
      go_wp2_with (first | (at_builtin; refine wpList_app_rows w.heap.size (.slice none 0 0) [] _ M M rfl rfl _ _ rfl rfl (World.ownsRow_nil _ _ _ _) rfl HM.out HOM.out (by have := HL.out; have := HXL.out; simp; omega) (Nat.le_refl _) ?_; intro va9 c9 w9 o9 gr9; have b9 : Below w.heap.size w w9 := (by rcases gr9 with gr9 | rfl; exact (Below.refl _ _).grown gr9 (Nat.le_refl _) (fun k hk => by cases hk); exact Below.refl _ _); have HB9 := Lib.hid b9; have HO9 := Lib.hid o9; have q0 := (b9.cell (p := ⟨r, 0, none⟩) (World.block_lt_of_cell? _ _ hc0)).trans hc0; have f9 := ((H.out.bk.heap (b9.block _ H.out.bk.lt)).frozen 0); clear gr9 b9 o9) | (at_builtin; refine wpList_app_rows w.heap.size (.slice va9 M.length c9) M _ D R HR.out rfl _ _ rfl rfl HO9.out rfl (.inl ⟨_, _, (by first | rfl | (rw [Nat.sub_self])), HDE.out⟩) HOD.out (by have := HL.out; have := HXL.out; omega) HB9.out.size ?_; intro va10 c10 w10 o10 gr10; have b10 : Below w.heap.size w w10 := (by rcases gr10 with gr10 | rfl; exact HB9.out.grown gr10 HB9.out.size (fun k hk => (World.ownsRow.lt HO9.out k hk).1); exact HB9.out); have HST := Lib.hid (H.out.stored b10 o10 HX.out HAP.out); have q1 := (b10.cell (p := ⟨r, 0, none⟩) (World.block_lt_of_cell? _ _ hc0)).trans hc0; have f1 := ((H.out.bk.heap (b10.block _ H.out.bk.lt)).frozen 0); clear gr10 b10 o10))
      go_wp2
      first | go_end0 | (refine bodyPost_ret (v := .tuple #[]) (by simp [results, Try.results32, go_sem]) rfl ?_)
      exact ⟨rfl, _, HST.out⟩
    · have hc2 : ¬ ((cap : Int) = (i1 : Int)) := by omega
      go_enter Try.func32, Try.ntmps32
      go_wp2_with (first | (at_builtin; refine wpList_app_rows w.heap.size (.slice none 0 0) [] _ M M rfl rfl _ _ rfl rfl (World.ownsRow_nil _ _ _ _) rfl HM.out HOM.out (by have := HL.out; have := HXL.out; simp; omega) (Nat.le_refl _) ?_; intro va9 c9 w9 o9 gr9; have b9 : Below w.heap.size w w9 := (by rcases gr9 with gr9 | rfl; exact (Below.refl _ _).grown gr9 (Nat.le_refl _) (fun k hk => by cases hk); exact Below.refl _ _); have HB9 := Lib.hid b9; have HO9 := Lib.hid o9; have q0 := (b9.cell (p := ⟨r, 0, none⟩) (World.block_lt_of_cell? _ _ hc0)).trans hc0; have f9 := ((H.out.bk.heap (b9.block _ H.out.bk.lt)).frozen 0); clear gr9 b9 o9) | (at_builtin; refine wpList_app_rows w.heap.size (.slice va9 M.length c9) M _ D R HR.out rfl _ _ rfl rfl HO9.out rfl (.inl ⟨_, _, (by first | rfl | (rw [Nat.sub_self])), HDE.out⟩) HOD.out (by have := HL.out; have := HXL.out; omega) HB9.out.size ?_; intro va10 c10 w10 o10 gr10; have b10 : Below w.heap.size w w10 := (by rcases gr10 with gr10 | rfl; exact HB9.out.grown gr10 HB9.out.size (fun k hk => (World.ownsRow.lt HO9.out k hk).1); exact HB9.out); have HST := Lib.hid (H.out.stored b10 o10 HX.out HAP.out); have q1 := (b10.cell (p := ⟨r, 0, none⟩) (World.block_lt_of_cell? _ _ hc0)).trans hc0; have f1 := ((H.out.bk.heap (b10.block _ H.out.bk.lt)).frozen 0); clear gr10 b10 o10))
      go_wp2
      first | go_end0 | (refine bodyPost_ret (v := .tuple #[]) (by simp [results, Try.results32, go_sem]) rfl ?_)
      exact ⟨rfl, _, HST.out⟩
end Go.Proofs.Ytldpamlmnganmaa.FL
