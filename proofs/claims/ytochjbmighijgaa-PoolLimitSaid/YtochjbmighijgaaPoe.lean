/- Package pool, its order: cmp.Compare, cmp.Or of two, earlier. No condition. -/
import Derived.Test.YtochjbmighijgaaPod
import Derived.Deep.LoopGhost
import Derived.Deep.RegionWith
import Derived.BigQuiet
namespace Go.Proofs.Ytochjbmighijgaa.PO
open Go.ChangeShapes Go.WideShapes Go.ChangeAt Go.RowKit Go.Maps Go.ChangeMaps
open Go.Proofs.Ytochjbmighijgaa.SL Go.Proofs.Ytochjbmighijgaa.RW
open Go.Proofs.Ytochjbmighijgaa.LN (tkY tkN pu OI IS RdP)
set_option maxRecDepth 100000
set_option linter.unusedVariables false
set_option linter.unusedSimpArgs false

def ci (a b : Int) : Int := if a < b then -1 else if b < a then 1 else 0
theorem isNaN_any (x : Int) (w : World) : Calls Try.prog 81 #[nV x] w fun e w' => e = .returned (.bool false) ∧ w = w' := by
  go_enter Try.func81, Try.ntmps81
  go_wp2
  go_ret
  exact ⟨rfl, rfl⟩
theorem cmp_any (a b : Int) (w : World) : Calls Try.prog 65 #[nV a, nV b] w fun e w' => e = .returned (nV (ci a b)) ∧ w = w' := by
  have HN := Lib.hid (fun x => isNaN_any x w)
  unfold ci
  by_cases h1 : a < b
  · rw [if_pos h1]
    go_enter Try.func65, Try.ntmps65
    go_wp2_with (go_at_call 81; refine (HN.out _).mono ?_; rintro e w1 ⟨rfl, rfl⟩)
    go_ret
    exact ⟨rfl, rfl⟩
  · rw [if_neg h1]
    by_cases h2 : b < a
    · rw [if_pos h2]
      go_enter Try.func65, Try.ntmps65
      go_wp2_with (go_at_call 81; refine (HN.out _).mono ?_; rintro e w1 ⟨rfl, rfl⟩)
      go_ret
      exact ⟨rfl, rfl⟩
    · rw [if_neg h2]
      go_enter Try.func65, Try.ntmps65
      go_wp2_with (go_at_call 81; refine (HN.out _).mono ?_; rintro e w1 ⟨rfl, rfl⟩)
      go_ret
      exact ⟨rfl, rfl⟩
def orS (x y : Int) : Int := if x = 0 then y else x
theorem or_any {w : World} {b : Nat} (x y : Int) (h : Bk w b 3 #[nV x, nV y]) : Calls Try.prog 64 #[.slice (some ⟨b, 0, none⟩) 2 2] w fun e w' => e = .returned (nV (orS x y)) ∧ w = w' := by
  have c0 := h.cell 0
  have c1 := h.cell 1
  simp at c0 c1
  obtain ⟨R, hR⟩ : ∃ R, orS x y = R := ⟨_, rfl⟩
  rw [hR]
  clear h
  go_enter Try.func64, Try.ntmps64
  go_wp2
  go_loopg [8] 2 (fun gk u8 wx => (gk = 2 ∧ u8 = nV 0 ∧ wx = w) ∨ (gk = 1 ∧ u8 = nV 1 ∧ wx = w ∧ y = R) ∨ (gk = 0 ∧ u8 = nV 2 ∧ wx = w ∧ 0 = R))
  case atStart => exact .inl ⟨rfl, rfl, rfl⟩
  case round =>
    rcases hrel with ⟨rfl, rfl, rfl⟩ | ⟨rfl, rfl, rfl, e9⟩ | ⟨rfl, rfl, rfl, e9⟩
    · by_cases hx : x = 0
      · have HE : Hid (y = R) := Lib.hid (by rw [← hR]; unfold orS; rw [if_pos hx])
        subst hx
        clear hR
        go_wp2
        go_roundg 1
        case measure => omega
        case rel => exact .inr (.inl ⟨rfl, rfl, rfl, HE.out⟩)
      · have e9 : x = R := by rw [← hR]; unfold orS; rw [if_neg hx]
        subst e9
        clear hR
        go_wp2
        go_ret
        exact ⟨rfl, rfl⟩
    · by_cases hy : y = 0
      · have HE : Hid (0 = R) := Lib.hid (by rw [← e9, hy])
        subst hy
        clear e9 hR
        go_wp2
        go_roundg 0
        case measure => omega
        case rel => exact .inr (.inr ⟨rfl, rfl, rfl, HE.out⟩)
      · subst e9
        clear hR
        go_wp2
        go_ret
        exact ⟨rfl, rfl⟩
    · subst e9
      clear hR
      go_wp2
      go_ret
      exact ⟨rfl, rfl⟩
/-- how two rests compare -/
def cR (a b : Rs) : Int := orS (ci a.1 b.1) (ci a.2 b.2)
abbrev rV (r : Rs) : Value := .agg #[nV r.1, nV r.2]
set_option maxHeartbeats 4000000 in
theorem earlier_any (a b : Rs) (w : World) : Calls Try.prog 50 #[rV a, rV b] w fun e w' => e = .returned (nV (cR a b)) ∧ Below w.heap.size w w' := by
  obtain ⟨a1, a2⟩ := a
  obtain ⟨b1, b2⟩ := b
  have HC := Lib.hid (fun x y W => cmp_any x y W)
  have HO := Lib.hid (fun W b x y (h : Bk W b 3 #[nV x, nV y]) => or_any x y h)
  obtain ⟨p, hp⟩ : ∃ p, w.heap.size = p := ⟨_, rfl⟩
  obtain ⟨W1, hW1⟩ : ∃ W, w.alloc (.cells #[nV a1, nV a2] 76) = W := ⟨_, rfl⟩
  obtain ⟨W2, hW2⟩ : ∃ W, W1.alloc (.cells #[nV b1, nV b2] 76) = W := ⟨_, rfl⟩
  obtain ⟨p2, hp2⟩ : ∃ p, W1.heap.size = p := ⟨_, rfl⟩
  have hb1 : Below w.heap.size w W1 := by rw [← hW1]; exact (Below.refl _ _).alloc (Nat.le_refl _) _
  have hb2 : Below W1.heap.size W1 W2 := by rw [← hW2]; exact (Below.refl _ _).alloc (Nat.le_refl _) _
  have k1 : Bk W2 p 76 #[nV a1, nV a2] := by rw [← hW2]; exact Bk.alloc (by rw [← hW1, ← hp]; exact Bk.new _ _ _) _
  have k2 : Bk W2 p2 76 #[nV b1, nV b2] := by rw [← hW2, ← hp2]; exact Bk.new _ _ _
  have HB := Lib.hid (hb1.trans (hb2.mono hb1.size))
  have HP := Lib.hid (show p < W2.heap.size ∧ p2 < W2.heap.size from ⟨k1.lt, k2.lt⟩)
  have x0 := k1.cell 0
  have x1 := k1.cell 1
  have y0 := k2.cell 0
  have y1 := k2.cell 1
  clear hb1 hb2 k1 k2
  simp at x0 x1 y0 y1
  go_enter Try.func50, Try.ntmps50
  go_wp2_with fail
  refine wp_region_held_drew (S := fun W => Below W2.heap.size W2 W) (by kernel_rfl) ?_ (fun hS => ?_)
  · exact (Below.refl _ _).drew
  refine tkY 0 ?_ rfl hS ?_ ?_
  rotate_left
  · intro wz hz
    have z0 := (hz.cell (p := ⟨p, 0, none⟩) HP.out.1).trans x0
    have z1 := (hz.cell (p := ⟨p, 1, none⟩) HP.out.1).trans x1
    have z2 := (hz.cell (p := ⟨p2, 0, none⟩) HP.out.2).trans y0
    have z3 := (hz.cell (p := ⟨p2, 1, none⟩) HP.out.2).trans y1
    go_simp
    all_goals first | with_reducible rfl | omega
  try simp only [Act.put, pu]
  refine tkY 1 ?_ rfl hS ?_ ?_
  rotate_left
  · intro wz hz
    have z0 := (hz.cell (p := ⟨p, 0, none⟩) HP.out.1).trans x0
    have z1 := (hz.cell (p := ⟨p, 1, none⟩) HP.out.1).trans x1
    have z2 := (hz.cell (p := ⟨p2, 0, none⟩) HP.out.2).trans y0
    have z3 := (hz.cell (p := ⟨p2, 1, none⟩) HP.out.2).trans y1
    go_simp
    all_goals first | with_reducible rfl | omega
  try simp only [Act.put, pu]
  refine tkY 2 ?_ rfl hS ?_ ?_
  rotate_left
  · intro wz hz
    have z0 := (hz.cell (p := ⟨p, 0, none⟩) HP.out.1).trans x0
    have z1 := (hz.cell (p := ⟨p, 1, none⟩) HP.out.1).trans x1
    have z2 := (hz.cell (p := ⟨p2, 0, none⟩) HP.out.2).trans y0
    have z3 := (hz.cell (p := ⟨p2, 1, none⟩) HP.out.2).trans y1
    go_simp
    all_goals first | with_reducible rfl | omega
  try simp only [Act.put, pu]
  refine tkY 3 ?_ rfl hS ?_ ?_
  rotate_left
  · intro wz hz
    have z0 := (hz.cell (p := ⟨p, 0, none⟩) HP.out.1).trans x0
    have z1 := (hz.cell (p := ⟨p, 1, none⟩) HP.out.1).trans x1
    have z2 := (hz.cell (p := ⟨p2, 0, none⟩) HP.out.2).trans y0
    have z3 := (hz.cell (p := ⟨p2, 1, none⟩) HP.out.2).trans y1
    go_simp
    all_goals first | with_reducible rfl | omega
  try simp only [Act.put, pu]
  refine tkY 5 ?_ rfl hS ?_ ?_
  rotate_left
  · intro wz hz
    have z0 := (hz.cell (p := ⟨p, 0, none⟩) HP.out.1).trans x0
    have z1 := (hz.cell (p := ⟨p, 1, none⟩) HP.out.1).trans x1
    have z2 := (hz.cell (p := ⟨p2, 0, none⟩) HP.out.2).trans y0
    have z3 := (hz.cell (p := ⟨p2, 1, none⟩) HP.out.2).trans y1
    go_simp
    all_goals first | with_reducible rfl | omega
  try simp only [Act.put, pu]
  refine tkY 6 ?_ rfl hS ?_ ?_
  rotate_left
  · intro wz hz
    have z0 := (hz.cell (p := ⟨p, 0, none⟩) HP.out.1).trans x0
    have z1 := (hz.cell (p := ⟨p, 1, none⟩) HP.out.1).trans x1
    have z2 := (hz.cell (p := ⟨p2, 0, none⟩) HP.out.2).trans y0
    have z3 := (hz.cell (p := ⟨p2, 1, none⟩) HP.out.2).trans y1
    go_simp
    all_goals first | with_reducible rfl | omega
  try simp only [Act.put, pu]
  refine tkY 7 ?_ rfl hS ?_ ?_
  rotate_left
  · intro wz hz
    have z0 := (hz.cell (p := ⟨p, 0, none⟩) HP.out.1).trans x0
    have z1 := (hz.cell (p := ⟨p, 1, none⟩) HP.out.1).trans x1
    have z2 := (hz.cell (p := ⟨p2, 0, none⟩) HP.out.2).trans y0
    have z3 := (hz.cell (p := ⟨p2, 1, none⟩) HP.out.2).trans y1
    go_simp
    all_goals first | with_reducible rfl | omega
  try simp only [Act.put, pu]
  refine tkY 8 ?_ rfl hS ?_ ?_
  rotate_left
  · intro wz hz
    have z0 := (hz.cell (p := ⟨p, 0, none⟩) HP.out.1).trans x0
    have z1 := (hz.cell (p := ⟨p, 1, none⟩) HP.out.1).trans x1
    have z2 := (hz.cell (p := ⟨p2, 0, none⟩) HP.out.2).trans y0
    have z3 := (hz.cell (p := ⟨p2, 1, none⟩) HP.out.2).trans y1
    go_simp
    all_goals first | with_reducible rfl | omega
  try simp only [Act.put, pu]
  refine wpAnyH_ready (rs := [4]) (by kernel_rfl) (by simp) (AllReadyH.cons rfl (fun K' hK' => ?_) AllReadyH.nil)
  go_simp
  go_at_call 65
  refine (HC.out _ _ _).mono ?_
  rintro e w1 ⟨rfl, rfl⟩
  refine hK'.out _ _ ?_ (fun hSn => ?_)
  · exact hS
  clear hK' K' hS
  have hS := hSn
  clear hSn
  try simp only [Act.put, pu]
  refine wpAnyH_ready (rs := [9]) (by kernel_rfl) (by simp) (AllReadyH.cons rfl (fun K' hK' => ?_) AllReadyH.nil)
  go_simp
  go_at_call 65
  refine (HC.out _ _ _).mono ?_
  rintro e w1 ⟨rfl, rfl⟩
  refine hK'.out _ _ ?_ (fun hSn => ?_)
  · exact hS
  clear hK' K' hS
  have hS := hSn
  clear hSn
  try simp only [Act.put, pu]
  refine wpAnyH_ready (rs := [10]) (by kernel_rfl) (by simp) (AllReadyH.cons rfl (fun K' hK' => ?_) AllReadyH.nil)
  go_simp
  refine hK'.out _ _ ?_ (fun hSn => ?_)
  · exact hS.alloc hS.size _
  clear hK' K' hS
  have hS := hSn
  have hSz := hSn
  try simp only [Act.put, pu]
  refine wpAnyH_ready (rs := [11]) (by kernel_rfl) (by simp) (AllReadyH.cons rfl (fun K' hK' => ?_) AllReadyH.nil)
  go_simp
  go_at_call 64
  refine (HO.out _ _ _ _ (Bk.new _ _ _).drew).mono ?_
  rintro e w1 ⟨rfl, rfl⟩
  refine hK'.out _ _ ?_ (fun hSn => ?_)
  · exact hS
  clear hK' K' hS
  have hS := hSn
  clear hSn
  try simp only [Act.put, pu]
  refine tkY 12 ?_ rfl hS ?_ ?_
  rotate_left
  · intro wz hz
    go_simp
    all_goals first | with_reducible rfl | omega
  try simp only [Act.put, pu]
  refine wpAnyH_done (by kernel_rfl) ?_ _
  clear hS
  go_wp2
  go_ret
  exact ⟨rfl, HB.out.trans (hSz.mono HB.out.size)⟩
end Go.Proofs.Ytochjbmighijgaa.PO
