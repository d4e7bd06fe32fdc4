/- Package prep, its code: Copy as a whole. Conditions: how many calls there were. -/
import Derived.Test.YtkifmhdceobfhaaDoorPpk
namespace Go.Proofs.YtkifmhdceobfhaaDoor.PP
open Go.ChangeShapes Go.WideShapes Go.ChangeAt Go.RowKit Go.Maps Go.ChangeMaps
open Go.Proofs.YtkifmhdceobfhaaDoor.SL
set_option maxRecDepth 100000
set_option linter.unusedVariables false
set_option linter.unusedSimpArgs false

section
variable {B : Nat} {w w' : World} {a N : Nat} {C : Cf} {S : St}
set_option maxHeartbeats 8000000 in
theorem copy_any (h : CB B w a N C S) (hN : N ≤ 1000000) :
    Calls Tryd.prog 19 #[ptr a] w fun e w' => ∃ a2 C2, e = .returned (ptr a2) ∧ CB w.heap.size w' a2 N C2 S ∧ Below w.heap.size w w' := by
  obtain ⟨c0, c1, c2, c3⟩ := h.cells
  have hG := given_yes w a c0
  have HC : Hid (∀ W, Below w.heap.size w W → CB B W a N C S) := Lib.hid fun W hb => h.below hb
  have HN := Lib.hid hN
  have HIF : Hid (Inv S ∧ S.L.length ≤ N ∧ S.D.length ≤ N ∧ S.T.length ≤ N) := Lib.hid ⟨h.inv, h.few⟩
  clear h hN
  go_enter Tryd.func19, Tryd.ntmps19
  go_upto_region 3 with (go_at_call 27; refine hG.mono ?_; rintro e w' ⟨rfl, rfl⟩)
  refine wp_region_held_drew (S := fun W => W.cell? ⟨a, 1, none⟩ = some (mpV C.hb) ∧ W.cell? ⟨a, 2, none⟩ = some (mpV C.cb) ∧ W.cell? ⟨a, 3, none⟩ = some (mpV C.tb)) (by kernel_rfl) ?_ (fun hS => ?_)
  · exact ⟨c1, c2, c3⟩
  have hb0 : Below w.heap.size w w.drew := (Below.refl _ _).drew
  obtain ⟨WD, hWD⟩ : ∃ W, w.drew = W := ⟨_, rfl⟩
  rw [hWD] at hb0 hS ⊢
  clear hWD
  have HBD := Lib.hid hb0
  clear hb0
  refine tkY 0 ?_ rfl hS ?_ ?_
  rotate_left
  · intro wz hz
    obtain ⟨x1, x2, x3⟩ := hz
    go_simp
    all_goals first | with_reducible rfl | omega
  try simp only [Act.put, pu]
  refine tkY 1 ?_ rfl hS ?_ ?_
  rotate_left
  · intro wz hz
    obtain ⟨x1, x2, x3⟩ := hz
    go_simp
    all_goals first | with_reducible rfl | omega
  try simp only [Act.put, pu]
  refine tkY 2 ?_ rfl hS ?_ ?_
  rotate_left
  · intro wz hz
    obtain ⟨x1, x2, x3⟩ := hz
    go_simp
    all_goals first | with_reducible rfl | omega
  try simp only [Act.put, pu]
  refine tkY 3 ?_ rfl hS ?_ ?_
  rotate_left
  · intro wz hz
    obtain ⟨x1, x2, x3⟩ := hz
    go_simp
    all_goals first | with_reducible rfl | omega
  try simp only [Act.put, pu]
  refine tkY 5 ?_ rfl hS ?_ ?_
  rotate_left
  · intro wz hz
    obtain ⟨x1, x2, x3⟩ := hz
    go_simp
    all_goals first | with_reducible rfl | omega
  try simp only [Act.put, pu]
  refine tkY 6 ?_ rfl hS ?_ ?_
  rotate_left
  · intro wz hz
    obtain ⟨x1, x2, x3⟩ := hz
    go_simp
    all_goals first | with_reducible rfl | omega
  try simp only [Act.put, pu]
  refine tkY 7 ?_ rfl hS ?_ ?_
  rotate_left
  · intro wz hz
    obtain ⟨x1, x2, x3⟩ := hz
    go_simp
    all_goals first | with_reducible rfl | omega
  try simp only [Act.put, pu]
  refine tkY 8 ?_ rfl hS ?_ ?_
  rotate_left
  · intro wz hz
    obtain ⟨x1, x2, x3⟩ := hz
    go_simp
    all_goals first | with_reducible rfl | omega
  try simp only [Act.put, pu]
  refine tkY 10 ?_ rfl hS ?_ ?_
  rotate_left
  · intro wz hz
    obtain ⟨x1, x2, x3⟩ := hz
    go_simp
    all_goals first | with_reducible rfl | omega
  try simp only [Act.put, pu]
  refine tkY 11 ?_ rfl hS ?_ ?_
  rotate_left
  · intro wz hz
    obtain ⟨x1, x2, x3⟩ := hz
    go_simp
    all_goals first | with_reducible rfl | omega
  try simp only [Act.put, pu]
  refine tkY 12 ?_ rfl hS ?_ ?_
  rotate_left
  · intro wz hz
    obtain ⟨x1, x2, x3⟩ := hz
    go_simp
    all_goals first | with_reducible rfl | omega
  try simp only [Act.put, pu]
  refine tkY 13 ?_ rfl hS ?_ ?_
  rotate_left
  · intro wz hz
    obtain ⟨x1, x2, x3⟩ := hz
    go_simp
    all_goals first | with_reducible rfl | omega
  try simp only [Act.put, pu]
  refine wpAnyH_ready (rs := [4]) (by kernel_rfl) (by simp) (AllReadyH.cons rfl (fun K' hK' => ?_) AllReadyH.nil)
  go_simp
  refine (copied_s (HC.out _ HBD.out).hc HN.out).mono ?_
  rintro e w2 ⟨hb', F', rfl, h2, ho2, hb2⟩
  have hk2 := And.intro ((hb2.cell (p := ⟨a, 1, none⟩) (World.block_lt_of_cell? _ _ hS.1)).trans hS.1) (And.intro ((hb2.cell (p := ⟨a, 2, none⟩) (World.block_lt_of_cell? _ _ hS.2.1)).trans hS.2.1) ((hb2.cell (p := ⟨a, 3, none⟩) (World.block_lt_of_cell? _ _ hS.2.2)).trans hS.2.2))
  have HB2 := Lib.hid (HBD.out.trans (hb2.mono HBD.out.size))
  have H2 := Lib.hid h2
  have HO2 := Lib.hid (show ∀ b, Own F' hb' b → w.heap.size ≤ b from fun b hb => Nat.le_trans HBD.out.size (ho2 b hb))
  refine hK'.out _ _ hk2 (fun hSn => ?_)
  clear hK' K' hS hb2 h2 ho2 hk2
  have hS := hSn
  clear hSn
  try simp only [Act.put, pu]
  refine wpAnyH_ready (rs := [9]) (by kernel_rfl) (by simp) (AllReadyH.cons rfl (fun K' hK' => ?_) AllReadyH.nil)
  go_simp
  refine (copied_i (HC.out _ HB2.out).hd HN.out).mono ?_
  rintro e w3 ⟨cb', G', rfl, h3, ho3, hb3⟩
  have hk3 := And.intro ((hb3.cell (p := ⟨a, 1, none⟩) (World.block_lt_of_cell? _ _ hS.1)).trans hS.1) (And.intro ((hb3.cell (p := ⟨a, 2, none⟩) (World.block_lt_of_cell? _ _ hS.2.1)).trans hS.2.1) ((hb3.cell (p := ⟨a, 3, none⟩) (World.block_lt_of_cell? _ _ hS.2.2)).trans hS.2.2))
  have HB3 := Lib.hid (HB2.out.trans (hb3.mono HB2.out.size))
  have H23 := Lib.hid (H2.out.below hb3)
  have H3 := Lib.hid h3
  have HO3 := Lib.hid ho3
  have HLT2 : Hid (∀ b, Own F' hb' b → b < w2.heap.size) := Lib.hid fun b hb => H2.out.lt hb
  have HLTW : Hid (∀ b, Own F' hb' b → b < w2.heap.size) := Lib.hid HLT2.out
  have HS2 : Hid (w.heap.size ≤ w2.heap.size) := Lib.hid HB2.out.size
  refine hK'.out _ _ hk3 (fun hSn => ?_)
  clear hK' K' hS hb3 h3 ho3 hk3
  have hS := hSn
  clear hSn
  try simp only [Act.put, pu]
  refine wpAnyH_ready (rs := [14]) (by kernel_rfl) (by simp) (AllReadyH.cons rfl (fun K' hK' => ?_) AllReadyH.nil)
  go_simp
  refine (mclone_t _ _ _ _ (HC.out _ HB3.out).ht).mono ?_
  rintro e w4 ⟨rfl, h4, hb4⟩
  have hk4 := And.intro ((hb4.cell (p := ⟨a, 1, none⟩) (World.block_lt_of_cell? _ _ hS.1)).trans hS.1) (And.intro ((hb4.cell (p := ⟨a, 2, none⟩) (World.block_lt_of_cell? _ _ hS.2.1)).trans hS.2.1) ((hb4.cell (p := ⟨a, 3, none⟩) (World.block_lt_of_cell? _ _ hS.2.2)).trans hS.2.2))
  have HB4 := Lib.hid (HB3.out.trans (hb4.mono HB3.out.size))
  have H24 := Lib.hid (H23.out.below hb4)
  have H34 := Lib.hid (H3.out.below hb4)
  have HLT3 : Hid (∀ b, Own G' cb' b → b < w3.heap.size) := Lib.hid fun b hb => H3.out.lt hb
  have HLT2 : Hid (∀ b, Own F' hb' b → b < w3.heap.size) := Lib.hid fun b hb => H23.out.lt hb
  have HS3 : Hid (w2.heap.size ≤ w3.heap.size) := Lib.hid (by
    have := H3.out.mo.lt
    have := HO3.out cb' (.inl rfl)
    omega)
  have H4 := Lib.hid h4
  obtain ⟨tb', htb⟩ : ∃ b, w3.heap.size = b := ⟨_, rfl⟩
  rw [htb] at H4 HLT2 HLT3 HS3 ⊢
  clear htb
  refine hK'.out _ _ hk4 (fun hSn => ?_)
  clear hK' K' hS hb4 h4 hk4
  have hS := hSn
  clear hSn
  try simp only [Act.put, pu]
  refine wpAnyH_ready (rs := [15]) (by kernel_rfl) (by simp) (AllReadyH.cons rfl (fun K' hK' => ?_) AllReadyH.nil)
  go_simp
  refine (made_any _ _ _ _).mono ?_
  rintro e w5 ⟨a2, rfl, ha2, hka, hb5⟩
  have hk5 := And.intro ((hb5.cell (p := ⟨a, 1, none⟩) (World.block_lt_of_cell? _ _ hS.1)).trans hS.1) (And.intro ((hb5.cell (p := ⟨a, 2, none⟩) (World.block_lt_of_cell? _ _ hS.2.1)).trans hS.2.1) ((hb5.cell (p := ⟨a, 3, none⟩) (World.block_lt_of_cell? _ _ hS.2.2)).trans hS.2.2))
  have HF : Hid (∃ C2, CB w.heap.size w5 a2 N C2 S ∧ Below w.heap.size w w5) := Lib.hid (by
    refine ⟨⟨hb', cb', tb', F', G'⟩, ⟨hka, H24.out.below hb5, H34.out.below hb5, H4.out.keep (hb5.block _ H4.out.lt), fun b h1 h2 => ?_, fun h1 => ?_, fun h1 => ?_, ⟨by have := HB4.out.size; omega, ?_⟩, HIF.out.1, HIF.out.2⟩, HB4.out.trans (hb5.mono HB4.out.size)⟩
    · have := HLTW.out b h1
      have := HO3.out b h2
      omega
    · have := HLT2.out _ h1
      exact Nat.lt_irrefl _ this
    · have := HLT3.out _ h1
      exact Nat.lt_irrefl _ this
    · rintro b (h1 | h1 | h1)
      · exact HO2.out b h1
      · exact Nat.le_trans HS2.out (HO3.out b h1)
      · have h1 : b = tb' := h1
        have := HS2.out
        have := HS3.out
        omega)
  refine hK'.out _ _ hk5 (fun hSn => ?_)
  clear hK' K' hS hb5 ha2 hka hk5
  have hS := hSn
  clear hSn
  try simp only [Act.put, pu]
  refine tkY 16 ?_ rfl hS ?_ ?_
  rotate_left
  · intro wz hz
    go_simp
    all_goals first | with_reducible rfl | omega
  try simp only [Act.put, pu]
  refine wpAnyH_done (by kernel_rfl) ?_ _
  clear hS
  go_wp2
  go_ret
  obtain ⟨C2, h5, hb5⟩ := HF.out
  exact ⟨a2, C2, rfl, h5, hb5⟩
end
end Go.Proofs.YtkifmhdceobfhaaDoor.PP
