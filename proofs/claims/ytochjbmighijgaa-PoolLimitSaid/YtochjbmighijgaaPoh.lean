/- Package pool, a group alone: lay, reap. Conditions: idle ones rise; how many. -/
import Derived.Test.YtochjbmighijgaaPog
namespace Go.Proofs.Ytochjbmighijgaa.PO
open Go.ChangeShapes Go.WideShapes Go.ChangeAt Go.RowKit Go.Maps Go.ChangeMaps
open Go.Proofs.Ytochjbmighijgaa.SL Go.Proofs.Ytochjbmighijgaa.RW
open Go.Proofs.Ytochjbmighijgaa.LN (tkY tkN pu OI IS RdP)
set_option maxRecDepth 100000
set_option linter.unusedVariables false
set_option linter.unusedSimpArgs false

section
variable {B : Nat} {w w' w1 : World} {mo g : Nat} {q : Row} {m : Mem}
/-- r among those that rise -/
def insE (r : Rs) (l : List Rs) : List Rs := l.take (lowP (ltE r) l) ++ r :: l.drop (lowP (ltE r) l)
set_option maxHeartbeats 4000000 in
theorem lay_any (h : RowP B w mo g q m) (hu : upE q.idle) (hl : q.idle.length ≤ 100000) (r : Rs) :
    Calls Try.prog 28 #[ptr g, rV r] w fun e w' => e = .returned (.tuple #[]) ∧ Turned B w mo g m { q with idle := insE r q.idle } w' := by
  obtain ⟨W, hW⟩ : ∃ W, w.alloc (.cells #[nV r.1, nV r.2] 76) = W := ⟨_, rfl⟩
  obtain ⟨p, hp⟩ : ∃ p, w.heap.size = p := ⟨_, rfl⟩
  have hb0 : Below w.heap.size w W := by rw [← hW]; exact (Below.refl _ _).alloc (Nat.le_refl _) _
  have HR := Lib.hid (h.below hb0)
  have HR0 := Lib.hid h
  have hk : Bk W p 76 #[nV r.1, nV r.2] := by rw [← hW, ← hp]; exact Bk.new _ _ _
  have x2 := HR.out.cells.2.2.1
  have y0 := hk.cell 0
  have y1 := hk.cell 1
  have HB0 := Lib.hid hb0
  have HP : Hid (g < W.heap.size ∧ p < W.heap.size) := Lib.hid ⟨HR.out.bk.lt, hk.lt⟩
  have HS := Lib.hid (fun W' (hb : Below W.heap.size W W') => place_any (HR.out.below hb) hu (by omega) r)
  have HLE := Lib.hid (low_le (ltE r) q.idle)
  unfold insE
  obtain ⟨R, hR⟩ : ∃ R, lowP (ltE r) q.idle = R := ⟨_, rfl⟩
  rw [hR] at HLE ⊢
  simp only [hR] at HS
  obtain ⟨L, hL⟩ : ∃ L, q.idle.take R ++ r :: q.idle.drop R = L := ⟨_, rfl⟩
  rw [hL]
  have HI := Lib.hid (fun W' (hb : Below W.heap.size W W') vb (hv : Bk W' vb 76 #[nV r.1, nV r.2]) (hvg : ∀ b, m.iv.ownBlock = some b → vb ≠ b) => einsert_any B m.iv q.idle R r vb W' (HR.out.below hb).iq hv hvg HLE.out (by omega) (Nat.le_of_lt (Nat.lt_of_le_of_lt HR.out.ge (Nat.lt_of_lt_of_le HR.out.bk.lt hb.size))))
  simp only [hL] at HI
  have HN : Hid (∀ b, m.iv.ownBlock = some b → b < p ∧ b < W.heap.size) := Lib.hid fun b hb => ⟨by rw [← hp]; exact (h.iq.lt b hb).2, (HR.out.iq.lt b hb).2⟩
  have HFIN : Hid (∀ W' w2 (v' : Value), Below W.heap.size W W' → EQ B w2 v' L → W'.grownBy w2 m.iv.ownBlock → (∀ q9, v'.ownBlock = some q9 → m.iv.ownBlock = some q9 ∨ W'.heap.size ≤ q9) → Turned B w mo g m { q with idle := L } (w2.setCell ⟨g, 2, none⟩ v')) := Lib.hid fun W' w2 v' hb o2 gr2 ow2 =>
    Turned.pre (hb0.trans (hb.mono hb0.size)) (turned_idle (HR.out.below hb) o2 gr2 ow2) HR0.out
  have HG2 : Hid (∀ W' w2, Below W.heap.size W W' → W'.grownBy w2 m.iv.ownBlock → w2.cell? ⟨g, 2, none⟩ = some m.iv ∧ w2.frozen? ⟨g, 2, none⟩ = false) := Lib.hid fun W' w2 hb gr2 => by
    have hr := HR.out.below hb
    have hk2 : Bk w2 g 65 _ := hr.bk.heap (gr2.block g hr.bk.lt fun e => hr.ne_iv e.symm rfl)
    exact ⟨hk2.cell 2, hk2.frozen 2⟩
  obtain ⟨r1, r2⟩ := r
  simp at y0 y1
  obtain ⟨ia, ic, hi⟩ := h.iq.form
  rw [hi] at x2 HI HN HFIN HG2
  obtain ⟨nn, hnn⟩ : ∃ n, q.idle.length = n := ⟨_, rfl⟩
  rw [hnn] at x2 HI HN HFIN HG2
  have HC0 : Hid (∀ W2, Below W.heap.size W W2 → W2.cell? ⟨p, 0, none⟩ = some (nV r1) ∧ W2.cell? ⟨p, 1, none⟩ = some (nV r2)) := Lib.hid fun W2 hb => ⟨(hb.cell (p := ⟨p, 0, none⟩) HP.out.2).trans y0, (hb.cell (p := ⟨p, 1, none⟩) HP.out.2).trans y1⟩
  have HC1 : Hid (∀ W' W2, Below W.heap.size W W' → W'.grownBy W2 (Value.slice ia nn ic).ownBlock → W2.cell? ⟨p, 0, none⟩ = some (nV r1) ∧ W2.cell? ⟨p, 1, none⟩ = some (nV r2)) := Lib.hid fun W' W2 hb gr => by
    obtain ⟨c1, c2⟩ := HC0.out W' hb
    have hp9 : W2.heap[p]? = W'.heap[p]? := gr.block p (Nat.lt_of_lt_of_le HP.out.2 hb.size) fun e => by have := HN.out p e.symm; omega
    exact ⟨(World.cell?_of_block (w := W') (a := ⟨p, 0, none⟩) hp9).trans c1, (World.cell?_of_block (w := W') (a := ⟨p, 1, none⟩) hp9).trans c2⟩
  have HC2 : Hid (∀ (W2 : World) (u : Value), (W2.cell? ⟨p, 0, none⟩ = some (nV r1) ∧ W2.cell? ⟨p, 1, none⟩ = some (nV r2)) → (W2.setCell ⟨g, 2, none⟩ u).cell? ⟨p, 0, none⟩ = some (nV r1) ∧ (W2.setCell ⟨g, 2, none⟩ u).cell? ⟨p, 1, none⟩ = some (nV r2)) := Lib.hid fun W2 u hc => by
    have hne : p ≠ g := by have := h.bk.lt; omega
    have e := Below.heap_setCell W2 ⟨g, 2, none⟩ u p hne
    exact ⟨(World.cell?_of_block (w := W2) (a := ⟨p, 0, none⟩) e).trans hc.1, (World.cell?_of_block (w := W2) (a := ⟨p, 1, none⟩) e).trans hc.2⟩
  have HNEW : Hid (∀ W2, Below W.heap.size W W2 → Bk (W2.alloc (.cells #[nV r1, nV r2] 76)) W2.heap.size 76 #[nV r1, nV r2] ∧ ∀ b, (Value.slice ia nn ic).ownBlock = some b → W2.heap.size ≠ b) := Lib.hid fun W2 hb => ⟨Bk.new _ _ _, fun b hb' => by have := HN.out b hb'; have := hb.size; omega⟩
  clear h hu hl hb0 hk HR HR0 hR hi hL
  go_enter Try.func28, Try.ntmps28
  go_wp2_with fail
  try rw [hp]
  try rw [hW]
  clear hW hp
  refine wp_region_held_drew (S := fun W2 => W2.cell? ⟨p, 0, none⟩ = some (nV r1) ∧ W2.cell? ⟨p, 1, none⟩ = some (nV r2)) (by kernel_rfl) ?_ (fun hS => ?_)
  · exact HC0.out _ (Below.refl _ _).drew
  have hW : Below W.heap.size W W.drew := (Below.refl _ _).drew
  obtain ⟨WD, hWD⟩ : ∃ w, W.drew = w := ⟨_, rfl⟩
  rw [hWD] at hW hS ⊢
  clear hWD
  refine tkY 0 ?_ rfl hS ?_ ?_
  rotate_left
  · intro wz hz
    obtain ⟨z1, z2⟩ := hz
    go_simp
    all_goals first | with_reducible rfl | omega
  try simp only [Act.put, pu]
  refine tkY 1 ?_ rfl hS ?_ ?_
  rotate_left
  · intro wz hz
    obtain ⟨z1, z2⟩ := hz
    go_simp
    all_goals first | with_reducible rfl | omega
  try simp only [Act.put, pu]
  refine tkY 2 ?_ rfl hS ?_ ?_
  rotate_left
  · intro wz hz
    obtain ⟨z1, z2⟩ := hz
    go_simp
    all_goals first | with_reducible rfl | omega
  try simp only [Act.put, pu]
  refine tkY 3 ?_ rfl hS ?_ ?_
  rotate_left
  · intro wz hz
    obtain ⟨z1, z2⟩ := hz
    go_simp
    all_goals first | with_reducible rfl | omega
  try simp only [Act.put, pu]
  refine tkY 5 ?_ rfl hS ?_ ?_
  rotate_left
  · intro wz hz
    obtain ⟨z1, z2⟩ := hz
    go_simp
    all_goals first | with_reducible rfl | omega
  try simp only [Act.put, pu]
  refine tkY 6 ?_ rfl hS ?_ ?_
  rotate_left
  · intro wz hz
    obtain ⟨z1, z2⟩ := hz
    go_simp
    all_goals first | with_reducible rfl | omega
  try simp only [Act.put, pu]
  refine tkY 8 ?_ rfl hS ?_ ?_
  rotate_left
  · intro wz hz
    obtain ⟨z1, z2⟩ := hz
    go_simp
    all_goals first | with_reducible rfl | omega
  try simp only [Act.put, pu]
  refine wpAnyH_ready (rs := [4, 7, 9]) (by kernel_rfl) (by simp) (AllReadyH.cons rfl (fun K' hK' => ?_) (AllReadyH.cons rfl (fun K' hK' => ?_) (AllReadyH.cons rfl (fun K' hK' => ?_) AllReadyH.nil)))
  · skip
    have x4 := (hW.cell (p := ⟨g, 2, none⟩) HP.out.1).trans x2
    go_simp
    refine hK'.out _ _ hS (fun hSn => ?_)
    clear hK' K' hS
    have hS := hSn
    clear hSn
    try simp only [Act.put, pu]
    refine wpAnyH_ready (rs := [7, 9]) (by kernel_rfl) (by simp) (AllReadyH.cons rfl (fun K' hK' => ?_) (AllReadyH.cons rfl (fun K' hK' => ?_) AllReadyH.nil))
    · skip
      go_simp
      refine (HS.out _ hW).mono ?_
      rintro e w2 ⟨rfl, hb2⟩
      have hW7 := hW.trans (hb2.mono hW.size)
      refine hK'.out _ _ ?_ (fun hSn => ?_)
      · exact HC0.out _ hW7
      clear hK' K' hS
      have hS := hSn
      clear hSn
      try simp only [Act.put, pu]
      refine wpAnyH_ready (rs := [9]) (by kernel_rfl) (by simp) (AllReadyH.cons rfl (fun K' hK' => ?_) AllReadyH.nil)
      have hW79 := hW7.alloc hW7.size (.cells #[nV r1, nV r2] 76)
      have hv := HNEW.out _ hW7
      go_simp
      refine hK'.out _ _ ?_ (fun hSn => ?_)
      · exact HC0.out _ hW79
      clear hK' K' hS
      have hS := hSn
      clear hSn
      try simp only [Act.put, pu]
      refine wpAnyH_ready (rs := [10]) (by kernel_rfl) (by simp) (AllReadyH.cons rfl (fun K' hK' => ?_) AllReadyH.nil)
      go_simp
      refine (HI.out _ hW79 _ hv.1 hv.2).mono ?_
      rintro e w4 ⟨va, vc, rfl, o2, gr2, ow2⟩
      have HT := Lib.hid (HFIN.out _ w4 _ hW79 o2 gr2 ow2)
      have hc4 := HC1.out _ w4 hW79 gr2
      have f2 := (HG2.out _ w4 hW79 gr2).2
      have e2 := (HG2.out _ w4 hW79 gr2).1
      refine hK'.out _ _ hc4 (fun hSn => ?_)
      clear hK' K' hS
      have hS := hSn
      clear hSn
      try simp only [Act.put, pu]
      clear o2 gr2 ow2
      refine tkY 11 ?_ rfl hS ?_ ?_
      rotate_left
      · intro wz hz
        go_simp
        all_goals first | with_reducible rfl | omega
      try simp only [Act.put, pu]
      refine tkY 12 ?_ rfl hS ?_ ?_
      rotate_left
      · intro wz hz
        go_simp
        all_goals first | with_reducible rfl | omega
      try simp only [Act.put, pu]
      refine wpAnyH_ready (rs := [13]) (by kernel_rfl) (by simp) (AllReadyH.cons rfl (fun K' hK' => ?_) AllReadyH.nil)
      go_simp
      refine hK'.out _ _ (HC2.out _ _ hS) (fun hSn => ?_)
      clear hK' K' hS hSn
      refine wpAnyH_done (by kernel_rfl) ?_ _
      go_wp2
      go_end0
      exact ⟨rfl, HT.out⟩
    · skip
      have hW9 := hW.alloc hW.size (.cells #[nV r1, nV r2] 76)
      have hv := HNEW.out _ hW
      go_simp
      refine hK'.out _ _ ?_ (fun hSn => ?_)
      · exact HC0.out _ hW9
      clear hK' K' hS
      have hS := hSn
      clear hSn
      try simp only [Act.put, pu]
      refine wpAnyH_ready (rs := [7]) (by kernel_rfl) (by simp) (AllReadyH.cons rfl (fun K' hK' => ?_) AllReadyH.nil)
      go_simp
      refine (HS.out _ hW9).mono ?_
      rintro e w2 ⟨rfl, hb2⟩
      have hW97 := hW9.trans (hb2.mono hW9.size)
      have hv := And.intro (hv.1.heap (hb2.block _ hv.1.lt)) hv.2
      refine hK'.out _ _ ?_ (fun hSn => ?_)
      · exact HC0.out _ hW97
      clear hK' K' hS
      have hS := hSn
      clear hSn
      try simp only [Act.put, pu]
      refine wpAnyH_ready (rs := [10]) (by kernel_rfl) (by simp) (AllReadyH.cons rfl (fun K' hK' => ?_) AllReadyH.nil)
      go_simp
      refine (HI.out _ hW97 _ hv.1 hv.2).mono ?_
      rintro e w4 ⟨va, vc, rfl, o2, gr2, ow2⟩
      have HT := Lib.hid (HFIN.out _ w4 _ hW97 o2 gr2 ow2)
      have hc4 := HC1.out _ w4 hW97 gr2
      have f2 := (HG2.out _ w4 hW97 gr2).2
      have e2 := (HG2.out _ w4 hW97 gr2).1
      refine hK'.out _ _ hc4 (fun hSn => ?_)
      clear hK' K' hS
      have hS := hSn
      clear hSn
      try simp only [Act.put, pu]
      clear o2 gr2 ow2
      refine tkY 11 ?_ rfl hS ?_ ?_
      rotate_left
      · intro wz hz
        go_simp
        all_goals first | with_reducible rfl | omega
      try simp only [Act.put, pu]
      refine tkY 12 ?_ rfl hS ?_ ?_
      rotate_left
      · intro wz hz
        go_simp
        all_goals first | with_reducible rfl | omega
      try simp only [Act.put, pu]
      refine wpAnyH_ready (rs := [13]) (by kernel_rfl) (by simp) (AllReadyH.cons rfl (fun K' hK' => ?_) AllReadyH.nil)
      go_simp
      refine hK'.out _ _ (HC2.out _ _ hS) (fun hSn => ?_)
      clear hK' K' hS hSn
      refine wpAnyH_done (by kernel_rfl) ?_ _
      go_wp2
      go_end0
      exact ⟨rfl, HT.out⟩
  · skip
    go_simp
    refine (HS.out _ hW).mono ?_
    rintro e w2 ⟨rfl, hb2⟩
    have hW7 := hW.trans (hb2.mono hW.size)
    refine hK'.out _ _ ?_ (fun hSn => ?_)
    · exact HC0.out _ hW7
    clear hK' K' hS
    have hS := hSn
    clear hSn
    try simp only [Act.put, pu]
    refine wpAnyH_ready (rs := [4, 9]) (by kernel_rfl) (by simp) (AllReadyH.cons rfl (fun K' hK' => ?_) (AllReadyH.cons rfl (fun K' hK' => ?_) AllReadyH.nil))
    · skip
      have x4 := (hW7.cell (p := ⟨g, 2, none⟩) HP.out.1).trans x2
      go_simp
      refine hK'.out _ _ hS (fun hSn => ?_)
      clear hK' K' hS
      have hS := hSn
      clear hSn
      try simp only [Act.put, pu]
      refine wpAnyH_ready (rs := [9]) (by kernel_rfl) (by simp) (AllReadyH.cons rfl (fun K' hK' => ?_) AllReadyH.nil)
      have hW79 := hW7.alloc hW7.size (.cells #[nV r1, nV r2] 76)
      have hv := HNEW.out _ hW7
      go_simp
      refine hK'.out _ _ ?_ (fun hSn => ?_)
      · exact HC0.out _ hW79
      clear hK' K' hS
      have hS := hSn
      clear hSn
      try simp only [Act.put, pu]
      refine wpAnyH_ready (rs := [10]) (by kernel_rfl) (by simp) (AllReadyH.cons rfl (fun K' hK' => ?_) AllReadyH.nil)
      go_simp
      refine (HI.out _ hW79 _ hv.1 hv.2).mono ?_
      rintro e w4 ⟨va, vc, rfl, o2, gr2, ow2⟩
      have HT := Lib.hid (HFIN.out _ w4 _ hW79 o2 gr2 ow2)
      have hc4 := HC1.out _ w4 hW79 gr2
      have f2 := (HG2.out _ w4 hW79 gr2).2
      have e2 := (HG2.out _ w4 hW79 gr2).1
      refine hK'.out _ _ hc4 (fun hSn => ?_)
      clear hK' K' hS
      have hS := hSn
      clear hSn
      try simp only [Act.put, pu]
      clear o2 gr2 ow2
      refine tkY 11 ?_ rfl hS ?_ ?_
      rotate_left
      · intro wz hz
        go_simp
        all_goals first | with_reducible rfl | omega
      try simp only [Act.put, pu]
      refine tkY 12 ?_ rfl hS ?_ ?_
      rotate_left
      · intro wz hz
        go_simp
        all_goals first | with_reducible rfl | omega
      try simp only [Act.put, pu]
      refine wpAnyH_ready (rs := [13]) (by kernel_rfl) (by simp) (AllReadyH.cons rfl (fun K' hK' => ?_) AllReadyH.nil)
      go_simp
      refine hK'.out _ _ (HC2.out _ _ hS) (fun hSn => ?_)
      clear hK' K' hS hSn
      refine wpAnyH_done (by kernel_rfl) ?_ _
      go_wp2
      go_end0
      exact ⟨rfl, HT.out⟩
    · skip
      have hW79 := hW7.alloc hW7.size (.cells #[nV r1, nV r2] 76)
      have hv := HNEW.out _ hW7
      go_simp
      refine hK'.out _ _ ?_ (fun hSn => ?_)
      · exact HC0.out _ hW79
      clear hK' K' hS
      have hS := hSn
      clear hSn
      try simp only [Act.put, pu]
      refine wpAnyH_ready (rs := [4]) (by kernel_rfl) (by simp) (AllReadyH.cons rfl (fun K' hK' => ?_) AllReadyH.nil)
      have x4 := (hW79.cell (p := ⟨g, 2, none⟩) HP.out.1).trans x2
      go_simp
      refine hK'.out _ _ hS (fun hSn => ?_)
      clear hK' K' hS
      have hS := hSn
      clear hSn
      try simp only [Act.put, pu]
      refine wpAnyH_ready (rs := [10]) (by kernel_rfl) (by simp) (AllReadyH.cons rfl (fun K' hK' => ?_) AllReadyH.nil)
      go_simp
      refine (HI.out _ hW79 _ hv.1 hv.2).mono ?_
      rintro e w4 ⟨va, vc, rfl, o2, gr2, ow2⟩
      have HT := Lib.hid (HFIN.out _ w4 _ hW79 o2 gr2 ow2)
      have hc4 := HC1.out _ w4 hW79 gr2
      have f2 := (HG2.out _ w4 hW79 gr2).2
      have e2 := (HG2.out _ w4 hW79 gr2).1
      refine hK'.out _ _ hc4 (fun hSn => ?_)
      clear hK' K' hS
      have hS := hSn
      clear hSn
      try simp only [Act.put, pu]
      clear o2 gr2 ow2
      refine tkY 11 ?_ rfl hS ?_ ?_
      rotate_left
      · intro wz hz
        go_simp
        all_goals first | with_reducible rfl | omega
      try simp only [Act.put, pu]
      refine tkY 12 ?_ rfl hS ?_ ?_
      rotate_left
      · intro wz hz
        go_simp
        all_goals first | with_reducible rfl | omega
      try simp only [Act.put, pu]
      refine wpAnyH_ready (rs := [13]) (by kernel_rfl) (by simp) (AllReadyH.cons rfl (fun K' hK' => ?_) AllReadyH.nil)
      go_simp
      refine hK'.out _ _ (HC2.out _ _ hS) (fun hSn => ?_)
      clear hK' K' hS hSn
      refine wpAnyH_done (by kernel_rfl) ?_ _
      go_wp2
      go_end0
      exact ⟨rfl, HT.out⟩
  · skip
    have hW9 := hW.alloc hW.size (.cells #[nV r1, nV r2] 76)
    have hv := HNEW.out _ hW
    go_simp
    refine hK'.out _ _ ?_ (fun hSn => ?_)
    · exact HC0.out _ hW9
    clear hK' K' hS
    have hS := hSn
    clear hSn
    try simp only [Act.put, pu]
    refine wpAnyH_ready (rs := [4, 7]) (by kernel_rfl) (by simp) (AllReadyH.cons rfl (fun K' hK' => ?_) (AllReadyH.cons rfl (fun K' hK' => ?_) AllReadyH.nil))
    · skip
      have x4 := (hW9.cell (p := ⟨g, 2, none⟩) HP.out.1).trans x2
      go_simp
      refine hK'.out _ _ hS (fun hSn => ?_)
      clear hK' K' hS
      have hS := hSn
      clear hSn
      try simp only [Act.put, pu]
      refine wpAnyH_ready (rs := [7]) (by kernel_rfl) (by simp) (AllReadyH.cons rfl (fun K' hK' => ?_) AllReadyH.nil)
      go_simp
      refine (HS.out _ hW9).mono ?_
      rintro e w2 ⟨rfl, hb2⟩
      have hW97 := hW9.trans (hb2.mono hW9.size)
      have hv := And.intro (hv.1.heap (hb2.block _ hv.1.lt)) hv.2
      refine hK'.out _ _ ?_ (fun hSn => ?_)
      · exact HC0.out _ hW97
      clear hK' K' hS
      have hS := hSn
      clear hSn
      try simp only [Act.put, pu]
      refine wpAnyH_ready (rs := [10]) (by kernel_rfl) (by simp) (AllReadyH.cons rfl (fun K' hK' => ?_) AllReadyH.nil)
      go_simp
      refine (HI.out _ hW97 _ hv.1 hv.2).mono ?_
      rintro e w4 ⟨va, vc, rfl, o2, gr2, ow2⟩
      have HT := Lib.hid (HFIN.out _ w4 _ hW97 o2 gr2 ow2)
      have hc4 := HC1.out _ w4 hW97 gr2
      have f2 := (HG2.out _ w4 hW97 gr2).2
      have e2 := (HG2.out _ w4 hW97 gr2).1
      refine hK'.out _ _ hc4 (fun hSn => ?_)
      clear hK' K' hS
      have hS := hSn
      clear hSn
      try simp only [Act.put, pu]
      clear o2 gr2 ow2
      refine tkY 11 ?_ rfl hS ?_ ?_
      rotate_left
      · intro wz hz
        go_simp
        all_goals first | with_reducible rfl | omega
      try simp only [Act.put, pu]
      refine tkY 12 ?_ rfl hS ?_ ?_
      rotate_left
      · intro wz hz
        go_simp
        all_goals first | with_reducible rfl | omega
      try simp only [Act.put, pu]
      refine wpAnyH_ready (rs := [13]) (by kernel_rfl) (by simp) (AllReadyH.cons rfl (fun K' hK' => ?_) AllReadyH.nil)
      go_simp
      refine hK'.out _ _ (HC2.out _ _ hS) (fun hSn => ?_)
      clear hK' K' hS hSn
      refine wpAnyH_done (by kernel_rfl) ?_ _
      go_wp2
      go_end0
      exact ⟨rfl, HT.out⟩
    · skip
      go_simp
      refine (HS.out _ hW9).mono ?_
      rintro e w2 ⟨rfl, hb2⟩
      have hW97 := hW9.trans (hb2.mono hW9.size)
      have hv := And.intro (hv.1.heap (hb2.block _ hv.1.lt)) hv.2
      refine hK'.out _ _ ?_ (fun hSn => ?_)
      · exact HC0.out _ hW97
      clear hK' K' hS
      have hS := hSn
      clear hSn
      try simp only [Act.put, pu]
      refine wpAnyH_ready (rs := [4]) (by kernel_rfl) (by simp) (AllReadyH.cons rfl (fun K' hK' => ?_) AllReadyH.nil)
      have x4 := (hW97.cell (p := ⟨g, 2, none⟩) HP.out.1).trans x2
      go_simp
      refine hK'.out _ _ hS (fun hSn => ?_)
      clear hK' K' hS
      have hS := hSn
      clear hSn
      try simp only [Act.put, pu]
      refine wpAnyH_ready (rs := [10]) (by kernel_rfl) (by simp) (AllReadyH.cons rfl (fun K' hK' => ?_) AllReadyH.nil)
      go_simp
      refine (HI.out _ hW97 _ hv.1 hv.2).mono ?_
      rintro e w4 ⟨va, vc, rfl, o2, gr2, ow2⟩
      have HT := Lib.hid (HFIN.out _ w4 _ hW97 o2 gr2 ow2)
      have hc4 := HC1.out _ w4 hW97 gr2
      have f2 := (HG2.out _ w4 hW97 gr2).2
      have e2 := (HG2.out _ w4 hW97 gr2).1
      refine hK'.out _ _ hc4 (fun hSn => ?_)
      clear hK' K' hS
      have hS := hSn
      clear hSn
      try simp only [Act.put, pu]
      clear o2 gr2 ow2
      refine tkY 11 ?_ rfl hS ?_ ?_
      rotate_left
      · intro wz hz
        go_simp
        all_goals first | with_reducible rfl | omega
      try simp only [Act.put, pu]
      refine tkY 12 ?_ rfl hS ?_ ?_
      rotate_left
      · intro wz hz
        go_simp
        all_goals first | with_reducible rfl | omega
      try simp only [Act.put, pu]
      refine wpAnyH_ready (rs := [13]) (by kernel_rfl) (by simp) (AllReadyH.cons rfl (fun K' hK' => ?_) AllReadyH.nil)
      go_simp
      refine hK'.out _ _ (HC2.out _ _ hS) (fun hSn => ?_)
      clear hK' K' hS hSn
      refine wpAnyH_done (by kernel_rfl) ?_ _
      go_wp2
      go_end0
      exact ⟨rfl, HT.out⟩
def reapL (T : Int) (l : List Rs) : List Rs := l.dropWhile fun r => decide (r.1 ≤ T)
def reapD (T : Int) (l : List Rs) : List Int := (l.takeWhile fun r => decide (r.1 ≤ T)).map (·.2)
theorem reap_cons (T : Int) (r : Rs) (l : List Rs) (h : r.1 ≤ T) : reapL T (r :: l) = reapL T l ∧ reapD T (r :: l) = r.2 :: reapD T l := by
  unfold reapL reapD
  simp [List.dropWhile_cons, List.takeWhile_cons, h]
theorem reap_stop (T : Int) (r : Rs) (l : List Rs) (h : ¬ r.1 ≤ T) : reapL T (r :: l) = r :: l ∧ reapD T (r :: l) = [] := by
  unfold reapL reapD
  simp [List.dropWhile_cons, List.takeWhile_cons, h]
theorem oi_own {w : World} {v : Value} {d : List Int} {N : Nat} (ho : OI N w v d) (h : RowP B w mo g q m) (b : Nat) (hb : v.ownBlock = some b) : ¬ m.own g b := by
  intro hm
  obtain ⟨cs, t, fr, hc, ht⟩ := h.ty hm
  rcases ho.2 with ⟨rfl, _⟩ | ⟨x, cap, cu, rfl, _, hh, _⟩
  · cases hb
  · injection hb with hb
    subst hb
    rw [hh] at hc
    injection hc with hc
    injection hc with _ hc
    subst hc
    exact absurd ht (by unfold Gt; decide)
/-- what a turned group leaves of numbers told -/
theorem oi_turned {v : Value} {d : List Int} {N : Nat} {q' : Row} (ho : OI N w v d) (h : RowP B w mo g q m) (ht : Turned B w mo g m q' w') : OI N w' v d := by
  obtain ⟨m', _, hc, _⟩ := ht
  exact ho.keep fun b hb => hc.block b (World.ownsRow.lt ho b hb).2 (oi_own ho h b hb)
theorem turned_then {q2 : Row} {w1 w2 : World} {m1 : Mem} (hc1 : Chg (m.own g) w w1) (ho1 : ∀ b, m1.own g b → m.own g b ∨ w.heap.size ≤ b) (ht : Turned B w1 mo g m1 q2 w2) : Turned B w mo g m q2 w2 := by
  obtain ⟨m', t1, t2, t3⟩ := ht
  refine ⟨m', t1, hc1.trans' t2 fun b hb hk => (ho1 b hk).resolve_right (by omega), fun b hb => ?_⟩
  rcases t3 b hb with h | h
  · exact ho1 b h
  · exact .inr (Nat.le_trans hc1.size h)
theorem turned_int {q' : Row} {w1 w2 : World} {v : Value} {d : List Int} (ht : Turned B w mo g m q' w1) (ho : OI w.heap.size w1 v d) (hg : w1.grownBy w2 v.ownBlock) : Turned B w mo g m q' w2 := by
  obtain ⟨m', t1, t2, t3⟩ := ht
  exact ⟨m', t1.keep fun b hb => hg.block b (t1.lt hb).2 fun e => oi_own ho t1 b e.symm hb, t2.grown hg fun k hk hlt => by
    have := (World.ownsRow.lt ho k hk).1
    omega, t3⟩
set_option maxHeartbeats 4000000 in
theorem reap_any (h : RowP B w mo g q m) (hl : q.idle.length ≤ 100000) (T : Int) :
    Calls Try.prog 36 #[ptr g, nV T] w fun e w' => ∃ v, e = .returned v ∧ OI w.heap.size w' v (reapD T q.idle) ∧ Turned B w mo g m { q with idle := reapL T q.idle } w' := by
  have HH := Lib.hid h
  obtain ⟨n, hn⟩ : ∃ n, q.idle.length = n := ⟨_, rfl⟩
  have HL : Hid (n ≤ 100000) := Lib.hid (by omega)
  have HN := Lib.hid hn
  have HT0 := Lib.hid (Turned.refl h)
  clear h hl hn
  go_enter Try.func36, Try.ntmps36
  go_wp2
  go_loopg [5] n (fun gk u5 wx => ∃ (d : List Int) (rest : List Rs), rest.length = gk ∧ d.length + gk = n ∧ reapL T q.idle = reapL T rest ∧ reapD T q.idle = d ++ reapD T rest ∧ OI w.heap.size wx u5 d ∧ Turned B w mo g m { q with idle := rest } wx)
  case atStart => exact ⟨[], q.idle, HN.out, by simp, rfl, rfl, OI.nil _ _, HT0.out⟩
  case round =>
    obtain ⟨d, rest, hr1, hr2, hr3, hr4, ho, ht⟩ := hrel
    have HO := Lib.hid ho
    have HT := Lib.hid ht
    have H3 := Lib.hid hr3
    have H4 := Lib.hid hr4
    obtain ⟨m1, hm1, hc1, ho1⟩ := ht
    have HM := Lib.hid hm1
    have ht := HT.out
    obtain ⟨x0, x1, x2, x3⟩ := hm1.cells
    cases rest with
    | nil =>
      have hF : Hid (∃ v, Ending.returned u5 = .returned v ∧ OI w.heap.size wr v (reapD T q.idle) ∧ Turned B w mo g m { q with idle := reapL T q.idle } wr) := Lib.hid ⟨u5, rfl, by rw [hr4]; show OI _ _ _ (d ++ []); rw [List.append_nil]; exact ho, by rw [hr3]; exact ht⟩
      obtain ⟨ia, ic, hi⟩ := hm1.iq.form
      simp only [List.length_nil] at hi
      rw [hi] at x2
      clear hr1 hr2 hr3 hr4 ho ht hm1 hc1 ho1 hi H3 H4
      go_wp2_with fail
      go_ret
      exact hF.out
    | cons r rest =>
      have hgk : gk = rest.length + 1 := by rw [← hr1]; simp
      obtain ⟨k, hk⟩ : ∃ k, rest.length = k := ⟨_, rfl⟩
      have HK := Lib.hid hk
      rw [hk] at hgk
      subst hgk
      rcases hm1.iq.inv with ⟨_, e0⟩ | ⟨b, cap, he, hcp, _, _, _⟩
      · cases e0
      have hiq := hm1.iq
      simp only [List.length_cons, hk] at he
      rw [he] at hiq x2
      obtain ⟨y0, y1⟩ := hiq.cells 0 r rfl
      rw [Nat.zero_mul] at y0 y1
      have l0 : (0 : Int) < ((k + 1 : Nat) : Int) := by omega
      obtain ⟨k1, hk1⟩ : ∃ k1, k + 1 = k1 := ⟨_, rfl⟩
      rw [hk1] at x2 l0
      by_cases hT : r.1 ≤ T
      · obtain ⟨c3, c4⟩ := reap_cons T r rest hT
        rw [c3] at hr3
        rw [c4] at hr4
        have HW := Lib.hid (wake_any hm1 (by show (r :: rest).length ≤ 1000000; rw [List.length_cons, hk]; have := HL.out; omega) 0 r rfl)
        obtain ⟨r0, r1⟩ := r
        simp only at y0 y1 hT hr4
        have HR3 := Lib.hid hr3
        have HC1 := Lib.hid hc1
        have HO1 := Lib.hid ho1
        have HR4 := Lib.hid hr4
        have HD : Hid (d.length ≤ 100000 ∧ d.length + (k + 1) = n) := Lib.hid (by have := HL.out; omega)
        clear hr1 hr2 hr3 hr4 ho ht hm1 hc1 ho1 he hcp hiq c3 c4 H3 H4
        go_wp2_with fail
        refine HW.out.mono ?_
        rintro e w2 ⟨rfl, ht2⟩
        have ho2 : OI w.heap.size w2 u5 d := oi_turned HO.out HM.out ht2
        have HO2 := Lib.hid ho2
        have HT2 : Hid (Turned B w mo g m { q with idle := rest } w2) := Lib.hid (turned_then HC1.out HO1.out ht2)
        have hsz : w.heap.size ≤ w2.heap.size := by
          obtain ⟨m', t1, t2, t3⟩ := HT2.out
          exact t2.size
        have HSZ := Lib.hid hsz
        clear ho2 ht2 hsz
        go_wp2_with (at_builtin; go_loud (refine LN.wpList_app_int w.heap.size u5 d r1 w2.heap.size rfl _ _ rfl rfl (HO2.out.below ((Below.refl _ _).alloc (Nat.le_refl _) _)) rfl (Bk.new _ _ _) (by have := HD.out.1; omega) (by have := HSZ.out; simp; omega) ?_); intro g9 cap9 w9 o9 gr9)
        have ht9 := turned_int (HT2.out.post ((Below.refl _ _).alloc (Nat.le_refl _) (.cells #[nV r1] 3))) (HO2.out.below ((Below.refl _ _).alloc (Nat.le_refl _) _)) gr9
        have HT9 := Lib.hid ht9
        have ho9 : OI w.heap.size w9 (.slice (some ⟨g9, 0, none⟩) (d.length + 1) cap9) (d ++ [r1]) := o9
        have HO9 := Lib.hid ho9
        clear o9 gr9 ht9 ho9
        go_roundg k
        case measure => exact Nat.lt_succ_self _
        case rel => exact ⟨d ++ [r1], rest, HK.out, by rw [List.length_append]; have := HD.out.2; simp; omega, HR3.out, by rw [HR4.out, List.append_assoc]; rfl, HO9.out, HT9.out⟩
      · obtain ⟨c3, c4⟩ := reap_stop T r rest hT
        rw [c3] at hr3
        rw [c4, List.append_nil] at hr4
        have hF : Hid (∃ v, Ending.returned u5 = .returned v ∧ OI w.heap.size wr v (reapD T q.idle) ∧ Turned B w mo g m { q with idle := reapL T q.idle } wr) := Lib.hid ⟨u5, rfl, by rw [hr4]; exact ho, by rw [hr3]; exact ht⟩
        obtain ⟨r0, r1⟩ := r
        simp only at y0 y1 hT
        clear hr1 hr2 hr3 hr4 ho ht hm1 hc1 ho1 he hcp hiq c3 c4 H3 H4
        go_wp2_with fail
        go_ret
        exact hF.out
end
end Go.Proofs.Ytochjbmighijgaa.PO
