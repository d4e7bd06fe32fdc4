/- Package cache: Drop. Conditions: how long keys are, how many puts there were.
   Lists of keys: rows of four cells, read and owned; package cache's parsed. Conditions: how many, how long the texts are.
   slices.Grow of no list, slices.Concat of two lists of texts. Conditions: how many. -/
import Derived.Test.YtjngangojgjceaaGreatG16
import Derived.Test.YtjngangojgjceaaGreatG7
import Derived.Lib.AppendZerosOnto
set_option linter.unusedSimpArgs false
set_option linter.unusedVariables false
namespace Go.Proofs.YtjngangojgjceaaGreat.CA
open Go.ChangeShapes Go.WideShapes Go.ChangeAt Go.RowKit Go.Maps Go.ChangeMaps
open Go.Proofs.YtjngangojgjceaaGreat.SL Go.Proofs.YtjngangojgjceaaGreat.EX
set_option maxRecDepth 100000
set_option linter.unusedVariables false
set_option linter.unusedSimpArgs false

theorem fit_text {k : Ky} (hk : FitK k) (hr : rightK k = true) : (textK k).size ≤ 281474976710656 := by
  have := text_size hr
  obtain ⟨h1, h2, h3, _⟩ := hk
  omega
def FalseB (w : World) (e : Ending) (w' : World) : Prop := e = .returned (.bool false) ∧ Below w.heap.size w w'
set_option maxHeartbeats 2000000 in
theorem drop_no {w : World} {r : Value} (k : Ky) (hf : ∀ W, Below w.heap.size w W → Calls Tryz.prog 45 #[r, kyV k] W (FinC none W)) :
    Calls Tryz.prog 14 #[r, kyV k] w (FalseB w) := by
  obtain ⟨kb, hkb⟩ : ∃ b, w.heap.size = b := ⟨_, rfl⟩
  obtain ⟨W0, hW0⟩ : ∃ W, w.alloc (.cells (kC k) 32) = W := ⟨_, rfl⟩
  have hb0 : Below w.heap.size w W0 := by rw [← hW0]; exact (Below.refl _ _).alloc (Nat.le_refl _) _
  have kk : Bk W0 kb 32 (kC k) := by rw [← hW0, ← hkb]; exact Bk.new _ _ _
  have HF := Lib.hid (hf W0 hb0)
  have HB := Lib.hid hb0
  obtain ⟨db, ro, fm, no⟩ := k
  have a0 : W0.cell? ⟨kb, 0, none⟩ = some (.string db) := kk.cell 0
  have a1 : W0.cell? ⟨kb, 1, none⟩ = some (.string ro) := kk.cell 1
  have a2 : W0.cell? ⟨kb, 2, none⟩ = some (.int .i64 fm) := kk.cell 2
  have a3 : W0.cell? ⟨kb, 3, none⟩ = some (.string no) := kk.cell 3
  unfold FalseB
  clear hf hb0 kk
  go_enter Tryz.func14, Tryz.ntmps14
  go_wp2_with fail
  refine HF.out.mono ?_
  rintro e w2 ⟨rfl, hb2⟩
  have HB := Lib.hid (HB.out.trans (hb2.mono HB.out.size))
  clear hb2 HF hW0 hkb a0 a1 a2 a3
  go_wp2
  go_ret
  exact ⟨rfl, HB.out.alloc HB.out.size _⟩
theorem drop_nil (k : Ky) (w : World) : Calls Tryz.prog 14 #[.pointer none, kyV k] w (FalseB w) := drop_no k fun W _ => CA.find_nil k W
theorem drop_zero (k : Ky) (w : World) (g : Nat) (h : w.cell? ⟨g, 0, none⟩ = some (.pointer none)) : Calls Tryz.prog 14 #[ptr g, kyV k] w (FalseB w) :=
  drop_no k fun W hb => CA.find_zero k W g ((hb.cell (p := ⟨g, 0, none⟩) (World.block_lt_of_cell? w _ h)).trans h)
section
variable {w0 w : World} {C : Cb} {N : Nat} {σ : Sg} {O : List Kp}
theorem lc_drop_no (h : LC w0 w C N σ O) (k : Ky) (hk : FitK k) (hf : fV σ.V k = none) : Calls Tryz.prog 14 #[ptr C.g, kyV k] w (RetC w0 C N σ O (.bool false)) := by
  refine (drop_no k fun W hb => by have := CA.find_any (h.below hb) k hk; rw [hf] at this; exact this).mono ?_
  rintro e w' ⟨rfl, hb⟩
  exact ⟨rfl, h.below hb⟩
set_option maxHeartbeats 8000000 in
theorem lc_drop_yes (h : LC w0 w C N σ O) (k : Ky) (hk : FitK k) (hN : N ≤ 480) (e : Ce) (hf : fV σ.V k = some e) : Calls Tryz.prog 14 #[ptr C.g, kyV k] w (RetC w0 C N (dropS (textK k) σ) O (.bool true)) := by
  obtain ⟨hr, he1, _⟩ := fV_some hf
  obtain ⟨et, ev⟩ := e
  simp only at he1
  have hts := fit_text hk hr
  obtain ⟨kb, hkb⟩ : ∃ b, w.heap.size = b := ⟨_, rfl⟩
  obtain ⟨W0, hW0⟩ : ∃ W, w.alloc (.cells (kC k) 32) = W := ⟨_, rfl⟩
  have hb0 : Below w.heap.size w W0 := by rw [← hW0]; exact (Below.refl _ _).alloc (Nat.le_refl _) _
  have kk : Bk W0 kb 32 (kC k) := by rw [← hW0, ← hkb]; exact Bk.new _ _ _
  have h1 := h.blkO hb0 (Nat.le_of_eq hkb) kk
  have hfi := CA.find_any h1 k hk
  rw [hf] at hfi
  have HF := Lib.hid hfi
  have hmd : ∀ (W : World) (σ2 : Sg) (O2 : List Kp), LC w0 W C N σ2 O2 → ∀ ty : TypeId, ∃ w', (Builtin.delete_ #[57, 32] ty #[.map (some C.m), kyV k]).run Tryz.prog W = .ok (.tuple #[]) w' ∧ LC w0 w' C N ⟨σ2.T, σ2.K, σ2.I, delV (textK k) σ2.V⟩ O2 := fun W σ2 O2 hx ty => lc_mdel hx k hk hr ty
  have HMD := Lib.hid hmd
  clear hmd
  have H := Lib.hid h1
  have HTS := Lib.hid hts
  have HN := Lib.hid hN
  rw [← he1] at HTS
  rw [← he1] at HMD
  unfold RetC
  rw [← he1]
  obtain ⟨db, ro, fm, no⟩ := k
  have a0 : W0.cell? ⟨kb, 0, none⟩ = some (.string db) := kk.cell 0
  have a1 : W0.cell? ⟨kb, 1, none⟩ = some (.string ro) := kk.cell 1
  have a2 : W0.cell? ⟨kb, 2, none⟩ = some (.int .i64 fm) := kk.cell 2
  have a3 : W0.cell? ⟨kb, 3, none⟩ = some (.string no) := kk.cell 3
  clear h hk hN hf hr he1 hts hb0 kk h1 hfi
  go_enter Tryz.func14, Tryz.ntmps14
  go_wp2_with fail
  try rw [hW0]
  refine HF.out.mono ?_
  rintro e w2 ⟨rfl, hb2⟩
  have HS0 : Hid (W0.heap.size ≤ w2.heap.size) := Lib.hid hb2.size
  have H := Lib.hid (H.out.below hb2)
  obtain ⟨W3, hW3⟩ : ∃ W, w2.alloc (.cells #[.string et, .string ev] 90) = W := ⟨_, rfl⟩
  obtain ⟨eb, heb⟩ : ∃ b, w2.heap.size = b := ⟨_, rfl⟩
  have hb3 : Below w2.heap.size w2 W3 := by rw [← hW3]; exact (Below.refl _ _).alloc (Nat.le_refl _) _
  have ke : Bk W3 eb 90 #[.string et, .string ev] := by rw [← hW3, ← heb]; exact Bk.new _ _ _
  have H := Lib.hid (H.out.blkO hb3 (Nat.le_of_eq heb) ke)
  obtain ⟨c0, c1, c2, c3, c4⟩ := H.out.cells
  have e0 : W3.cell? ⟨eb, 0, none⟩ = some (.string et) := ke.cell 0
  have e1 : W3.cell? ⟨eb, 1, none⟩ = some (.string ev) := ke.cell 1
  clear hb2 hb3 ke HF hW0 hkb a0 a1 a2 a3
  go_wp2_with fail
  try rw [hW3]
  try rw [heb]
  refine wp_region_held_drew (S := (fun w' => ∃ σ', LC w0 w' C N σ' (.blk eb 90 #[.string et, .string ev] :: .blk kb 32 (kC (db, ro, fm, no)) :: O))) (by kernel_rfl) ?_ (fun hS => ?_)
  · exact ⟨_, H.out.below (Below.refl _ _).drew⟩
  refine tkY 0 ?_ rfl hS ?_ ?_
  rotate_left
  · intro wz hz
    obtain ⟨σ9, hz⟩ := hz
    obtain ⟨z0, z1, z2, z3, z4⟩ := hz.cells
    have y0 : wz.cell? ⟨eb, 0, none⟩ = some (.string et) := (hz.blk (List.mem_cons_self ..)).cell 0
    have y1 : wz.cell? ⟨eb, 1, none⟩ = some (.string ev) := (hz.blk (List.mem_cons_self ..)).cell 1
    have q0 : wz.cell? ⟨kb, 0, none⟩ = some (.string db) := (hz.blk (List.mem_cons_of_mem _ (List.mem_cons_self ..))).cell 0
    have q1 : wz.cell? ⟨kb, 1, none⟩ = some (.string ro) := (hz.blk (List.mem_cons_of_mem _ (List.mem_cons_self ..))).cell 1
    have q2 : wz.cell? ⟨kb, 2, none⟩ = some (.int .i64 fm) := (hz.blk (List.mem_cons_of_mem _ (List.mem_cons_self ..))).cell 2
    have q3 : wz.cell? ⟨kb, 3, none⟩ = some (.string no) := (hz.blk (List.mem_cons_of_mem _ (List.mem_cons_self ..))).cell 3
    go_simp
    all_goals first | with_reducible rfl | omega
  try simp only [Act.put, pu]
  refine tkY 1 ?_ rfl hS ?_ ?_
  rotate_left
  · intro wz hz
    obtain ⟨σ9, hz⟩ := hz
    obtain ⟨z0, z1, z2, z3, z4⟩ := hz.cells
    have y0 : wz.cell? ⟨eb, 0, none⟩ = some (.string et) := (hz.blk (List.mem_cons_self ..)).cell 0
    have y1 : wz.cell? ⟨eb, 1, none⟩ = some (.string ev) := (hz.blk (List.mem_cons_self ..)).cell 1
    have q0 : wz.cell? ⟨kb, 0, none⟩ = some (.string db) := (hz.blk (List.mem_cons_of_mem _ (List.mem_cons_self ..))).cell 0
    have q1 : wz.cell? ⟨kb, 1, none⟩ = some (.string ro) := (hz.blk (List.mem_cons_of_mem _ (List.mem_cons_self ..))).cell 1
    have q2 : wz.cell? ⟨kb, 2, none⟩ = some (.int .i64 fm) := (hz.blk (List.mem_cons_of_mem _ (List.mem_cons_self ..))).cell 2
    have q3 : wz.cell? ⟨kb, 3, none⟩ = some (.string no) := (hz.blk (List.mem_cons_of_mem _ (List.mem_cons_self ..))).cell 3
    go_simp
    all_goals first | with_reducible rfl | omega
  try simp only [Act.put, pu]
  refine tkY 2 ?_ rfl hS ?_ ?_
  rotate_left
  · intro wz hz
    obtain ⟨σ9, hz⟩ := hz
    obtain ⟨z0, z1, z2, z3, z4⟩ := hz.cells
    have y0 : wz.cell? ⟨eb, 0, none⟩ = some (.string et) := (hz.blk (List.mem_cons_self ..)).cell 0
    have y1 : wz.cell? ⟨eb, 1, none⟩ = some (.string ev) := (hz.blk (List.mem_cons_self ..)).cell 1
    have q0 : wz.cell? ⟨kb, 0, none⟩ = some (.string db) := (hz.blk (List.mem_cons_of_mem _ (List.mem_cons_self ..))).cell 0
    have q1 : wz.cell? ⟨kb, 1, none⟩ = some (.string ro) := (hz.blk (List.mem_cons_of_mem _ (List.mem_cons_self ..))).cell 1
    have q2 : wz.cell? ⟨kb, 2, none⟩ = some (.int .i64 fm) := (hz.blk (List.mem_cons_of_mem _ (List.mem_cons_self ..))).cell 2
    have q3 : wz.cell? ⟨kb, 3, none⟩ = some (.string no) := (hz.blk (List.mem_cons_of_mem _ (List.mem_cons_self ..))).cell 3
    go_simp
    all_goals first | with_reducible rfl | omega
  try simp only [Act.put, pu]
  refine tkY 3 ?_ rfl hS ?_ ?_
  rotate_left
  · intro wz hz
    obtain ⟨σ9, hz⟩ := hz
    obtain ⟨z0, z1, z2, z3, z4⟩ := hz.cells
    have y0 : wz.cell? ⟨eb, 0, none⟩ = some (.string et) := (hz.blk (List.mem_cons_self ..)).cell 0
    have y1 : wz.cell? ⟨eb, 1, none⟩ = some (.string ev) := (hz.blk (List.mem_cons_self ..)).cell 1
    have q0 : wz.cell? ⟨kb, 0, none⟩ = some (.string db) := (hz.blk (List.mem_cons_of_mem _ (List.mem_cons_self ..))).cell 0
    have q1 : wz.cell? ⟨kb, 1, none⟩ = some (.string ro) := (hz.blk (List.mem_cons_of_mem _ (List.mem_cons_self ..))).cell 1
    have q2 : wz.cell? ⟨kb, 2, none⟩ = some (.int .i64 fm) := (hz.blk (List.mem_cons_of_mem _ (List.mem_cons_self ..))).cell 2
    have q3 : wz.cell? ⟨kb, 3, none⟩ = some (.string no) := (hz.blk (List.mem_cons_of_mem _ (List.mem_cons_self ..))).cell 3
    go_simp
    all_goals first | with_reducible rfl | omega
  try simp only [Act.put, pu]
  refine tkY 4 ?_ rfl hS ?_ ?_
  rotate_left
  · intro wz hz
    obtain ⟨σ9, hz⟩ := hz
    obtain ⟨z0, z1, z2, z3, z4⟩ := hz.cells
    have y0 : wz.cell? ⟨eb, 0, none⟩ = some (.string et) := (hz.blk (List.mem_cons_self ..)).cell 0
    have y1 : wz.cell? ⟨eb, 1, none⟩ = some (.string ev) := (hz.blk (List.mem_cons_self ..)).cell 1
    have q0 : wz.cell? ⟨kb, 0, none⟩ = some (.string db) := (hz.blk (List.mem_cons_of_mem _ (List.mem_cons_self ..))).cell 0
    have q1 : wz.cell? ⟨kb, 1, none⟩ = some (.string ro) := (hz.blk (List.mem_cons_of_mem _ (List.mem_cons_self ..))).cell 1
    have q2 : wz.cell? ⟨kb, 2, none⟩ = some (.int .i64 fm) := (hz.blk (List.mem_cons_of_mem _ (List.mem_cons_self ..))).cell 2
    have q3 : wz.cell? ⟨kb, 3, none⟩ = some (.string no) := (hz.blk (List.mem_cons_of_mem _ (List.mem_cons_self ..))).cell 3
    go_simp
    all_goals first | with_reducible rfl | omega
  try simp only [Act.put, pu]
  refine tkY 5 ?_ rfl hS ?_ ?_
  rotate_left
  · intro wz hz
    obtain ⟨σ9, hz⟩ := hz
    obtain ⟨z0, z1, z2, z3, z4⟩ := hz.cells
    have y0 : wz.cell? ⟨eb, 0, none⟩ = some (.string et) := (hz.blk (List.mem_cons_self ..)).cell 0
    have y1 : wz.cell? ⟨eb, 1, none⟩ = some (.string ev) := (hz.blk (List.mem_cons_self ..)).cell 1
    have q0 : wz.cell? ⟨kb, 0, none⟩ = some (.string db) := (hz.blk (List.mem_cons_of_mem _ (List.mem_cons_self ..))).cell 0
    have q1 : wz.cell? ⟨kb, 1, none⟩ = some (.string ro) := (hz.blk (List.mem_cons_of_mem _ (List.mem_cons_self ..))).cell 1
    have q2 : wz.cell? ⟨kb, 2, none⟩ = some (.int .i64 fm) := (hz.blk (List.mem_cons_of_mem _ (List.mem_cons_self ..))).cell 2
    have q3 : wz.cell? ⟨kb, 3, none⟩ = some (.string no) := (hz.blk (List.mem_cons_of_mem _ (List.mem_cons_self ..))).cell 3
    go_simp
    all_goals first | with_reducible rfl | omega
  try simp only [Act.put, pu]
  refine wpAnyH_ready (rs := [6]) (by kernel_rfl) (by simp) (AllReadyH.cons rfl (fun K' hK' => ?_) AllReadyH.nil)
  go_simp
  refine (lc_sdrop (H.out.below (Below.refl _ _).drew) et HTS.out _ _ rfl rfl).mono ?_
  rintro e w4 ⟨⟨b4, rfl⟩, h4⟩
  have H := Lib.hid h4
  clear h4
  refine hK'.out _ _ ?_ (fun hSn => ?_)
  · exact ⟨_, H.out⟩
  clear hK' K' hS
  have hS := hSn
  clear hSn
  try simp only [Act.put, pu]
  refine wpAnyH_done (by kernel_rfl) ?_ _
  clear hS
  obtain ⟨c0, c1, c2, c3, c4⟩ := H.out.cells
  have e0 : w4.cell? ⟨eb, 0, none⟩ = some (.string et) := (H.out.blk (List.mem_cons_self ..)).cell 0
  have e1 : w4.cell? ⟨eb, 1, none⟩ = some (.string ev) := (H.out.blk (List.mem_cons_self ..)).cell 1
  go_wp2_with fail
  refine wp_region_held_drew (S := (fun w' => ∃ σ', LC w0 w' C N σ' (.blk eb 90 #[.string et, .string ev] :: .blk kb 32 (kC (db, ro, fm, no)) :: O))) (by kernel_rfl) ?_ (fun hS => ?_)
  · exact ⟨_, H.out.below (Below.refl _ _).drew⟩
  refine tkY 0 ?_ rfl hS ?_ ?_
  rotate_left
  · intro wz hz
    obtain ⟨σ9, hz⟩ := hz
    obtain ⟨z0, z1, z2, z3, z4⟩ := hz.cells
    have y0 : wz.cell? ⟨eb, 0, none⟩ = some (.string et) := (hz.blk (List.mem_cons_self ..)).cell 0
    have y1 : wz.cell? ⟨eb, 1, none⟩ = some (.string ev) := (hz.blk (List.mem_cons_self ..)).cell 1
    have q0 : wz.cell? ⟨kb, 0, none⟩ = some (.string db) := (hz.blk (List.mem_cons_of_mem _ (List.mem_cons_self ..))).cell 0
    have q1 : wz.cell? ⟨kb, 1, none⟩ = some (.string ro) := (hz.blk (List.mem_cons_of_mem _ (List.mem_cons_self ..))).cell 1
    have q2 : wz.cell? ⟨kb, 2, none⟩ = some (.int .i64 fm) := (hz.blk (List.mem_cons_of_mem _ (List.mem_cons_self ..))).cell 2
    have q3 : wz.cell? ⟨kb, 3, none⟩ = some (.string no) := (hz.blk (List.mem_cons_of_mem _ (List.mem_cons_self ..))).cell 3
    go_simp
    all_goals first | with_reducible rfl | omega
  try simp only [Act.put, pu]
  refine tkY 1 ?_ rfl hS ?_ ?_
  rotate_left
  · intro wz hz
    obtain ⟨σ9, hz⟩ := hz
    obtain ⟨z0, z1, z2, z3, z4⟩ := hz.cells
    have y0 : wz.cell? ⟨eb, 0, none⟩ = some (.string et) := (hz.blk (List.mem_cons_self ..)).cell 0
    have y1 : wz.cell? ⟨eb, 1, none⟩ = some (.string ev) := (hz.blk (List.mem_cons_self ..)).cell 1
    have q0 : wz.cell? ⟨kb, 0, none⟩ = some (.string db) := (hz.blk (List.mem_cons_of_mem _ (List.mem_cons_self ..))).cell 0
    have q1 : wz.cell? ⟨kb, 1, none⟩ = some (.string ro) := (hz.blk (List.mem_cons_of_mem _ (List.mem_cons_self ..))).cell 1
    have q2 : wz.cell? ⟨kb, 2, none⟩ = some (.int .i64 fm) := (hz.blk (List.mem_cons_of_mem _ (List.mem_cons_self ..))).cell 2
    have q3 : wz.cell? ⟨kb, 3, none⟩ = some (.string no) := (hz.blk (List.mem_cons_of_mem _ (List.mem_cons_self ..))).cell 3
    go_simp
    all_goals first | with_reducible rfl | omega
  try simp only [Act.put, pu]
  refine tkY 2 ?_ rfl hS ?_ ?_
  rotate_left
  · intro wz hz
    obtain ⟨σ9, hz⟩ := hz
    obtain ⟨z0, z1, z2, z3, z4⟩ := hz.cells
    have y0 : wz.cell? ⟨eb, 0, none⟩ = some (.string et) := (hz.blk (List.mem_cons_self ..)).cell 0
    have y1 : wz.cell? ⟨eb, 1, none⟩ = some (.string ev) := (hz.blk (List.mem_cons_self ..)).cell 1
    have q0 : wz.cell? ⟨kb, 0, none⟩ = some (.string db) := (hz.blk (List.mem_cons_of_mem _ (List.mem_cons_self ..))).cell 0
    have q1 : wz.cell? ⟨kb, 1, none⟩ = some (.string ro) := (hz.blk (List.mem_cons_of_mem _ (List.mem_cons_self ..))).cell 1
    have q2 : wz.cell? ⟨kb, 2, none⟩ = some (.int .i64 fm) := (hz.blk (List.mem_cons_of_mem _ (List.mem_cons_self ..))).cell 2
    have q3 : wz.cell? ⟨kb, 3, none⟩ = some (.string no) := (hz.blk (List.mem_cons_of_mem _ (List.mem_cons_self ..))).cell 3
    go_simp
    all_goals first | with_reducible rfl | omega
  try simp only [Act.put, pu]
  refine tkY 3 ?_ rfl hS ?_ ?_
  rotate_left
  · intro wz hz
    obtain ⟨σ9, hz⟩ := hz
    obtain ⟨z0, z1, z2, z3, z4⟩ := hz.cells
    have y0 : wz.cell? ⟨eb, 0, none⟩ = some (.string et) := (hz.blk (List.mem_cons_self ..)).cell 0
    have y1 : wz.cell? ⟨eb, 1, none⟩ = some (.string ev) := (hz.blk (List.mem_cons_self ..)).cell 1
    have q0 : wz.cell? ⟨kb, 0, none⟩ = some (.string db) := (hz.blk (List.mem_cons_of_mem _ (List.mem_cons_self ..))).cell 0
    have q1 : wz.cell? ⟨kb, 1, none⟩ = some (.string ro) := (hz.blk (List.mem_cons_of_mem _ (List.mem_cons_self ..))).cell 1
    have q2 : wz.cell? ⟨kb, 2, none⟩ = some (.int .i64 fm) := (hz.blk (List.mem_cons_of_mem _ (List.mem_cons_self ..))).cell 2
    have q3 : wz.cell? ⟨kb, 3, none⟩ = some (.string no) := (hz.blk (List.mem_cons_of_mem _ (List.mem_cons_self ..))).cell 3
    go_simp
    all_goals first | with_reducible rfl | omega
  try simp only [Act.put, pu]
  refine tkY 4 ?_ rfl hS ?_ ?_
  rotate_left
  · intro wz hz
    obtain ⟨σ9, hz⟩ := hz
    obtain ⟨z0, z1, z2, z3, z4⟩ := hz.cells
    have y0 : wz.cell? ⟨eb, 0, none⟩ = some (.string et) := (hz.blk (List.mem_cons_self ..)).cell 0
    have y1 : wz.cell? ⟨eb, 1, none⟩ = some (.string ev) := (hz.blk (List.mem_cons_self ..)).cell 1
    have q0 : wz.cell? ⟨kb, 0, none⟩ = some (.string db) := (hz.blk (List.mem_cons_of_mem _ (List.mem_cons_self ..))).cell 0
    have q1 : wz.cell? ⟨kb, 1, none⟩ = some (.string ro) := (hz.blk (List.mem_cons_of_mem _ (List.mem_cons_self ..))).cell 1
    have q2 : wz.cell? ⟨kb, 2, none⟩ = some (.int .i64 fm) := (hz.blk (List.mem_cons_of_mem _ (List.mem_cons_self ..))).cell 2
    have q3 : wz.cell? ⟨kb, 3, none⟩ = some (.string no) := (hz.blk (List.mem_cons_of_mem _ (List.mem_cons_self ..))).cell 3
    go_simp
    all_goals first | with_reducible rfl | omega
  try simp only [Act.put, pu]
  refine tkY 5 ?_ rfl hS ?_ ?_
  rotate_left
  · intro wz hz
    obtain ⟨σ9, hz⟩ := hz
    obtain ⟨z0, z1, z2, z3, z4⟩ := hz.cells
    have y0 : wz.cell? ⟨eb, 0, none⟩ = some (.string et) := (hz.blk (List.mem_cons_self ..)).cell 0
    have y1 : wz.cell? ⟨eb, 1, none⟩ = some (.string ev) := (hz.blk (List.mem_cons_self ..)).cell 1
    have q0 : wz.cell? ⟨kb, 0, none⟩ = some (.string db) := (hz.blk (List.mem_cons_of_mem _ (List.mem_cons_self ..))).cell 0
    have q1 : wz.cell? ⟨kb, 1, none⟩ = some (.string ro) := (hz.blk (List.mem_cons_of_mem _ (List.mem_cons_self ..))).cell 1
    have q2 : wz.cell? ⟨kb, 2, none⟩ = some (.int .i64 fm) := (hz.blk (List.mem_cons_of_mem _ (List.mem_cons_self ..))).cell 2
    have q3 : wz.cell? ⟨kb, 3, none⟩ = some (.string no) := (hz.blk (List.mem_cons_of_mem _ (List.mem_cons_self ..))).cell 3
    go_simp
    all_goals first | with_reducible rfl | omega
  try simp only [Act.put, pu]
  refine wpAnyH_ready (rs := [6]) (by kernel_rfl) (by simp) (AllReadyH.cons rfl (fun K' hK' => ?_) AllReadyH.nil)
  go_simp
  refine (lc_qdrop (H.out.below (Below.refl _ _).drew) et HTS.out (by have := HN.out; omega) _ rfl).mono ?_
  rintro e w5 ⟨⟨b5, rfl⟩, h5⟩
  have H := Lib.hid h5
  clear h5
  refine hK'.out _ _ ?_ (fun hSn => ?_)
  · exact ⟨_, H.out⟩
  clear hK' K' hS
  have hS := hSn
  clear hSn
  try simp only [Act.put, pu]
  refine wpAnyH_done (by kernel_rfl) ?_ _
  clear hS
  obtain ⟨c0, c1, c2, c3, c4⟩ := H.out.cells
  have q0 : w5.cell? ⟨kb, 0, none⟩ = some (.string db) := (H.out.blk (List.mem_cons_of_mem _ (List.mem_cons_self ..))).cell 0
  have q1 : w5.cell? ⟨kb, 1, none⟩ = some (.string ro) := (H.out.blk (List.mem_cons_of_mem _ (List.mem_cons_self ..))).cell 1
  have q2 : w5.cell? ⟨kb, 2, none⟩ = some (.int .i64 fm) := (H.out.blk (List.mem_cons_of_mem _ (List.mem_cons_self ..))).cell 2
  have q3 : w5.cell? ⟨kb, 3, none⟩ = some (.string no) := (H.out.blk (List.mem_cons_of_mem _ (List.mem_cons_self ..))).cell 3
  go_wp2_with fail
  refine wp_region_held_drew (S := (fun w' => ∃ σ', LC w0 w' C N σ' (.blk eb 90 #[.string et, .string ev] :: .blk kb 32 (kC (db, ro, fm, no)) :: O))) (by kernel_rfl) ?_ (fun hS => ?_)
  · exact ⟨_, H.out.below (Below.refl _ _).drew⟩
  refine tkY 0 ?_ rfl hS ?_ ?_
  rotate_left
  · intro wz hz
    obtain ⟨σ9, hz⟩ := hz
    obtain ⟨z0, z1, z2, z3, z4⟩ := hz.cells
    have y0 : wz.cell? ⟨eb, 0, none⟩ = some (.string et) := (hz.blk (List.mem_cons_self ..)).cell 0
    have y1 : wz.cell? ⟨eb, 1, none⟩ = some (.string ev) := (hz.blk (List.mem_cons_self ..)).cell 1
    have q0 : wz.cell? ⟨kb, 0, none⟩ = some (.string db) := (hz.blk (List.mem_cons_of_mem _ (List.mem_cons_self ..))).cell 0
    have q1 : wz.cell? ⟨kb, 1, none⟩ = some (.string ro) := (hz.blk (List.mem_cons_of_mem _ (List.mem_cons_self ..))).cell 1
    have q2 : wz.cell? ⟨kb, 2, none⟩ = some (.int .i64 fm) := (hz.blk (List.mem_cons_of_mem _ (List.mem_cons_self ..))).cell 2
    have q3 : wz.cell? ⟨kb, 3, none⟩ = some (.string no) := (hz.blk (List.mem_cons_of_mem _ (List.mem_cons_self ..))).cell 3
    go_simp
    all_goals first | with_reducible rfl | omega
  try simp only [Act.put, pu]
  refine tkY 1 ?_ rfl hS ?_ ?_
  rotate_left
  · intro wz hz
    obtain ⟨σ9, hz⟩ := hz
    obtain ⟨z0, z1, z2, z3, z4⟩ := hz.cells
    have y0 : wz.cell? ⟨eb, 0, none⟩ = some (.string et) := (hz.blk (List.mem_cons_self ..)).cell 0
    have y1 : wz.cell? ⟨eb, 1, none⟩ = some (.string ev) := (hz.blk (List.mem_cons_self ..)).cell 1
    have q0 : wz.cell? ⟨kb, 0, none⟩ = some (.string db) := (hz.blk (List.mem_cons_of_mem _ (List.mem_cons_self ..))).cell 0
    have q1 : wz.cell? ⟨kb, 1, none⟩ = some (.string ro) := (hz.blk (List.mem_cons_of_mem _ (List.mem_cons_self ..))).cell 1
    have q2 : wz.cell? ⟨kb, 2, none⟩ = some (.int .i64 fm) := (hz.blk (List.mem_cons_of_mem _ (List.mem_cons_self ..))).cell 2
    have q3 : wz.cell? ⟨kb, 3, none⟩ = some (.string no) := (hz.blk (List.mem_cons_of_mem _ (List.mem_cons_self ..))).cell 3
    go_simp
    all_goals first | with_reducible rfl | omega
  try simp only [Act.put, pu]
  refine tkY 2 ?_ rfl hS ?_ ?_
  rotate_left
  · intro wz hz
    obtain ⟨σ9, hz⟩ := hz
    obtain ⟨z0, z1, z2, z3, z4⟩ := hz.cells
    have y0 : wz.cell? ⟨eb, 0, none⟩ = some (.string et) := (hz.blk (List.mem_cons_self ..)).cell 0
    have y1 : wz.cell? ⟨eb, 1, none⟩ = some (.string ev) := (hz.blk (List.mem_cons_self ..)).cell 1
    have q0 : wz.cell? ⟨kb, 0, none⟩ = some (.string db) := (hz.blk (List.mem_cons_of_mem _ (List.mem_cons_self ..))).cell 0
    have q1 : wz.cell? ⟨kb, 1, none⟩ = some (.string ro) := (hz.blk (List.mem_cons_of_mem _ (List.mem_cons_self ..))).cell 1
    have q2 : wz.cell? ⟨kb, 2, none⟩ = some (.int .i64 fm) := (hz.blk (List.mem_cons_of_mem _ (List.mem_cons_self ..))).cell 2
    have q3 : wz.cell? ⟨kb, 3, none⟩ = some (.string no) := (hz.blk (List.mem_cons_of_mem _ (List.mem_cons_self ..))).cell 3
    go_simp
    all_goals first | with_reducible rfl | omega
  try simp only [Act.put, pu]
  refine tkY 3 ?_ rfl hS ?_ ?_
  rotate_left
  · intro wz hz
    obtain ⟨σ9, hz⟩ := hz
    obtain ⟨z0, z1, z2, z3, z4⟩ := hz.cells
    have y0 : wz.cell? ⟨eb, 0, none⟩ = some (.string et) := (hz.blk (List.mem_cons_self ..)).cell 0
    have y1 : wz.cell? ⟨eb, 1, none⟩ = some (.string ev) := (hz.blk (List.mem_cons_self ..)).cell 1
    have q0 : wz.cell? ⟨kb, 0, none⟩ = some (.string db) := (hz.blk (List.mem_cons_of_mem _ (List.mem_cons_self ..))).cell 0
    have q1 : wz.cell? ⟨kb, 1, none⟩ = some (.string ro) := (hz.blk (List.mem_cons_of_mem _ (List.mem_cons_self ..))).cell 1
    have q2 : wz.cell? ⟨kb, 2, none⟩ = some (.int .i64 fm) := (hz.blk (List.mem_cons_of_mem _ (List.mem_cons_self ..))).cell 2
    have q3 : wz.cell? ⟨kb, 3, none⟩ = some (.string no) := (hz.blk (List.mem_cons_of_mem _ (List.mem_cons_self ..))).cell 3
    go_simp
    all_goals first | with_reducible rfl | omega
  try simp only [Act.put, pu]
  refine tkY 4 ?_ rfl hS ?_ ?_
  rotate_left
  · intro wz hz
    obtain ⟨σ9, hz⟩ := hz
    obtain ⟨z0, z1, z2, z3, z4⟩ := hz.cells
    have y0 : wz.cell? ⟨eb, 0, none⟩ = some (.string et) := (hz.blk (List.mem_cons_self ..)).cell 0
    have y1 : wz.cell? ⟨eb, 1, none⟩ = some (.string ev) := (hz.blk (List.mem_cons_self ..)).cell 1
    have q0 : wz.cell? ⟨kb, 0, none⟩ = some (.string db) := (hz.blk (List.mem_cons_of_mem _ (List.mem_cons_self ..))).cell 0
    have q1 : wz.cell? ⟨kb, 1, none⟩ = some (.string ro) := (hz.blk (List.mem_cons_of_mem _ (List.mem_cons_self ..))).cell 1
    have q2 : wz.cell? ⟨kb, 2, none⟩ = some (.int .i64 fm) := (hz.blk (List.mem_cons_of_mem _ (List.mem_cons_self ..))).cell 2
    have q3 : wz.cell? ⟨kb, 3, none⟩ = some (.string no) := (hz.blk (List.mem_cons_of_mem _ (List.mem_cons_self ..))).cell 3
    go_simp
    all_goals first | with_reducible rfl | omega
  try simp only [Act.put, pu]
  obtain ⟨w6, hrun, h6⟩ := HMD.out _ _ _ (H.out.below (Below.refl _ _).drew) 0
  have H := Lib.hid h6
  clear h6
  refine wpAnyH_ready (rs := [5]) (by kernel_rfl) (by simp) (AllReadyH.cons rfl (fun K' hK' => ?_) AllReadyH.nil)
  go_simp
  refine hK'.out _ _ ?_ (fun hSn => ?_)
  · exact ⟨_, H.out⟩
  clear hK' K' hS
  have hS := hSn
  clear hSn
  try simp only [Act.put, pu]
  refine wpAnyH_done (by kernel_rfl) ?_ _
  clear hS
  clear hrun c0 c1 c2 c3 c4 q0 q1 q2 q3 e0 e1
  go_wp2
  go_ret
  exact ⟨rfl, H.out.forget fun p hp => List.mem_cons_of_mem _ (List.mem_cons_of_mem _ hp)⟩
end
end Go.Proofs.YtjngangojgjceaaGreat.CA
namespace Go.Proofs.YtjngangojgjceaaGreat.CA
open Go.ChangeShapes Go.WideShapes Go.ChangeAt Go.RowKit Go.Maps Go.ChangeMaps
open Go.Proofs.YtjngangojgjceaaGreat.SL Go.Proofs.YtjngangojgjceaaGreat.EX Go.Proofs.YtjngangojgjceaaGreat.RW
set_option maxRecDepth 100000
set_option linter.unusedVariables false
set_option linter.unusedSimpArgs false

def kRow (k : Ky) : List Value := [.string k.1, .string k.2.1, .int .i64 k.2.2.1, .string k.2.2.2]
def kRs (d : List Ky) : List Value := fz (d.map kRow)
theorem kUni (d : List Ky) : Uni 4 (d.map kRow) := fun r hr => by
  obtain ⟨k, _, rfl⟩ := List.mem_map.1 hr; rfl
theorem kRs_len (d : List Ky) : (kRs d).length = d.length * 4 := by unfold kRs; rw [fz_len (kUni d), List.length_map]
theorem kRs_app (a b : List Ky) : kRs (a ++ b) = kRs a ++ kRs b := by unfold kRs; rw [List.map_append, fz_append]
theorem kRs_at {d : List Ky} {i : Nat} {k : Ky} (h : d[i]? = some k) (j : Nat) (hj : j < 4) : (kRs d)[i * 4 + j]? = (kRow k)[j]? := by
  unfold kRs
  exact fz_at (kUni d) (by rw [List.getElem?_map, h]; rfl) j hj
/-- v is a slice of keys that reads as d -/
def KR (w : World) (v : Value) (d : List Ky) : Prop :=
  (∃ A cap, v = .slice A 0 cap ∧ d = []) ∨
  ∃ b off cap, v = .slice (some ⟨b, off, none⟩) d.length cap ∧ d.length ≤ cap ∧ ∀ (i : Nat) (k : Ky), d[i]? = some k → w.cell? ⟨b, off + i * 4, none⟩ = some (.string k.1) ∧ w.cell? ⟨b, off + i * 4 + 1, none⟩ = some (.string k.2.1) ∧ w.cell? ⟨b, off + i * 4 + 2, none⟩ = some (.int .i64 k.2.2.1) ∧ w.cell? ⟨b, off + i * 4 + 3, none⟩ = some (.string k.2.2.2)
/-- the call owns the keys, of the type te -/
def KO (te : TypeId) (B : Nat) (w : World) (v : Value) (d : List Ky) : Prop := w.ownsRow B te 4 v d.length (kRs d)
section
variable {te : TypeId} {B : Nat} {w w' : World} {v : Value} {d : List Ky}
theorem KR.keep (h : KR w v d) (hk : ∀ p : Addr, (w.cell? p).isSome = true → w'.cell? p = w.cell? p) : KR w' v d := by
  rcases h with h | ⟨b, off, cap, e, hc, hm⟩
  · exact .inl h
  · refine .inr ⟨b, off, cap, e, hc, fun i k hi => ?_⟩
    obtain ⟨h0, h1, h2, h3⟩ := hm i k hi
    exact ⟨(hk _ (by rw [h0]; rfl)).trans h0, (hk _ (by rw [h1]; rfl)).trans h1, (hk _ (by rw [h2]; rfl)).trans h2, (hk _ (by rw [h3]; rfl)).trans h3⟩
theorem KR.below (h : KR w v d) (hb : Below w.heap.size w w') : KR w' v d :=
  h.keep fun p hp => by
    obtain ⟨u, hu⟩ := Option.isSome_iff_exists.1 hp
    exact hb.cell (World.block_lt_of_cell? w p hu)
theorem KR.form (h : KR w v d) : ∃ a cap, v = .slice a d.length cap := by
  rcases h with ⟨A, cap, rfl, rfl⟩ | ⟨b, off, cap, rfl, _⟩
  · exact ⟨_, _, rfl⟩
  · exact ⟨_, _, rfl⟩
theorem KR.inv (h : KR w v d) (hp : 0 < d.length) : ∃ b off cap, v = .slice (some ⟨b, off, none⟩) d.length cap ∧ d.length ≤ cap ∧ ∀ (i : Nat) (k : Ky), d[i]? = some k → w.cell? ⟨b, off + i * 4, none⟩ = some (.string k.1) ∧ w.cell? ⟨b, off + i * 4 + 1, none⟩ = some (.string k.2.1) ∧ w.cell? ⟨b, off + i * 4 + 2, none⟩ = some (.int .i64 k.2.2.1) ∧ w.cell? ⟨b, off + i * 4 + 3, none⟩ = some (.string k.2.2.2) := by
  rcases h with ⟨A, cap, rfl, rfl⟩ | h
  · simp at hp
  · exact h
theorem KO.kr (h : KO te B w v d) : KR w v d := by
  rcases h.2 with ⟨rfl, hz⟩ | ⟨g, cap, cur, rfl, hb, hh, hc, hm, hs, ht⟩
  · exact .inl ⟨none, 0, rfl, List.eq_nil_of_length_eq_zero hz⟩
  · refine .inr ⟨g, 0, cap, rfl, hc, fun i k hi => ?_⟩
    have at_ : ∀ j, j < 4 → ∀ u, (kRow k)[j]? = some u → w.cell? ⟨g, 0 + i * 4 + j, none⟩ = some u := fun j hj u hu => by
      have := World.ownsRow.cells h (g := g) rfl (i * 4 + j) u (by rw [kRs_at hi j hj]; exact hu)
      rw [Addr.add_lit] at this
      rw [Nat.add_assoc]; exact this
    exact ⟨at_ 0 (by omega) _ rfl, at_ 1 (by omega) _ rfl, at_ 2 (by omega) _ rfl, at_ 3 (by omega) _ rfl⟩
theorem KO.nil (te : TypeId) (B : Nat) (w : World) : KO te B w (.slice none 0 0) [] := World.ownsRow_nil _ _ _ _
theorem KO.keepB (h : KO te B w v d) (hk : ∀ b, v.ownBlock = some b → w'.heap[b]? = w.heap[b]?) : KO te B w' v d := by
  refine ⟨h.1, ?_⟩
  rcases h.2 with h2 | ⟨q, cap, cur, rfl, hbb, hg, hr⟩
  · exact .inl h2
  · exact .inr ⟨q, cap, cur, rfl, hbb, (hk q rfl).trans hg, hr⟩
theorem KO.below (h : KO te B w v d) (hb : Below w.heap.size w w') : KO te B w' v d := h.keepB fun q hq => hb.block q (World.ownsRow.lt h q hq).2
theorem KO.mono (h : KO te B w v d) {B' : Nat} (hB : B' ≤ B) : KO te B' w v d := by
  refine ⟨h.1, ?_⟩
  rcases h.2 with h2 | ⟨q, cap, cur, rfl, hbb, hr⟩
  · exact .inl h2
  · exact .inr ⟨q, cap, cur, rfl, Nat.le_trans hB hbb, hr⟩
theorem KO.form (h : KO te B w v d) : ∃ a c, v = .slice a d.length c := h.kr.form
theorem KO.ty (h : KO te B w v d) : ∀ b, v.ownBlock = some b → B ≤ b ∧ b < w.heap.size ∧ ∃ cur fz, w.heap[b]? = some (.cells cur te fz) := by
  intro b hb
  refine ⟨(World.ownsRow.lt h b hb).1, (World.ownsRow.lt h b hb).2, ?_⟩
  rcases h.2 with ⟨rfl, _⟩ | ⟨q, cap, cur, rfl, hbb, hg, hr⟩
  · cases hb
  · injection hb with hb
    subst hb
    exact ⟨cur, _, hg⟩
/-- a key put behind a list of keys that the call owns -/
theorem wpList_app_key {ops : Array Oper} {rest : List Oper} {o : Oper} {a : Act} {Q : Exit → Act → World → Prop} (te ts : TypeId) (hu : Tryz.prog.underlying ts = some (.slice te)) (hi : ∃ i z, Tryz.prog.info? te = some i ∧ i.zero = some z ∧ i.size = 4 ∧ i.bytes = 56 ∧ z.cells.size = 4)
    (B : Nat) (v : Value) (d : List Ky) (k : Ky) (nb : Nat) (hgd : o.guard = none) (s x : Operand)
    (ho : o.op = .call { callee := .builtin .append, args := #[s, x], argTypes := #[ts, ts] }) (hs : a.eval s = v) (hown : KO te B w v d) (hx : a.eval x = .slice (some ⟨nb, 0, none⟩) 1 1) (h2 : Bk w nb te (kC k))
    (hd : d.length ≤ 1099511627776) (hB : B ≤ w.heap.size)
    (hk : ∀ va c w', KO te B w' (.slice va (d ++ [k]).length c) (d ++ [k]) → w.grownBy w' v.ownBlock → wpList Tryz.prog ops Q rest (a.put o.dst (.slice va (d ++ [k]).length c)) w') : wpList Tryz.prog ops Q (o :: rest) a w := by
  obtain ⟨i, z, hi, hz, hsz, hby, hzs⟩ := hi
  refine wpList_append_lies _ hgd s x ts ho B te i z 4 56 hu hi hz hsz hby hzs (by decide) v d.length (kRs d) hs hown ⟨nb, 0, none⟩ 1 1 (kRow k) hx rfl ?_ ?_ (by omega) (by unfold maxLen; omega) (by omega) hB _ rfl ?_
  · intro j u hj
    have := h2.cell j
    rw [Addr.add_lit, Nat.zero_add, this]
    match j, hj with
    | 0, hj => exact hj
    | 1, hj => exact hj
    | 2, hj => exact hj
    | 3, hj => exact hj
    | j + 4, hj => simp [kRow] at hj
  · intro u hu
    simp only [kRow, List.mem_cons, List.not_mem_nil, or_false] at hu
    rcases hu with rfl | rfl | rfl | rfl <;> rfl
  · intro g' cap' w' o1 o2 o3 o4
    have e1 : d.length + 1 = (d ++ [k]).length := by rw [List.length_append]; rfl
    rw [e1] at o1 ⊢
    refine hk _ _ _ ?_ o2
    unfold KO
    rw [kRs_app]
    have : kRs [k] = kRow k := by unfold kRs; rw [List.map_cons, List.map_nil]; show [kRow k].flatten = _; simp
    rw [this]; exact o1
end
theorem iKey : ∃ i z, Tryz.prog.info? 32 = some i ∧ i.zero = some z ∧ i.size = 4 ∧ i.bytes = 56 ∧ z.cells.size = 4 := by
  have h : (Tryz.prog.info? 32).bind (fun i => if i.size = 4 ∧ i.bytes = 56 then i.zero else none) = some (.agg zkC) := by kernel_rfl
  cases hi : Tryz.prog.info? 32 with
  | none => rw [hi] at h; cases h
  | some j =>
    rw [hi] at h
    by_cases hc : j.size = 4 ∧ j.bytes = 56
    · simp only [Option.bind_some, if_pos hc] at h
      exact ⟨j, _, rfl, h, hc.1, hc.2, rfl⟩
    · simp [hc] at h
def KeysC (d : List Ky) (w : World) (e : Ending) (w' : World) : Prop := ∃ a c, e = .returned (.slice a d.length c) ∧ KO 32 w.heap.size w' (.slice a d.length c) d ∧ Below w.heap.size w w'
set_option maxHeartbeats 4000000 in
theorem parsed_any (v : Value) (l : List ByteArray) (w : World) (h : TS w v l) (hl : l.length ≤ 1099511627776) (hs : ∀ t ∈ l, t.size ≤ 1099511627776) :
    Calls Tryz.prog 58 #[v] w (KeysC (l.map parK) w) := by
  obtain ⟨va, vc, rfl⟩ := h.form
  have HE := Lib.hid h
  have HLEN := Lib.hid hl
  have HS := Lib.hid hs
  clear h hl hs
  unfold KeysC
  go_enter Tryz.func58, Tryz.ntmps58
  go_wp2
  go_loopg [3, 10] l.length (fun g u3 u10 wx => ∃ i : Nat, u10 = .int .i64 (i : Int) ∧ i + g = l.length ∧ KO 32 w.heap.size wx u3 ((l.take i).map parK) ∧ Below w.heap.size w wx)
  case atStart => exact ⟨0, rfl, by omega, KO.nil _ _ _, Below.refl _ _⟩
  case round =>
    obtain ⟨i, rfl, hi, hO, hB⟩ := hrel
    obtain ⟨ua, uc, rfl⟩ := hO.form
    have HO := Lib.hid hO
    have HB := Lib.hid hB
    cases gk with
    | zero =>
      have hil : i = l.length := by omega
      have l1 : ¬ ((i : Int) < (l.length : Int)) := by omega
      have hD : (l.take i).map parK = l.map parK := by rw [hil, List.take_length]
      rw [hD] at HO ⊢
      have HO := Lib.hid HO.out
      clear hi hil hO hB hD
      go_wp2
      go_ret
      exact ⟨_, _, rfl, by have := HO.out; rw [List.length_map] at this; exact this, HB.out⟩
    | succ g =>
      have hlt : i < l.length := by omega
      obtain ⟨b, off, cap, he, hc, hx⟩ := (HE.out.below hB).inv (by omega)
      injection he with e1 _ e3
      subst e1 e3
      obtain ⟨y, hy⟩ : ∃ y, l[i] = y := ⟨_, rfl⟩
      have hyi : l[i]? = some y := by rw [List.getElem?_eq_getElem hlt, hy]
      have x0 := hx i y hyi
      have l0 : (0 : Int) ≤ (i : Int) := by omega
      have l1 : (i : Int) < (l.length : Int) := by omega
      obtain ⟨i1, hi1⟩ : ∃ i1, i + 1 = i1 := ⟨_, rfl⟩
      have wk : IntKind.i64.wrap ((i : Int) + 1) = (i1 : Int) := by rw [show (i : Int) + 1 = (i1 : Int) by omega]; exact IntWalk.i64_in _ (by have := HLEN.out; omega)
      have hk : (l.take i1).map parK = (l.take i).map parK ++ [parK y] := by rw [← hi1, List.take_add_one, hyi, List.map_append]; rfl
      obtain ⟨D, hD⟩ : ∃ D, (l.take i).map parK = D := ⟨_, rfl⟩
      have HDL : Hid (D.length ≤ 1099511627776) := Lib.hid (by rw [← hD, List.length_map, List.length_take]; have := HLEN.out; omega)
      rw [hD] at hk
      have HC := Lib.hid (fun w => parse_any y (HS.out y (List.mem_of_getElem? hyi)) w)
      obtain ⟨K, hK⟩ : ∃ K, parK y = K := ⟨_, rfl⟩
      unfold ParP at HC
      rw [hK] at hk HC
      have HK := Lib.hid hk
      have HO := Lib.hid (show KO 32 w.heap.size wr (.slice ua D.length uc) D by rw [← hD]; exact hO)
      have HI1 : Hid (i1 + g = l.length) := Lib.hid (by omega)
      obtain ⟨db, ro, fm, no⟩ := K
      rw [hD]
      clear hi hx hc hy hyi hi1 hk hO hB hlt hD hK
      go_wp2_with fail
      refine (HC.out _).mono ?_
      rintro e w2 ⟨rfl, hb2⟩
      have HO := Lib.hid (HO.out.below hb2)
      have HB := Lib.hid (HB.out.trans (hb2.mono HB.out.size))
      obtain ⟨W3, hW3⟩ : ∃ W, w2.alloc (.cells #[.string db, .string ro, .int .i64 fm, .string no] 32) = W := ⟨_, rfl⟩
      obtain ⟨eb, heb⟩ : ∃ b, w2.heap.size = b := ⟨_, rfl⟩
      have hb3 : Below w2.heap.size w2 W3 := by rw [← hW3]; exact (Below.refl _ _).alloc (Nat.le_refl _) _
      have ke : Bk W3 eb 32 (kC (db, ro, fm, no)) := by rw [← hW3, ← heb]; exact Bk.new _ _ _
      have e0 : W3.cell? ⟨eb, 0, none⟩ = some (.string db) := ke.cell 0
      have e1 : W3.cell? ⟨eb, 1, none⟩ = some (.string ro) := ke.cell 1
      have e2 : W3.cell? ⟨eb, 2, none⟩ = some (.int .i64 fm) := ke.cell 2
      have e3 : W3.cell? ⟨eb, 3, none⟩ = some (.string no) := ke.cell 3
      obtain ⟨W4, hW4⟩ : ∃ W, W3.alloc (.cells #[.string db, .string ro, .int .i64 fm, .string no] 32) = W := ⟨_, rfl⟩
      obtain ⟨nb, hnb⟩ : ∃ b, W3.heap.size = b := ⟨_, rfl⟩
      have hb4 : Below w2.heap.size w2 W4 := by rw [← hW4]; exact hb3.alloc hb3.size _
      have kn : Bk W4 nb 32 (kC (db, ro, fm, no)) := by rw [← hW4, ← hnb]; exact Bk.new _ _ _
      have HO := Lib.hid (HO.out.below hb4)
      have HB := Lib.hid (HB.out.trans (hb4.mono HB.out.size))
      have HKN := Lib.hid kn
      clear hb2 hb3 hb4 kn ke HC
      go_wp2_with (at_builtin; (try rw [hW3]); (try rw [heb]); (try rw [hW4]); (try rw [hnb]); refine wpList_app_key 32 36 Tryz.underlying36 iKey w.heap.size (.slice ua D.length uc) D (db, ro, fm, no) nb rfl _ _ rfl rfl HO.out rfl HKN.out HDL.out HB.out.size ?_; intro g9 cap9 w9 o9 gr9)
      have HB9 : Hid (Below w.heap.size w w9) := Lib.hid (HB.out.grown gr9 HB.out.size fun k hk => (World.ownsRow.lt HO.out k hk).1)
      have HO9 := Lib.hid o9
      clear o9 gr9
      go_wp2
      go_roundg g
      case measure => exact Nat.lt_succ_self _
      case rel =>
        refine ⟨i1, rfl, HI1.out, ?_, HB9.out⟩
        rw [HK.out]
        have := HO9.out
        rw [List.length_append] at this
        exact this
end Go.Proofs.YtjngangojgjceaaGreat.CA
namespace Go.Proofs.YtjngangojgjceaaGreat.CA
open Go.ChangeShapes Go.WideShapes Go.ChangeAt Go.RowKit Go.Maps Go.ChangeMaps
open Go.Proofs.YtjngangojgjceaaGreat.SL Go.Proofs.YtjngangojgjceaaGreat.EX Go.Proofs.YtjngangojgjceaaGreat.RW
set_option maxRecDepth 100000
set_option linter.unusedVariables false
set_option linter.unusedSimpArgs false

def GroP (w : World) (e : Ending) (w' : World) : Prop := ∃ a c, e = .returned (.slice a 0 c) ∧ OT w.heap.size w' (.slice a 0 c) [] ∧ Below w.heap.size w w'
set_option maxHeartbeats 2000000 in
theorem grow_any (n : Nat) (hn : n ≤ 4294967296) (w : World) :
    Calls Tryz.prog 120 #[.slice none 0 0, .int .i64 (n : Int)] w (GroP w) := by
  have wn : IntKind.i64.wrap (n : Int) = (n : Int) := IntWalk.i64_in _ (by omega)
  have n0 : ¬ ((n : Int) < 0) := by omega
  unfold GroP
  by_cases h0 : n = 0
  · subst h0
    have z : ((0 : Nat) : Int) = 0 := rfl
    rw [z] at *
    clear hn
    go_enter Tryz.func120, Tryz.ntmps120
    go_wp2
    go_ret
    exact ⟨_, _, rfl, OT.nil _ _, Below.refl _ _⟩
  · obtain ⟨i, hi, hz, hsz, hby⟩ := iStr
    have hf : (Builtin.firstCells i.size 0 (.slice none 0 0)).run Tryz.prog w.drew = .ok #[] w.drew := run_firstCells_none w.drew i.size 0 0 0
    have hr := Lib.run_append_grow_zeros (P := Tryz.prog) w 80 3 80 9 i (.string ByteArray.empty) .i64 .i64 Tryz.underlying80 Tryz.underlying3 hi hz none 0 0 [] hf n (by omega) (by rw [hsz]; decide) (by omega) (by omega) (by rw [hby]; omega) (by rw [hby]; exact growslice_fits (by omega) (by omega))
    obtain ⟨W, hW⟩ : ∃ W, w.drew.alloc (.cells (([] : List Value).toArray ++ Builtin.zeroCells (Value.string ByteArray.empty).cells n ++ Builtin.zeroCells (Value.string ByteArray.empty).cells (grownCap w (0 + n) 0 9 - (0 + n))) 9) = W := ⟨_, rfl⟩
    obtain ⟨c, hc⟩ : ∃ c, grownCap w (0 + n) 0 9 = c := ⟨_, rfl⟩
    have hcl : n ≤ c := by have := grownCap_ge w (0 + n) 0 9; omega
    have hcm : c ≤ maxLen := by rw [← hc]; exact grownCap_le_maxLen w _ _ _ (by unfold maxLen; omega)
    have hrow : OT w.heap.size W (.slice (some ⟨w.heap.size, 0, none⟩) 0 c) [] := by
      refine ⟨rfl, .inr ⟨w.heap.size, c, _, rfl, Nat.le_refl _, by rw [← hW]; exact heap_alloc_new w.drew _, Nat.zero_le _, hcm, ?_, by simp⟩⟩
      have hs2 : ∀ q, (Builtin.zeroCells (Value.string ByteArray.empty).cells q).size = q * 1 := fun q => by rw [size_zeroCells]; rfl
      rw [hc, Array.size_append, Array.size_append, hs2, hs2, List.size_toArray]
      simp only [List.length_nil]; omega
    have hbel : Below w.heap.size w W := by rw [← hW]; exact ((Below.refl _ _).drew).alloc (Nat.le_refl _) _
    rw [hW, hc, Nat.zero_add] at hr
    have HR := Lib.hid hrow
    have HB := Lib.hid hbel
    have n1 : (0 : Int) < (n : Int) := by omega
    have k1 : (0 : Int) ≤ (c : Int) := by omega
    have k2 : (n : Int) ≤ (c : Int) := by omega
    clear hn h0 hi hz hsz hby hf hW hc hcl hcm hrow hbel
    go_enter Tryz.func120, Tryz.ntmps120
    go_wp2_with (at_builtin; refine Lib.wpList_append_run _ rfl _ _ _ _ rfl _ _ rfl rfl _ _ hr ?_)
    go_wp2
    go_ret
    exact ⟨_, _, rfl, HR.out, HB.out⟩
/-- a list of texts put behind a list that the call owns -/
theorem wpList_app_texts {w : World} {ops : Array Oper} {rest : List Oper} {o : Oper} {a : Act} {Q : Exit → Act → World → Prop} (B : Nat) (v : Value) (d : List ByteArray) (v2 : Value) (e : List ByteArray) (L : List ByteArray) (hL : d ++ e = L) (hgd : o.guard = none) (s x : Operand)
    (ho : o.op = .call { callee := .builtin .append, args := #[s, x], argTypes := #[80, 80] }) (hs : a.eval s = v) (hown : OT B w v d) (hx : a.eval x = v2) (h2 : TS w v2 e)
    (hd : d.length + e.length ≤ 1099511627776) (hB : B ≤ w.heap.size)
    (hk : ∀ va c w', OT B w' (.slice va L.length c) L → w.grownBy w' v.ownBlock ∨ w = w' → wpList Tryz.prog ops Q rest (a.put o.dst (.slice va L.length c)) w') : wpList Tryz.prog ops Q (o :: rest) a w := by
  subst hL
  obtain ⟨i, hi, hz, hsz, hby⟩ := iStr
  have none_ : ∀ p c, v2 = .slice p 0 c → e = [] → wpList Tryz.prog ops Q (o :: rest) a w := by
    rintro p c rfl rfl
    have hown0 := hown
    obtain ⟨va, vc, rfl⟩ := SL.OT.form hown
    refine wpList_plain hgd fun K' hK => ?_
    have hrun := SL.run_app_nothing (P := Tryz.prog) (w := w) B 80 o.type 9 i 1 Tryz.underlying80 hi _ _ _ hown p c
    unfold Oper.wp
    simp [execOp, ho, resolve, invoke, builtin, hs, hx, hrun, Result.andThen]
    refine hK _ _ ?_
    have := hk va vc w (by rw [List.append_nil]; exact hown0) (.inr rfl)
    rw [List.append_nil] at this
    exact this
  rcases h2 with ⟨A, cap, e1, e2⟩ | ⟨b, off, cap, e1, hcap, hx2⟩
  · exact none_ A cap e1 e2
  · by_cases h0 : e.length = 0
    · exact none_ _ cap (by rw [e1, h0]) (List.eq_nil_of_length_eq_zero h0)
    · subst e1
      refine wpList_append_lies _ hgd s x 80 ho B 9 i (.string ByteArray.empty) 1 16 Tryz.underlying80 hi hz hsz hby rfl (by decide) v d.length (d.map bV) hs hown ⟨b, off, none⟩ e.length cap (e.map bV) hx (by simp) ?_ ?_ (by omega) (by unfold maxLen; omega) (by omega) hB _ rfl ?_
      · intro j u hu
        rw [List.getElem?_map] at hu
        cases hj : e[j]? with
        | none => rw [hj] at hu; cases hu
        | some y =>
          rw [hj] at hu
          injection hu with hu
          subst hu
          rw [Addr.add_lit]; exact hx2 j y hj
      · intro u hu
        obtain ⟨y, _, rfl⟩ := List.mem_map.1 hu
        rfl
      · intro g' cap' w' o1 o2 o3 o4
        have e1 : d.length + e.length = (d ++ e).length := by rw [List.length_append]
        rw [e1] at o1 ⊢
        exact hk _ _ _ (by unfold OT; rw [List.map_append]; exact o1) (.inl o2)
def pick2 {α : Type} (a b : α) (i : Nat) : α := if i = 0 then a else b
def sum2 (m n i : Nat) : Nat := if i = 0 then 0 else if i = 1 then m else m + n
def join2 {α : Type} (a b : List α) (i : Nat) : List α := if i = 0 then [] else if i = 1 then a else a ++ b
theorem sum2_step (m n i : Nat) (h : i < 2) : sum2 m n i + pick2 m n i = sum2 m n (i + 1) := by
  match i, h with
  | 0, _ => simp [sum2, pick2]
  | 1, _ => simp [sum2, pick2]
theorem join2_step {α : Type} (a b : List α) (i : Nat) (h : i < 2) : join2 a b i ++ pick2 a b i = join2 a b (i + 1) := by
  match i, h with
  | 0, _ => simp [join2, pick2]
  | 1, _ => simp [join2, pick2]
def CatP (d : List ByteArray) (w : World) (e : Ending) (w' : World) : Prop := ∃ a c, e = .returned (.slice a d.length c) ∧ OT w.heap.size w' (.slice a d.length c) d ∧ Below w.heap.size w w'
set_option maxHeartbeats 4000000 in
theorem concat_any (b : Nat) (a1 a2 : Option Addr) (c1 c2 : Nat) (d1 d2 : List ByteArray) (w : World) (hb : Bk w b 80 #[.slice a1 d1.length c1, .slice a2 d2.length c2]) (h1 : TS w (.slice a1 d1.length c1) d1) (h2 : TS w (.slice a2 d2.length c2) d2) (l1 : d1.length ≤ 1073741824) (l2 : d2.length ≤ 1073741824) (D : List ByteArray) (hD : d1 ++ d2 = D) :
    Calls Tryz.prog 93 #[.slice (some ⟨b, 0, none⟩) 2 2] w (CatP D w) := by
  have hpk : ∀ i, i < 2 → ∃ A c d, d = pick2 d1 d2 i ∧ w.cell? ⟨b, i, none⟩ = some (.slice A d.length c) ∧ TS w (.slice A d.length c) d ∧ d.length = pick2 d1.length d2.length i ∧ d.length ≤ 1073741824 := by
    intro i hi
    match i, hi with
    | 0, _ => exact ⟨a1, c1, d1, rfl, hb.cell 0, h1, rfl, l1⟩
    | 1, _ => exact ⟨a2, c2, d2, rfl, hb.cell 1, h2, rfl, l2⟩
  have HP := Lib.hid hpk
  have hsum : ∀ i, i ≤ 2 → sum2 d1.length d2.length i ≤ 2147483648 := by
    intro i hi
    match i, hi with
    | 0, _ => simp [sum2]
    | 1, _ => simp [sum2]; omega
    | 2, _ => simp [sum2]; omega
  have HS := Lib.hid hsum
  have HD := Lib.hid hD
  have HBL : Hid (b < w.heap.size) := Lib.hid hb.lt
  obtain ⟨m, hm⟩ : ∃ m, d1.length = m := ⟨_, rfl⟩
  obtain ⟨n, hn⟩ : ∃ n, d2.length = n := ⟨_, rfl⟩
  have HM : Hid (d1.length = m ∧ d2.length = n) := Lib.hid ⟨hm, hn⟩
  rw [hm, hn] at HS
  simp only [hm, hn] at HP
  clear hpk hb h1 h2 l1 l2 hsum hD hm hn
  unfold CatP
  go_enter Tryz.func93, Tryz.ntmps93
  go_wp2
  go_loopg [3, 11] 2 (fun g u3 u11 wx => ∃ i : Nat, u11 = .int .i64 (i : Int) ∧ i + g = 2 ∧ u3 = .int .i64 ((sum2 m n i : Nat) : Int) ∧ w = wx)
  case atStart => exact ⟨0, rfl, rfl, rfl, rfl⟩
  case round =>
    obtain ⟨i, rfl, hi, rfl, rfl⟩ := hrel
    cases gk with
    | zero =>
      have hi2 : i = 2 := by omega
      subst hi2
      have l1 : ¬ ((2 : Int) < 2) := by omega
      have hS2 := HS.out 2 (Nat.le_refl _)
      obtain ⟨q, hq⟩ : ∃ q, sum2 m n 2 = q := ⟨_, rfl⟩
      rw [hq] at hS2 ⊢
      have HQ := Lib.hid hS2
      clear hi hq hS2
      go_wp2_with fail
      refine (grow_any q (by have := HQ.out; omega) _).mono ?_
      rintro e w2 ⟨ga, gc, rfl, og, bg⟩
      have HOG := Lib.hid og
      have HBG := Lib.hid bg
      clear og bg
      go_wp2
      go_loopg [6, 27] 2 (fun g u6 u27 wx => ∃ i : Nat, u27 = .int .i64 (i : Int) ∧ i + g = 2 ∧ OT w.heap.size wx u6 (join2 d1 d2 i) ∧ Below w.heap.size w wx)
      case atStart => exact ⟨0, rfl, rfl, HOG.out, HBG.out⟩
      case round =>
        obtain ⟨i, rfl, hi, hO, hB⟩ := hrel
        obtain ⟨ua, uc, rfl⟩ := SL.OT.form hO
        have HO := Lib.hid hO
        have HB := Lib.hid hB
        cases gk with
        | zero =>
          have hi2 : i = 2 := by omega
          subst hi2
          have l1 : ¬ ((2 : Int) < 2) := by omega
          have hj : join2 d1 d2 2 = D := by rw [← HD.out]; rfl
          rw [hj] at HO ⊢
          have HO := Lib.hid HO.out
          clear hi hO hB hj
          go_wp2
          go_ret
          exact ⟨_, _, rfl, HO.out, HB.out⟩
        | succ g =>
          have hlt : i < 2 := by omega
          obtain ⟨A, c, d, hd, hc, ht, hdl, hdm⟩ := HP.out i hlt
          have x0 := (hB.cell (p := ⟨b, i, none⟩) HBL.out).trans hc
          have l0 : (0 : Int) ≤ (i : Int) := by omega
          have l1 : (i : Int) < 2 := by omega
          obtain ⟨i1, hi1⟩ : ∃ i1, i + 1 = i1 := ⟨_, rfl⟩
          have wk : IntKind.i64.wrap ((i : Int) + 1) = (i1 : Int) := by rw [show (i : Int) + 1 = (i1 : Int) by omega]; exact IntWalk.i64_in _ (by omega)
          have hjn := join2_step d1 d2 i hlt
          rw [← hd, hi1] at hjn
          obtain ⟨J, hJ⟩ : ∃ J, join2 d1 d2 i = J := ⟨_, rfl⟩
          obtain ⟨J1, hJ1⟩ : ∃ J1, join2 d1 d2 i1 = J1 := ⟨_, rfl⟩
          have hJL : J.length ≤ 2147483648 := by
            rw [← hJ]
            have hm := HM.out
            have := HS.out i (by omega)
            match i, hlt with
            | 0, _ => simp [join2]
            | 1, _ => simp [sum2] at this; simp [join2]; omega
          rw [hJ, hJ1] at hjn
          have HO := Lib.hid (show OT w.heap.size wr (.slice ua J.length uc) J by rw [← hJ]; exact hO)
          have HT := Lib.hid (ht.below hB)
          have HI1 : Hid (i1 + g = 2) := Lib.hid (by omega)
          have HL : Hid (J.length + d.length ≤ 1099511627776) := Lib.hid (by omega)
          have HJN := Lib.hid hjn
          have HJ1 := Lib.hid hJ1
          rw [hJ]
          clear hi hd hc ht hdl hdm hi1 hjn hJ hJ1 hJL hO hB hlt
          go_wp2_with (at_builtin; refine wpList_app_texts w.heap.size (.slice ua J.length uc) J (.slice A d.length c) d J1 HJN.out rfl _ _ rfl rfl HO.out rfl HT.out HL.out HB.out.size ?_; intro v9 c9 w9 o9 gr9)
          have HB9 : Hid (Below w.heap.size w w9) := Lib.hid (by
            rcases gr9 with gr9 | rfl
            · exact HB.out.grown gr9 HB.out.size fun k hk => (World.ownsRow.lt HO.out k hk).1
            · exact HB.out)
          have HO9 := Lib.hid o9
          clear o9 gr9
          go_wp2
          go_roundg g
          case measure => exact Nat.lt_succ_self _
          case rel => exact ⟨i1, rfl, HI1.out, by rw [HJ1.out]; exact HO9.out, HB9.out⟩
    | succ g =>
      have hlt : i < 2 := by omega
      obtain ⟨A, c, d, hd, hc, ht, hdl, hdm⟩ := HP.out i hlt
      have l0 : (0 : Int) ≤ (i : Int) := by omega
      have l1 : (i : Int) < 2 := by omega
      obtain ⟨i1, hi1⟩ : ∃ i1, i + 1 = i1 := ⟨_, rfl⟩
      have wk : IntKind.i64.wrap ((i : Int) + 1) = (i1 : Int) := by rw [show (i : Int) + 1 = (i1 : Int) by omega]; exact IntWalk.i64_in _ (by omega)
      have hsn := sum2_step m n i hlt
      have hsm := HS.out (i + 1) (by omega)
      rw [hi1] at hsn hsm
      rw [← hdl] at hsn
      obtain ⟨q, hq⟩ : ∃ q, sum2 m n i = q := ⟨_, rfl⟩
      obtain ⟨q1, hq1⟩ : ∃ q, sum2 m n i1 = q := ⟨_, rfl⟩
      rw [hq, hq1] at hsn
      rw [hq1] at hsm
      have wq : IntKind.i64.wrap ((q : Int) + (d.length : Int)) = (q1 : Int) := by rw [show (q : Int) + (d.length : Int) = (q1 : Int) by omega]; exact IntWalk.i64_in _ (by omega)
      have nq : ¬ ((q1 : Int) < 0) := by omega
      have HI1 : Hid (i1 + g = 2) := Lib.hid (by omega)
      have HQ1 := Lib.hid hq1
      obtain ⟨N, hN⟩ : ∃ N, d.length = N := ⟨_, rfl⟩
      rw [hN] at hc wq
      rw [hq]
      clear hi hd ht hdl hdm hi1 hsn hsm hq hq1 hlt hN
      go_wp2
      go_roundg g
      case measure => exact Nat.lt_succ_self _
      case rel => exact ⟨i1, rfl, HI1.out, by rw [HQ1.out], rfl⟩
end Go.Proofs.YtjngangojgjceaaGreat.CA
