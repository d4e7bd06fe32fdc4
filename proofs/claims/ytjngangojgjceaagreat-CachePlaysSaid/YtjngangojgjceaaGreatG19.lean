/- Package cache: Get. Conditions: how long keys are, how many puts there were. -/
import Derived.Test.YtjngangojgjceaaGreatG18
set_option linter.unusedSimpArgs false
set_option linter.unusedVariables false
namespace Go.Proofs.YtjngangojgjceaaGreat.CA
open Go.ChangeShapes Go.WideShapes Go.ChangeAt Go.RowKit Go.Maps Go.ChangeMaps
open Go.Proofs.YtjngangojgjceaaGreat.SL Go.Proofs.YtjngangojgjceaaGreat.EX Go.Proofs.YtjngangojgjceaaGreat.RW
set_option maxRecDepth 100000
set_option linter.unusedVariables false
set_option linter.unusedSimpArgs false

section
variable {w0 w w' : World} {C : Cb} {N : Nat} {σ : Sg} {O : List Kp}
theorem lc_get_no (h : LC w0 w C N σ O) (k : Ky) (hk : FitK k) (now : Int) (hf : fV σ.V k = none) : Calls Tryz.prog 12 #[ptr C.g, kyV k, .int .i64 now] w (RetC w0 C N σ O (.tuple #[.string ⟨#[]⟩, .bool false])) := by
  refine (get_no k now fun W hb => by have := CA.find_any (h.below hb) k hk; rw [hf] at this; exact this).mono ?_
  rintro e w' ⟨rfl, hb⟩
  exact ⟨rfl, h.below hb⟩
set_option maxHeartbeats 8000000 in
theorem lc_get_old (h : LC w0 w C N σ O) (k : Ky) (hk : FitK k) (hN : N ≤ 480) (now : Int) (e : Ce) (hf : fV σ.V k = some e) (u : Int) (hat : atI (textK k) σ.I = some u) (hu : u ≤ now) : Calls Tryz.prog 12 #[ptr C.g, kyV k, .int .i64 now] w (RetC w0 C N (dropS (textK k) σ) O (.tuple #[.string ⟨#[]⟩, .bool false])) := by
  obtain ⟨hr, he1, _⟩ := fV_some hf
  obtain ⟨et, ev⟩ := e
  simp only at he1
  have hts := fit_text hk hr
  obtain ⟨kb, hkb⟩ : ∃ b, w.heap.size = b := ⟨_, rfl⟩
  obtain ⟨W0, hW0⟩ : ∃ W, w.alloc (.cells (kC k) 32) = W := ⟨_, rfl⟩
  have hb0 : Below w.heap.size w W0 := by rw [← hW0]; exact (Below.refl _ _).alloc (Nat.le_refl _) _
  have kk : Bk W0 kb 32 (kC k) := by rw [← hW0, ← hkb]; exact Bk.new _ _ _
  have h1 := h.blkO hb0 (Nat.le_of_eq hkb) kk
  have hfi := CA.find_any h1 k hk
  rw [hf] at hfi
  have HF := Lib.hid hfi
  have hmd : ∀ (W : World) (O2 : List Kp), LC w0 W C N σ O2 → Calls Tryz.prog 14 #[ptr C.g, kyV k] W (RetC w0 C N (dropS (textK k) σ) O2 (.bool true)) := fun W O2 hx => lc_drop_yes hx k hk hN _ hf
  have HMD := Lib.hid hmd
  have H := Lib.hid h1
  have HTS := Lib.hid hts
  have HAT := Lib.hid hat
  rw [← he1] at HTS
  rw [← he1] at HMD
  rw [← he1] at HAT
  unfold RetC
  try rw [← he1]
  obtain ⟨db, ro, fm, no⟩ := k
  have a0 : W0.cell? ⟨kb, 0, none⟩ = some (.string db) := kk.cell 0
  have a1 : W0.cell? ⟨kb, 1, none⟩ = some (.string ro) := kk.cell 1
  have a2 : W0.cell? ⟨kb, 2, none⟩ = some (.int .i64 fm) := kk.cell 2
  have a3 : W0.cell? ⟨kb, 3, none⟩ = some (.string no) := kk.cell 3
  clear h hk hN hf hr hts hb0 kk h1 hfi hmd hat he1
  go_enter Tryz.func12, Tryz.ntmps12
  go_wp2_with fail
  try rw [hW0]
  refine HF.out.mono ?_
  rintro e w2 ⟨rfl, hb2⟩
  have H := Lib.hid (H.out.below hb2)
  obtain ⟨W3, hW3⟩ : ∃ W, w2.alloc (.cells #[.string et, .string ev] 90) = W := ⟨_, rfl⟩
  obtain ⟨eb, heb⟩ : ∃ b, w2.heap.size = b := ⟨_, rfl⟩
  have hb3 : Below w2.heap.size w2 W3 := by rw [← hW3]; exact (Below.refl _ _).alloc (Nat.le_refl _) _
  have ke : Bk W3 eb 90 #[.string et, .string ev] := by rw [← hW3, ← heb]; exact Bk.new _ _ _
  have H := Lib.hid (H.out.blkO hb3 (Nat.le_of_eq heb) ke)
  obtain ⟨c0, c1, c2, c3, c4⟩ := H.out.cells
  have e0 : W3.cell? ⟨eb, 0, none⟩ = some (.string et) := ke.cell 0
  have e1 : W3.cell? ⟨eb, 1, none⟩ = some (.string ev) := ke.cell 1
  clear hb2 hb3 ke HF hW0 hkb a0 a1 a2 a3
  go_wp2_with fail
  try rw [hW3]
  try rw [heb]
  refine wp_region_held_drew (S := (fun w' => ∃ σ' O', LC w0 w' C N σ' (O' ++ (.blk eb 90 #[.string et, .string ev] :: .blk kb 32 (kC (db, ro, fm, no)) :: O)))) (by kernel_rfl) ?_ (fun hS => ?_)
  · exact ⟨_, [], H.out.below (Below.refl _ _).drew⟩
  refine tkY 0 ?_ rfl hS ?_ ?_
  rotate_left
  · intro wz hz
    obtain ⟨σ9, O9, hz⟩ := hz
    obtain ⟨z0, z1, z2, z3, z4⟩ := hz.cells
    have y0 : wz.cell? ⟨eb, 0, none⟩ = some (.string et) := (hz.blk (List.mem_append_right _ (List.mem_cons_self ..))).cell 0
    go_simp
    all_goals first | with_reducible rfl | omega
  try simp only [Act.put, pu]
  refine tkY 1 ?_ rfl hS ?_ ?_
  rotate_left
  · intro wz hz
    obtain ⟨σ9, O9, hz⟩ := hz
    obtain ⟨z0, z1, z2, z3, z4⟩ := hz.cells
    have y0 : wz.cell? ⟨eb, 0, none⟩ = some (.string et) := (hz.blk (List.mem_append_right _ (List.mem_cons_self ..))).cell 0
    go_simp
    all_goals first | with_reducible rfl | omega
  try simp only [Act.put, pu]
  refine tkY 2 ?_ rfl hS ?_ ?_
  rotate_left
  · intro wz hz
    obtain ⟨σ9, O9, hz⟩ := hz
    obtain ⟨z0, z1, z2, z3, z4⟩ := hz.cells
    have y0 : wz.cell? ⟨eb, 0, none⟩ = some (.string et) := (hz.blk (List.mem_append_right _ (List.mem_cons_self ..))).cell 0
    go_simp
    all_goals first | with_reducible rfl | omega
  try simp only [Act.put, pu]
  refine tkY 3 ?_ rfl hS ?_ ?_
  rotate_left
  · intro wz hz
    obtain ⟨σ9, O9, hz⟩ := hz
    obtain ⟨z0, z1, z2, z3, z4⟩ := hz.cells
    have y0 : wz.cell? ⟨eb, 0, none⟩ = some (.string et) := (hz.blk (List.mem_append_right _ (List.mem_cons_self ..))).cell 0
    go_simp
    all_goals first | with_reducible rfl | omega
  try simp only [Act.put, pu]
  refine tkY 4 ?_ rfl hS ?_ ?_
  rotate_left
  · intro wz hz
    obtain ⟨σ9, O9, hz⟩ := hz
    obtain ⟨z0, z1, z2, z3, z4⟩ := hz.cells
    have y0 : wz.cell? ⟨eb, 0, none⟩ = some (.string et) := (hz.blk (List.mem_append_right _ (List.mem_cons_self ..))).cell 0
    go_simp
    all_goals first | with_reducible rfl | omega
  try simp only [Act.put, pu]
  refine tkY 5 ?_ rfl hS ?_ ?_
  rotate_left
  · intro wz hz
    obtain ⟨σ9, O9, hz⟩ := hz
    obtain ⟨z0, z1, z2, z3, z4⟩ := hz.cells
    have y0 : wz.cell? ⟨eb, 0, none⟩ = some (.string et) := (hz.blk (List.mem_append_right _ (List.mem_cons_self ..))).cell 0
    go_simp
    all_goals first | with_reducible rfl | omega
  try simp only [Act.put, pu]
  refine wpAnyH_ready (rs := [6]) (by kernel_rfl) (by simp) (AllReadyH.cons rfl (fun K' hK' => ?_) AllReadyH.nil)
  go_simp
  have hbd : Below W3.heap.size W3 W3.drew := (Below.refl _ _).drew
  refine (lc_qat (H.out.below hbd) et HTS.out (.tuple #[.int .i64 u, .bool true]) (by rw [HAT.out]; rfl)).mono ?_
  rintro e w4 ⟨rfl, b4⟩
  have H := Lib.hid (H.out.below (hbd.trans (b4.mono hbd.size)))
  clear b4 hbd
  refine hK'.out _ _ ?_ (fun hSn => ?_)
  · exact ⟨_, [], H.out⟩
  clear hK' K' hS
  have hS := hSn
  clear hSn
  try simp only [Act.put, pu]
  refine tkY 7 ?_ rfl hS ?_ ?_
  rotate_left
  · intro wz hz
    go_simp
    all_goals first | with_reducible rfl | omega
  try simp only [Act.put, pu]
  refine tkY 8 ?_ rfl hS ?_ ?_
  rotate_left
  · intro wz hz
    go_simp
    all_goals first | with_reducible rfl | omega
  try simp only [Act.put, pu]
  refine tkY 9 ?_ rfl hS ?_ ?_
  rotate_left
  · intro wz hz
    go_simp
    all_goals first | with_reducible rfl | omega
  try simp only [Act.put, pu]
  refine tkY 10 ?_ rfl hS ?_ ?_
  rotate_left
  · intro wz hz
    go_simp
    all_goals first | with_reducible rfl | omega
  try simp only [Act.put, pu]
  refine tkY 11 ?_ rfl hS ?_ ?_
  rotate_left
  · intro wz hz
    go_simp
    all_goals first | with_reducible rfl | omega
  try simp only [Act.put, pu]
  refine wpAnyH_done (by kernel_rfl) ?_ _
  clear hS
  have q := (H.out.blk (List.mem_cons_of_mem _ (List.mem_cons_self ..)))
  have q0 : w4.cell? ⟨kb, 0, none⟩ = some (.string db) := q.cell 0
  have q1 : w4.cell? ⟨kb, 1, none⟩ = some (.string ro) := q.cell 1
  have q2 : w4.cell? ⟨kb, 2, none⟩ = some (.int .i64 fm) := q.cell 2
  have q3 : w4.cell? ⟨kb, 3, none⟩ = some (.string no) := q.cell 3
  clear q
  go_wp2_with fail
  refine (HMD.out _ _ H.out).mono ?_
  rintro e w5 ⟨rfl, h5⟩
  have H := Lib.hid h5
  clear h5 q0 q1 q2 q3 c0 c1 c2 c3 c4 e0 e1
  go_wp2
  go_ret2
  exact ⟨rfl, H.out.forget fun p hp => List.mem_cons_of_mem _ (List.mem_cons_of_mem _ hp)⟩
set_option maxHeartbeats 8000000 in
theorem lc_get_yes (h : LC w0 w C N σ O) (k : Ky) (hk : FitK k) (hN : N ≤ 480) (now : Int) (et0 ev0 : ByteArray) (hf : fV σ.V k = some (et0, ev0)) (u : Int) (hat : atI (textK k) σ.I = some u) (hu : now < u) (hke : 0 ≤ C.ke ∧ sumE σ.K ≤ C.ke) (z : Int) (hz : hasS (textK k) σ.T σ.K = some z) (T9 K9 : List En) (G : List ByteArray) (hR : touchE C.ke (textK k) z σ.T σ.K = (T9, K9, G)) :
    Calls Tryz.prog 12 #[ptr C.g, kyV k, .int .i64 now] w (RetC w0 C N ⟨T9, K9, σ.I, σ.V⟩ O (.tuple #[.string ev0, .bool true])) := by
  obtain ⟨hr, he1, _⟩ := fV_some hf
  obtain ⟨et, rfl⟩ : ∃ x, x = et0 := ⟨_, rfl⟩
  obtain ⟨ev, rfl⟩ : ∃ x, x = ev0 := ⟨_, rfl⟩
  simp only at he1
  have hts := fit_text hk hr
  obtain ⟨kb, hkb⟩ : ∃ b, w.heap.size = b := ⟨_, rfl⟩
  obtain ⟨W0, hW0⟩ : ∃ W, w.alloc (.cells (kC k) 32) = W := ⟨_, rfl⟩
  have hb0 : Below w.heap.size w W0 := by rw [← hW0]; exact (Below.refl _ _).alloc (Nat.le_refl _) _
  have kk : Bk W0 kb 32 (kC k) := by rw [← hW0, ← hkb]; exact Bk.new _ _ _
  have h1 := h.blkO hb0 (Nat.le_of_eq hkb) kk
  have hfi := CA.find_any h1 k hk
  rw [hf] at hfi
  have HF := Lib.hid hfi
  have hmd : ∀ (W : World) (O2 : List Kp), LC w0 W C N σ O2 → Calls Tryz.prog 14 #[ptr C.g, kyV k] W (RetC w0 C N (dropS (textK k) σ) O2 (.bool true)) := fun W O2 hx => lc_drop_yes hx k hk hN _ hf
  have HMD := Lib.hid hmd
  have H := Lib.hid h1
  have HTS := Lib.hid hts
  have HAT := Lib.hid hat
  rw [← he1] at HTS
  rw [← he1] at HMD
  rw [← he1] at HAT
  rw [← he1] at hz hR
  have HKE := Lib.hid hke
  have HHZ := Lib.hid hz
  have HRR := Lib.hid hR
  unfold RetC
  try rw [← he1]
  obtain ⟨db, ro, fm, no⟩ := k
  have a0 : W0.cell? ⟨kb, 0, none⟩ = some (.string db) := kk.cell 0
  have a1 : W0.cell? ⟨kb, 1, none⟩ = some (.string ro) := kk.cell 1
  have a2 : W0.cell? ⟨kb, 2, none⟩ = some (.int .i64 fm) := kk.cell 2
  have a3 : W0.cell? ⟨kb, 3, none⟩ = some (.string no) := kk.cell 3
  clear h hk hN hf hr hts hb0 kk h1 hfi hmd hat he1 hz hR hke
  go_enter Tryz.func12, Tryz.ntmps12
  go_wp2_with fail
  try rw [hW0]
  refine HF.out.mono ?_
  rintro e w2 ⟨rfl, hb2⟩
  have H := Lib.hid (H.out.below hb2)
  obtain ⟨W3, hW3⟩ : ∃ W, w2.alloc (.cells #[.string et, .string ev] 90) = W := ⟨_, rfl⟩
  obtain ⟨eb, heb⟩ : ∃ b, w2.heap.size = b := ⟨_, rfl⟩
  have hb3 : Below w2.heap.size w2 W3 := by rw [← hW3]; exact (Below.refl _ _).alloc (Nat.le_refl _) _
  have ke : Bk W3 eb 90 #[.string et, .string ev] := by rw [← hW3, ← heb]; exact Bk.new _ _ _
  have H := Lib.hid (H.out.blkO hb3 (Nat.le_of_eq heb) ke)
  obtain ⟨c0, c1, c2, c3, c4⟩ := H.out.cells
  have e0 : W3.cell? ⟨eb, 0, none⟩ = some (.string et) := ke.cell 0
  have e1 : W3.cell? ⟨eb, 1, none⟩ = some (.string ev) := ke.cell 1
  clear hb2 hb3 ke HF hW0 hkb a0 a1 a2 a3
  go_wp2_with fail
  try rw [hW3]
  try rw [heb]
  refine wp_region_held_drew (S := (fun w' => ∃ σ' O', LC w0 w' C N σ' (O' ++ (.blk eb 90 #[.string et, .string ev] :: .blk kb 32 (kC (db, ro, fm, no)) :: O)))) (by kernel_rfl) ?_ (fun hS => ?_)
  · exact ⟨_, [], H.out.below (Below.refl _ _).drew⟩
  refine tkY 0 ?_ rfl hS ?_ ?_
  rotate_left
  · intro wz hz
    obtain ⟨σ9, O9, hz⟩ := hz
    obtain ⟨z0, z1, z2, z3, z4⟩ := hz.cells
    have y0 : wz.cell? ⟨eb, 0, none⟩ = some (.string et) := (hz.blk (List.mem_append_right _ (List.mem_cons_self ..))).cell 0
    go_simp
    all_goals first | with_reducible rfl | omega
  try simp only [Act.put, pu]
  refine tkY 1 ?_ rfl hS ?_ ?_
  rotate_left
  · intro wz hz
    obtain ⟨σ9, O9, hz⟩ := hz
    obtain ⟨z0, z1, z2, z3, z4⟩ := hz.cells
    have y0 : wz.cell? ⟨eb, 0, none⟩ = some (.string et) := (hz.blk (List.mem_append_right _ (List.mem_cons_self ..))).cell 0
    go_simp
    all_goals first | with_reducible rfl | omega
  try simp only [Act.put, pu]
  refine tkY 2 ?_ rfl hS ?_ ?_
  rotate_left
  · intro wz hz
    obtain ⟨σ9, O9, hz⟩ := hz
    obtain ⟨z0, z1, z2, z3, z4⟩ := hz.cells
    have y0 : wz.cell? ⟨eb, 0, none⟩ = some (.string et) := (hz.blk (List.mem_append_right _ (List.mem_cons_self ..))).cell 0
    go_simp
    all_goals first | with_reducible rfl | omega
  try simp only [Act.put, pu]
  refine tkY 3 ?_ rfl hS ?_ ?_
  rotate_left
  · intro wz hz
    obtain ⟨σ9, O9, hz⟩ := hz
    obtain ⟨z0, z1, z2, z3, z4⟩ := hz.cells
    have y0 : wz.cell? ⟨eb, 0, none⟩ = some (.string et) := (hz.blk (List.mem_append_right _ (List.mem_cons_self ..))).cell 0
    go_simp
    all_goals first | with_reducible rfl | omega
  try simp only [Act.put, pu]
  refine tkY 4 ?_ rfl hS ?_ ?_
  rotate_left
  · intro wz hz
    obtain ⟨σ9, O9, hz⟩ := hz
    obtain ⟨z0, z1, z2, z3, z4⟩ := hz.cells
    have y0 : wz.cell? ⟨eb, 0, none⟩ = some (.string et) := (hz.blk (List.mem_append_right _ (List.mem_cons_self ..))).cell 0
    go_simp
    all_goals first | with_reducible rfl | omega
  try simp only [Act.put, pu]
  refine tkY 5 ?_ rfl hS ?_ ?_
  rotate_left
  · intro wz hz
    obtain ⟨σ9, O9, hz⟩ := hz
    obtain ⟨z0, z1, z2, z3, z4⟩ := hz.cells
    have y0 : wz.cell? ⟨eb, 0, none⟩ = some (.string et) := (hz.blk (List.mem_append_right _ (List.mem_cons_self ..))).cell 0
    go_simp
    all_goals first | with_reducible rfl | omega
  try simp only [Act.put, pu]
  refine wpAnyH_ready (rs := [6]) (by kernel_rfl) (by simp) (AllReadyH.cons rfl (fun K' hK' => ?_) AllReadyH.nil)
  go_simp
  have hbd : Below W3.heap.size W3 W3.drew := (Below.refl _ _).drew
  refine (lc_qat (H.out.below hbd) et HTS.out (.tuple #[.int .i64 u, .bool true]) (by rw [HAT.out]; rfl)).mono ?_
  rintro e w4 ⟨rfl, b4⟩
  have H := Lib.hid (H.out.below (hbd.trans (b4.mono hbd.size)))
  clear b4 hbd
  refine hK'.out _ _ ?_ (fun hSn => ?_)
  · exact ⟨_, [], H.out⟩
  clear hK' K' hS
  have hS := hSn
  clear hSn
  try simp only [Act.put, pu]
  refine tkY 7 ?_ rfl hS ?_ ?_
  rotate_left
  · intro wz hz
    go_simp
    all_goals first | with_reducible rfl | omega
  try simp only [Act.put, pu]
  refine tkY 8 ?_ rfl hS ?_ ?_
  rotate_left
  · intro wz hz
    go_simp
    all_goals first | with_reducible rfl | omega
  try simp only [Act.put, pu]
  refine tkY 9 ?_ rfl hS ?_ ?_
  rotate_left
  · intro wz hz
    go_simp
    all_goals first | with_reducible rfl | omega
  try simp only [Act.put, pu]
  refine tkY 10 ?_ rfl hS ?_ ?_
  rotate_left
  · intro wz hz
    go_simp
    all_goals first | with_reducible rfl | omega
  try simp only [Act.put, pu]
  refine tkY 11 ?_ rfl hS ?_ ?_
  rotate_left
  · intro wz hz
    go_simp
    all_goals first | with_reducible rfl | omega
  try simp only [Act.put, pu]
  refine wpAnyH_done (by kernel_rfl) ?_ _
  clear hS
  have nu : ¬ (u ≤ now) := by omega
  clear hu
  obtain ⟨c0, c1, c2, c3, c4⟩ := H.out.cells
  have e0 : w4.cell? ⟨eb, 0, none⟩ = some (.string et) := (H.out.blk (List.mem_cons_self ..)).cell 0
  go_wp2_with fail
  refine wp_region_held_drew (S := (fun w' => ∃ σ' O', LC w0 w' C N σ' (O' ++ (.blk eb 90 #[.string et, .string ev] :: .blk kb 32 (kC (db, ro, fm, no)) :: O)))) (by kernel_rfl) ?_ (fun hS => ?_)
  · exact ⟨_, [], H.out.below (Below.refl _ _).drew⟩
  refine tkY 0 ?_ rfl hS ?_ ?_
  rotate_left
  · intro wz hz
    obtain ⟨σ9, O9, hz⟩ := hz
    obtain ⟨z0, z1, z2, z3, z4⟩ := hz.cells
    have y0 : wz.cell? ⟨eb, 0, none⟩ = some (.string et) := (hz.blk (List.mem_append_right _ (List.mem_cons_self ..))).cell 0
    go_simp
    all_goals first | with_reducible rfl | omega
  try simp only [Act.put, pu]
  refine tkY 1 ?_ rfl hS ?_ ?_
  rotate_left
  · intro wz hz
    obtain ⟨σ9, O9, hz⟩ := hz
    obtain ⟨z0, z1, z2, z3, z4⟩ := hz.cells
    have y0 : wz.cell? ⟨eb, 0, none⟩ = some (.string et) := (hz.blk (List.mem_append_right _ (List.mem_cons_self ..))).cell 0
    go_simp
    all_goals first | with_reducible rfl | omega
  try simp only [Act.put, pu]
  refine tkY 2 ?_ rfl hS ?_ ?_
  rotate_left
  · intro wz hz
    obtain ⟨σ9, O9, hz⟩ := hz
    obtain ⟨z0, z1, z2, z3, z4⟩ := hz.cells
    have y0 : wz.cell? ⟨eb, 0, none⟩ = some (.string et) := (hz.blk (List.mem_append_right _ (List.mem_cons_self ..))).cell 0
    go_simp
    all_goals first | with_reducible rfl | omega
  try simp only [Act.put, pu]
  refine tkY 3 ?_ rfl hS ?_ ?_
  rotate_left
  · intro wz hz
    obtain ⟨σ9, O9, hz⟩ := hz
    obtain ⟨z0, z1, z2, z3, z4⟩ := hz.cells
    have y0 : wz.cell? ⟨eb, 0, none⟩ = some (.string et) := (hz.blk (List.mem_append_right _ (List.mem_cons_self ..))).cell 0
    go_simp
    all_goals first | with_reducible rfl | omega
  try simp only [Act.put, pu]
  refine tkY 4 ?_ rfl hS ?_ ?_
  rotate_left
  · intro wz hz
    obtain ⟨σ9, O9, hz⟩ := hz
    obtain ⟨z0, z1, z2, z3, z4⟩ := hz.cells
    have y0 : wz.cell? ⟨eb, 0, none⟩ = some (.string et) := (hz.blk (List.mem_append_right _ (List.mem_cons_self ..))).cell 0
    go_simp
    all_goals first | with_reducible rfl | omega
  try simp only [Act.put, pu]
  refine tkY 5 ?_ rfl hS ?_ ?_
  rotate_left
  · intro wz hz
    obtain ⟨σ9, O9, hz⟩ := hz
    obtain ⟨z0, z1, z2, z3, z4⟩ := hz.cells
    have y0 : wz.cell? ⟨eb, 0, none⟩ = some (.string et) := (hz.blk (List.mem_append_right _ (List.mem_cons_self ..))).cell 0
    go_simp
    all_goals first | with_reducible rfl | omega
  try simp only [Act.put, pu]
  refine wpAnyH_ready (rs := [6]) (by kernel_rfl) (by simp) (AllReadyH.cons rfl (fun K' hK' => ?_) AllReadyH.nil)
  go_simp
  refine (lc_stouch (H.out.below (Below.refl _ _).drew) HKE.out.1 HKE.out.2 et HTS.out z HHZ.out T9 K9 G HRR.out).mono ?_
  rintro e w5 ⟨v5, c5, rfl, h5⟩
  have H := Lib.hid h5
  clear h5
  refine hK'.out _ _ ?_ (fun hSn => ?_)
  · exact ⟨_, [_], H.out⟩
  clear hK' K' hS
  have hS := hSn
  clear hSn
  try simp only [Act.put, pu]
  refine wpAnyH_done (by kernel_rfl) ?_ _
  clear hS
  have e1 : w5.cell? ⟨eb, 1, none⟩ = some (.string ev) := (H.out.blk (List.mem_cons_of_mem _ (List.mem_cons_self ..))).cell 1
  clear c0 c1 c2 c3 c4 e0
  go_wp2
  go_ret2
  exact ⟨rfl, H.out.forget fun p hp => List.mem_cons_of_mem _ (List.mem_cons_of_mem _ (List.mem_cons_of_mem _ hp))⟩
end
end Go.Proofs.YtjngangojgjceaaGreat.CA
