/- Package cache: Put. Conditions: how long keys and values are, how many puts there were. -/
import Derived.Test.YtjngangojgjceaaGreatG19
set_option linter.unusedSimpArgs false
set_option linter.unusedVariables false
namespace Go.Proofs.YtjngangojgjceaaGreat.CA
open Go.ChangeShapes Go.WideShapes Go.ChangeAt Go.RowKit Go.Maps Go.ChangeMaps
open Go.Proofs.YtjngangojgjceaaGreat.SL Go.Proofs.YtjngangojgjceaaGreat.EX Go.Proofs.YtjngangojgjceaaGreat.RW
set_option maxRecDepth 100000
set_option linter.unusedVariables false
set_option linter.unusedSimpArgs false

section
variable {w0 w w' : World} {C : Cb} {N : Nat} {σ : Sg} {O : List Kp}
set_option maxHeartbeats 4000000 in
theorem lc_put_arg (h : LC w0 w C N σ O) (k : Ky) (hk : FitK k) (v : ByteArray) (now : Int) (hb : rightK k = false ∨ now < 0 ∨ 549755813888 < now) :
    Calls Tryz.prog 8 #[ptr C.g, kyV k, .string v, .int .i64 now] w (RetC w0 C N σ O (.tuple #[.slice none 0 0, .int .i64 1])) := by
  obtain ⟨kb, hkb⟩ : ∃ b, w.heap.size = b := ⟨_, rfl⟩
  obtain ⟨W0, hW0⟩ : ∃ W, w.alloc (.cells (kC k) 32) = W := ⟨_, rfl⟩
  have hb0 : Below w.heap.size w W0 := by rw [← hW0]; exact (Below.refl _ _).alloc (Nat.le_refl _) _
  have kk : Bk W0 kb 32 (kC k) := by rw [← hW0, ← hkb]; exact Bk.new _ _ _
  have h1 := h.blkO hb0 (Nat.le_of_eq hkb) kk
  have H := Lib.hid h1
  have HX := Lib.hid (fun W => text_any k hk W)
  obtain ⟨c0, c1, c2, c3, c4⟩ := h1.cells
  unfold RetC
  cases hr : rightK k with
  | false =>
    rw [txt_not hr] at HX
    clear h hk hb0 h1 hb hr
    obtain ⟨db, ro, fm, no⟩ := k
    have a0 : W0.cell? ⟨kb, 0, none⟩ = some (.string db) := kk.cell 0
    have a1 : W0.cell? ⟨kb, 1, none⟩ = some (.string ro) := kk.cell 1
    have a2 : W0.cell? ⟨kb, 2, none⟩ = some (.int .i64 fm) := kk.cell 2
    have a3 : W0.cell? ⟨kb, 3, none⟩ = some (.string no) := kk.cell 3
    clear kk
    go_enter Tryz.func8, Tryz.ntmps8
    go_wp2_with fail
    try rw [hW0]
    try rw [hkb]
    refine (CA.given_yes _ _ c0).mono ?_
    rintro e w' ⟨rfl, rfl⟩
    go_wp2_with fail
    refine (HX.out _).mono ?_
    rintro e w2 ⟨rfl, hb2⟩
    have H := Lib.hid (H.out.below hb2)
    clear hb2 a0 a1 a2 a3 c0 c1 c2 c3 c4 hW0 hkb
    go_wp2
    go_ret2
    exact ⟨rfl, H.out.forget fun p hp => List.mem_cons_of_mem _ hp⟩
  | true =>
    rw [txt_right hr] at HX
    have hne := toL_ne (text_ne hr)
    obtain ⟨P, hP⟩ : ∃ P, textK k = P := ⟨_, rfl⟩
    rw [hP] at HX hne
    rw [hr] at hb
    have hb3 : now < 0 ∨ ¬ now < 0 ∧ 549755813888 < now := by
      rcases hb with hb | hb | hb
      · cases hb
      · exact .inl hb
      · exact .inr ⟨by omega, hb⟩
    clear h hk hb0 h1 hb hr hP
    obtain ⟨db, ro, fm, no⟩ := k
    have a0 : W0.cell? ⟨kb, 0, none⟩ = some (.string db) := kk.cell 0
    have a1 : W0.cell? ⟨kb, 1, none⟩ = some (.string ro) := kk.cell 1
    have a2 : W0.cell? ⟨kb, 2, none⟩ = some (.int .i64 fm) := kk.cell 2
    have a3 : W0.cell? ⟨kb, 3, none⟩ = some (.string no) := kk.cell 3
    clear kk
    rcases hb3 with l1 | ⟨l1, l2⟩
    · skip
      go_enter Tryz.func8, Tryz.ntmps8
      go_wp2_with fail
      try rw [hW0]
      try rw [hkb]
      refine (CA.given_yes _ _ c0).mono ?_
      rintro e w' ⟨rfl, rfl⟩
      go_wp2_with fail
      refine (HX.out _).mono ?_
      rintro e w2 ⟨rfl, hb2⟩
      have H := Lib.hid (H.out.below hb2)
      clear hb2 a0 a1 a2 a3 c0 c1 c2 c3 c4 hW0 hkb
      go_wp2
      go_ret2
      exact ⟨rfl, H.out.forget fun p hp => List.mem_cons_of_mem _ hp⟩
    · skip
      go_enter Tryz.func8, Tryz.ntmps8
      go_wp2_with fail
      try rw [hW0]
      try rw [hkb]
      refine (CA.given_yes _ _ c0).mono ?_
      rintro e w' ⟨rfl, rfl⟩
      go_wp2_with fail
      refine (HX.out _).mono ?_
      rintro e w2 ⟨rfl, hb2⟩
      have H := Lib.hid (H.out.below hb2)
      clear hb2 a0 a1 a2 a3 c0 c1 c2 c3 c4 hW0 hkb
      go_wp2
      go_ret2
      exact ⟨rfl, H.out.forget fun p hp => List.mem_cons_of_mem _ hp⟩
set_option maxHeartbeats 8000000 in
theorem lc_put_big (h : LC w0 w C N σ O) (k : Ky) (hk : FitK k) (v : ByteArray) (hv : v.size ≤ 1099511627776) (now : Int) (hr : rightK k = true) (hw : 0 ≤ now ∧ now ≤ 549755813888) (z : Int) (hz : szK k v = z) (hm : C.mo < z) :
    Calls Tryz.prog 8 #[ptr C.g, kyV k, .string v, .int .i64 now] w (RetC w0 C N σ O (.tuple #[.slice none 0 0, .int .i64 2])) := by
  obtain ⟨kb, hkb⟩ : ∃ b, w.heap.size = b := ⟨_, rfl⟩
  obtain ⟨W0, hW0⟩ : ∃ W, w.alloc (.cells (kC k) 32) = W := ⟨_, rfl⟩
  have hb0 : Below w.heap.size w W0 := by rw [← hW0]; exact (Below.refl _ _).alloc (Nat.le_refl _) _
  have kk : Bk W0 kb 32 (kC k) := by rw [← hW0, ← hkb]; exact Bk.new _ _ _
  have h1 := h.blkO hb0 (Nat.le_of_eq hkb) kk
  have H := Lib.hid h1
  have HX := Lib.hid (fun W => text_any k hk W)
  obtain ⟨c0, c1, c2, c3, c4⟩ := h1.cells
  unfold RetC
  have hz1 : 1 ≤ z := by rw [← hz]; unfold szK; rw [if_pos hr]; omega
  have hts := fit_text hk hr
  have HSZ := Lib.hid (fun W => CA.size_any k v hk hv W)
  rw [hz] at HSZ
  rw [txt_right hr] at HX
  have hne := toL_ne (text_ne hr)
  obtain ⟨P, hP⟩ : ∃ P, textK k = P := ⟨_, rfl⟩
  rw [hP] at HX hne hts
  have l1 : ¬ now < 0 := by omega
  have l2 : ¬ 549755813888 < now := by omega
  have HZ1 := Lib.hid hz1
  have HM := Lib.hid hm
  clear h hk hb0 h1 hr hP hz hv hw hz1 hm hts
  obtain ⟨db, ro, fm, no⟩ := k
  have a0 : W0.cell? ⟨kb, 0, none⟩ = some (.string db) := kk.cell 0
  have a1 : W0.cell? ⟨kb, 1, none⟩ = some (.string ro) := kk.cell 1
  have a2 : W0.cell? ⟨kb, 2, none⟩ = some (.int .i64 fm) := kk.cell 2
  have a3 : W0.cell? ⟨kb, 3, none⟩ = some (.string no) := kk.cell 3
  clear kk
  go_enter Tryz.func8, Tryz.ntmps8
  go_wp2_with fail
  try rw [hW0]
  try rw [hkb]
  refine (CA.given_yes _ _ c0).mono ?_
  rintro e w' ⟨rfl, rfl⟩
  go_wp2_with fail
  refine (HX.out _).mono ?_
  rintro e w2 ⟨rfl, hb2⟩
  have H := Lib.hid (H.out.below hb2)
  clear hb2 a0 a1 a2 a3 c0 c1 c2 c3 c4 hW0 hkb
  go_wp2_with fail
  refine wp_region_held_drew (S := (fun w' => ∃ N' σ' O', LC w0 w' C N' σ' (O' ++ (.blk kb 32 (kC (db, ro, fm, no)) :: O)))) (by kernel_rfl) ?_ (fun hS => ?_)
  · exact ⟨_, _, [], H.out.below (Below.refl _ _).drew⟩
  refine tkY 0 ?_ rfl hS ?_ ?_
  rotate_left
  · intro wz hz
    obtain ⟨N9, σ9, O9, hz⟩ := hz
    obtain ⟨z0, z1, z2, z3, z4⟩ := hz.cells
    have y := hz.blk (List.mem_append_right _ (List.mem_cons_self ..))
    have q0 : wz.cell? ⟨kb, 0, none⟩ = some (.string db) := y.cell 0
    have q1 : wz.cell? ⟨kb, 1, none⟩ = some (.string ro) := y.cell 1
    have q2 : wz.cell? ⟨kb, 2, none⟩ = some (.int .i64 fm) := y.cell 2
    have q3 : wz.cell? ⟨kb, 3, none⟩ = some (.string no) := y.cell 3
    go_simp
    all_goals first | with_reducible rfl | omega
  try simp only [Act.put, pu]
  refine tkY 1 ?_ rfl hS ?_ ?_
  rotate_left
  · intro wz hz
    obtain ⟨N9, σ9, O9, hz⟩ := hz
    obtain ⟨z0, z1, z2, z3, z4⟩ := hz.cells
    have y := hz.blk (List.mem_append_right _ (List.mem_cons_self ..))
    have q0 : wz.cell? ⟨kb, 0, none⟩ = some (.string db) := y.cell 0
    have q1 : wz.cell? ⟨kb, 1, none⟩ = some (.string ro) := y.cell 1
    have q2 : wz.cell? ⟨kb, 2, none⟩ = some (.int .i64 fm) := y.cell 2
    have q3 : wz.cell? ⟨kb, 3, none⟩ = some (.string no) := y.cell 3
    go_simp
    all_goals first | with_reducible rfl | omega
  try simp only [Act.put, pu]
  refine tkY 2 ?_ rfl hS ?_ ?_
  rotate_left
  · intro wz hz
    obtain ⟨N9, σ9, O9, hz⟩ := hz
    obtain ⟨z0, z1, z2, z3, z4⟩ := hz.cells
    have y := hz.blk (List.mem_append_right _ (List.mem_cons_self ..))
    have q0 : wz.cell? ⟨kb, 0, none⟩ = some (.string db) := y.cell 0
    have q1 : wz.cell? ⟨kb, 1, none⟩ = some (.string ro) := y.cell 1
    have q2 : wz.cell? ⟨kb, 2, none⟩ = some (.int .i64 fm) := y.cell 2
    have q3 : wz.cell? ⟨kb, 3, none⟩ = some (.string no) := y.cell 3
    go_simp
    all_goals first | with_reducible rfl | omega
  try simp only [Act.put, pu]
  refine tkY 3 ?_ rfl hS ?_ ?_
  rotate_left
  · intro wz hz
    obtain ⟨N9, σ9, O9, hz⟩ := hz
    obtain ⟨z0, z1, z2, z3, z4⟩ := hz.cells
    have y := hz.blk (List.mem_append_right _ (List.mem_cons_self ..))
    have q0 : wz.cell? ⟨kb, 0, none⟩ = some (.string db) := y.cell 0
    have q1 : wz.cell? ⟨kb, 1, none⟩ = some (.string ro) := y.cell 1
    have q2 : wz.cell? ⟨kb, 2, none⟩ = some (.int .i64 fm) := y.cell 2
    have q3 : wz.cell? ⟨kb, 3, none⟩ = some (.string no) := y.cell 3
    go_simp
    all_goals first | with_reducible rfl | omega
  try simp only [Act.put, pu]
  refine tkY 4 ?_ rfl hS ?_ ?_
  rotate_left
  · intro wz hz
    obtain ⟨N9, σ9, O9, hz⟩ := hz
    obtain ⟨z0, z1, z2, z3, z4⟩ := hz.cells
    have y := hz.blk (List.mem_append_right _ (List.mem_cons_self ..))
    have q0 : wz.cell? ⟨kb, 0, none⟩ = some (.string db) := y.cell 0
    have q1 : wz.cell? ⟨kb, 1, none⟩ = some (.string ro) := y.cell 1
    have q2 : wz.cell? ⟨kb, 2, none⟩ = some (.int .i64 fm) := y.cell 2
    have q3 : wz.cell? ⟨kb, 3, none⟩ = some (.string no) := y.cell 3
    go_simp
    all_goals first | with_reducible rfl | omega
  try simp only [Act.put, pu]
  refine tkY 5 ?_ rfl hS ?_ ?_
  rotate_left
  · intro wz hz
    obtain ⟨N9, σ9, O9, hz⟩ := hz
    obtain ⟨z0, z1, z2, z3, z4⟩ := hz.cells
    have y := hz.blk (List.mem_append_right _ (List.mem_cons_self ..))
    have q0 : wz.cell? ⟨kb, 0, none⟩ = some (.string db) := y.cell 0
    have q1 : wz.cell? ⟨kb, 1, none⟩ = some (.string ro) := y.cell 1
    have q2 : wz.cell? ⟨kb, 2, none⟩ = some (.int .i64 fm) := y.cell 2
    have q3 : wz.cell? ⟨kb, 3, none⟩ = some (.string no) := y.cell 3
    go_simp
    all_goals first | with_reducible rfl | omega
  try simp only [Act.put, pu]
  refine tkY 6 ?_ rfl hS ?_ ?_
  rotate_left
  · intro wz hz
    obtain ⟨N9, σ9, O9, hz⟩ := hz
    obtain ⟨z0, z1, z2, z3, z4⟩ := hz.cells
    have y := hz.blk (List.mem_append_right _ (List.mem_cons_self ..))
    have q0 : wz.cell? ⟨kb, 0, none⟩ = some (.string db) := y.cell 0
    have q1 : wz.cell? ⟨kb, 1, none⟩ = some (.string ro) := y.cell 1
    have q2 : wz.cell? ⟨kb, 2, none⟩ = some (.int .i64 fm) := y.cell 2
    have q3 : wz.cell? ⟨kb, 3, none⟩ = some (.string no) := y.cell 3
    go_simp
    all_goals first | with_reducible rfl | omega
  try simp only [Act.put, pu]
  refine wpAnyH_ready (rs := [7]) (by kernel_rfl) (by simp) (AllReadyH.cons rfl (fun K' hK' => ?_) AllReadyH.nil)
  go_simp
  have hbd : Below w2.heap.size w2 w2.drew := (Below.refl _ _).drew
  refine (HSZ.out w2.drew).mono ?_
  rintro e w3 ⟨rfl, b3⟩
  have H := Lib.hid (H.out.below (hbd.trans (b3.mono hbd.size)))
  clear b3 hbd
  refine hK'.out _ _ ?_ (fun hSn => ?_)
  · exact ⟨_, _, [], H.out⟩
  clear hK' K' hS
  have hS := hSn
  clear hSn
  try simp only [Act.put, pu]
  refine wpAnyH_ready (rs := [8]) (by kernel_rfl) (by simp) (AllReadyH.cons rfl (fun K' hK' => ?_) AllReadyH.nil)
  go_simp
  refine (lc_sbig H.out P z HZ1.out HM.out).mono ?_
  rintro e w' ⟨rfl, rfl⟩
  refine hK'.out _ _ ?_ (fun hSn => ?_)
  · exact ⟨_, _, [], H.out⟩
  clear hK' K' hS
  have hS := hSn
  clear hSn
  try simp only [Act.put, pu]
  refine tkY 9 ?_ rfl hS ?_ ?_
  rotate_left
  · intro wz hz
    go_simp
    all_goals first | with_reducible rfl | omega
  try simp only [Act.put, pu]
  refine tkY 10 ?_ rfl hS ?_ ?_
  rotate_left
  · intro wz hz
    go_simp
    all_goals first | with_reducible rfl | omega
  try simp only [Act.put, pu]
  refine tkY 11 ?_ rfl hS ?_ ?_
  rotate_left
  · intro wz hz
    go_simp
    all_goals first | with_reducible rfl | omega
  try simp only [Act.put, pu]
  refine tkY 12 ?_ rfl hS ?_ ?_
  rotate_left
  · intro wz hz
    go_simp
    all_goals first | with_reducible rfl | omega
  try simp only [Act.put, pu]
  refine tkY 13 ?_ rfl hS ?_ ?_
  rotate_left
  · intro wz hz
    go_simp
    all_goals first | with_reducible rfl | omega
  try simp only [Act.put, pu]
  refine wpAnyH_done (by kernel_rfl) ?_ _
  clear hS
  go_wp2
  go_ret2
  exact ⟨rfl, H.out.forget fun p hp => List.mem_cons_of_mem _ hp⟩
theorem okP_text {k : Ky} (h : rightK k = true) : okP (textK k) = true := ok_text h
set_option maxHeartbeats 16000000 in
theorem lc_put_yes (h : LC w0 w C N σ O) (k : Ky) (hk : FitK k) (v : ByteArray) (hv : v.size ≤ 1099511627776) (now : Int) (hr : rightK k = true) (hw : 0 ≤ now ∧ now ≤ 549755813888) (z : Int) (hz : szK k v = z) (hm : z ≤ C.mo) (ht4 : (textK k).size ≤ 4000) (hN : N ≤ 470) (hal : C.mo ≤ C.al ∧ C.al ≤ 1073741824) (httl : 1 ≤ C.ttl ∧ C.ttl ≤ 549755813888) (hT : kLe σ.T) (hK : kLe σ.K) (T9 K9 : List En) (G : List ByteArray) (hR : putE C.al (textK k) z σ.T σ.K = (T9, K9, G))
    (ht : There G σ) (hG : textK k ∉ G) (σ' : Sg) (hσ : dropsS G ⟨T9, K9, setI (textK k) (now + C.ttl) σ.I, setV (textK k) v σ.V⟩ = σ') :
    Calls Tryz.prog 8 #[ptr C.g, kyV k, .string v, .int .i64 now] w (fun e w' => ∃ a c, e = .returned (.tuple #[.slice a (G.map parK).length c, .int .i64 0]) ∧ LC w0 w' C (N + 3) σ' (Kk w0.heap.size (.slice a (G.map parK).length c) (G.map parK) :: O)) := by
  obtain ⟨kb, hkb⟩ : ∃ b, w.heap.size = b := ⟨_, rfl⟩
  obtain ⟨W0, hW0⟩ : ∃ W, w.alloc (.cells (kC k) 32) = W := ⟨_, rfl⟩
  have hb0 : Below w.heap.size w W0 := by rw [← hW0]; exact (Below.refl _ _).alloc (Nat.le_refl _) _
  have kk : Bk W0 kb 32 (kC k) := by rw [← hW0, ← hkb]; exact Bk.new _ _ _
  have h1 := h.blkO hb0 (Nat.le_of_eq hkb) kk
  have H := Lib.hid h1
  have HX := Lib.hid (fun W => text_any k hk W)
  obtain ⟨c0, c1, c2, c3, c4⟩ := h1.cells
  have hz1 : 1 ≤ z := by rw [← hz]; unfold szK; rw [if_pos hr]; omega
  have hts := fit_text hk hr
  have HSZ := Lib.hid (fun W => CA.size_any k v hk hv W)
  rw [hz] at HSZ
  rw [txt_right hr] at HX
  have hne := toL_ne (text_ne hr)
  have hGL : G.length ≤ 1099511627776 := by
    have hf := h.facts
    have hpl := SL.put_len (al := C.al) (k := textK k) (z := z) (T := σ.T) (K := σ.K)
    rw [hR] at hpl
    have := hf.2.2.2.2.2.2.1
    simp only at hpl; omega
  have hsd := set_drops (textK k) v (now + C.ttl) G hG ⟨T9, K9, σ.I, σ.V⟩
  simp only at hsd
  rw [hσ] at hsd
  have hmd : ∀ (W : World) (N' : Nat) (σ2 : Sg) (O2 : List Kp), N' ≤ 1000000 → LC w0 W C N' σ2 O2 → ∃ w', (Instr.mapUpdate 57 (.map (some C.m)) (kyV k) (ceV (textK k, v))).run Tryz.prog W = .ok () w' ∧ LC w0 w' C (N' + 1) ⟨σ2.T, σ2.K, σ2.I, setV (textK k) v σ2.V⟩ O2 := fun W N' σ2 O2 hn hx => lc_mput hx hn k hk hr v
  have HMD := Lib.hid hmd
  have HPA := Lib.hid (fun W => parse_any (textK k) (by omega) W)
  unfold ParP at HPA
  rw [par_text hr, ok_text hr] at HPA
  obtain ⟨P, hP⟩ : ∃ P, textK k = P := ⟨_, rfl⟩
  rw [hP] at HX hne hts hR hG hsd HMD HPA ht4
  have l1 : ¬ now < 0 := by omega
  have l2 : ¬ 549755813888 < now := by omega
  obtain ⟨u, hu⟩ : ∃ u, now + C.ttl = u := ⟨_, rfl⟩
  have wu : IntKind.i64.wrap (now + C.ttl) = u := by rw [hu]; exact IntWalk.i64_in _ (by omega)
  have HU : Hid (0 ≤ u ∧ u ≤ 1099511627776) := Lib.hid (by omega)
  rw [hu] at hsd
  have HZ1 := Lib.hid hz1
  have HM := Lib.hid hm
  have HN := Lib.hid hN
  have HAL := Lib.hid hal
  have HTK := Lib.hid (And.intro hT hK)
  have HRR := Lib.hid hR
  have HTH := Lib.hid ht
  have HSD := Lib.hid hsd
  have HTS := Lib.hid hts
  have HGL := Lib.hid hGL
  have HVS : Hid (v.size ≤ 281474976710656) := Lib.hid (by omega)
  clear h hk hb0 h1 hr hP hz hv hw hz1 hm ht4 hts hN hal httl hT hK hR ht hG hσ hGL hsd hmd hu
  obtain ⟨db, ro, fm, no⟩ := k
  have a0 : W0.cell? ⟨kb, 0, none⟩ = some (.string db) := kk.cell 0
  have a1 : W0.cell? ⟨kb, 1, none⟩ = some (.string ro) := kk.cell 1
  have a2 : W0.cell? ⟨kb, 2, none⟩ = some (.int .i64 fm) := kk.cell 2
  have a3 : W0.cell? ⟨kb, 3, none⟩ = some (.string no) := kk.cell 3
  clear kk
  go_enter Tryz.func8, Tryz.ntmps8
  go_wp2_with fail
  try rw [hW0]
  try rw [hkb]
  refine (CA.given_yes _ _ c0).mono ?_
  rintro e w' ⟨rfl, rfl⟩
  go_wp2_with fail
  refine (HX.out _).mono ?_
  rintro e w2 ⟨rfl, hb2⟩
  have H := Lib.hid (H.out.below hb2)
  clear hb2 a0 a1 a2 a3 c0 c1 c2 c3 c4 hW0 hkb
  go_wp2_with fail
  refine wp_region_held_drew (S := (fun w' => ∃ N' σ' O', LC w0 w' C N' σ' (O' ++ (.blk kb 32 (kC (db, ro, fm, no)) :: O)))) (by kernel_rfl) ?_ (fun hS => ?_)
  · exact ⟨_, _, [], H.out.below (Below.refl _ _).drew⟩
  refine tkY 0 ?_ rfl hS ?_ ?_
  rotate_left
  · intro wz hz
    obtain ⟨N9, σ9, O9, hz⟩ := hz
    obtain ⟨z0, z1, z2, z3, z4⟩ := hz.cells
    have y := hz.blk (List.mem_append_right _ (List.mem_cons_self ..))
    have q0 : wz.cell? ⟨kb, 0, none⟩ = some (.string db) := y.cell 0
    have q1 : wz.cell? ⟨kb, 1, none⟩ = some (.string ro) := y.cell 1
    have q2 : wz.cell? ⟨kb, 2, none⟩ = some (.int .i64 fm) := y.cell 2
    have q3 : wz.cell? ⟨kb, 3, none⟩ = some (.string no) := y.cell 3
    go_simp
    all_goals first | with_reducible rfl | omega
  try simp only [Act.put, pu]
  refine tkY 1 ?_ rfl hS ?_ ?_
  rotate_left
  · intro wz hz
    obtain ⟨N9, σ9, O9, hz⟩ := hz
    obtain ⟨z0, z1, z2, z3, z4⟩ := hz.cells
    have y := hz.blk (List.mem_append_right _ (List.mem_cons_self ..))
    have q0 : wz.cell? ⟨kb, 0, none⟩ = some (.string db) := y.cell 0
    have q1 : wz.cell? ⟨kb, 1, none⟩ = some (.string ro) := y.cell 1
    have q2 : wz.cell? ⟨kb, 2, none⟩ = some (.int .i64 fm) := y.cell 2
    have q3 : wz.cell? ⟨kb, 3, none⟩ = some (.string no) := y.cell 3
    go_simp
    all_goals first | with_reducible rfl | omega
  try simp only [Act.put, pu]
  refine tkY 2 ?_ rfl hS ?_ ?_
  rotate_left
  · intro wz hz
    obtain ⟨N9, σ9, O9, hz⟩ := hz
    obtain ⟨z0, z1, z2, z3, z4⟩ := hz.cells
    have y := hz.blk (List.mem_append_right _ (List.mem_cons_self ..))
    have q0 : wz.cell? ⟨kb, 0, none⟩ = some (.string db) := y.cell 0
    have q1 : wz.cell? ⟨kb, 1, none⟩ = some (.string ro) := y.cell 1
    have q2 : wz.cell? ⟨kb, 2, none⟩ = some (.int .i64 fm) := y.cell 2
    have q3 : wz.cell? ⟨kb, 3, none⟩ = some (.string no) := y.cell 3
    go_simp
    all_goals first | with_reducible rfl | omega
  try simp only [Act.put, pu]
  refine tkY 3 ?_ rfl hS ?_ ?_
  rotate_left
  · intro wz hz
    obtain ⟨N9, σ9, O9, hz⟩ := hz
    obtain ⟨z0, z1, z2, z3, z4⟩ := hz.cells
    have y := hz.blk (List.mem_append_right _ (List.mem_cons_self ..))
    have q0 : wz.cell? ⟨kb, 0, none⟩ = some (.string db) := y.cell 0
    have q1 : wz.cell? ⟨kb, 1, none⟩ = some (.string ro) := y.cell 1
    have q2 : wz.cell? ⟨kb, 2, none⟩ = some (.int .i64 fm) := y.cell 2
    have q3 : wz.cell? ⟨kb, 3, none⟩ = some (.string no) := y.cell 3
    go_simp
    all_goals first | with_reducible rfl | omega
  try simp only [Act.put, pu]
  refine tkY 4 ?_ rfl hS ?_ ?_
  rotate_left
  · intro wz hz
    obtain ⟨N9, σ9, O9, hz⟩ := hz
    obtain ⟨z0, z1, z2, z3, z4⟩ := hz.cells
    have y := hz.blk (List.mem_append_right _ (List.mem_cons_self ..))
    have q0 : wz.cell? ⟨kb, 0, none⟩ = some (.string db) := y.cell 0
    have q1 : wz.cell? ⟨kb, 1, none⟩ = some (.string ro) := y.cell 1
    have q2 : wz.cell? ⟨kb, 2, none⟩ = some (.int .i64 fm) := y.cell 2
    have q3 : wz.cell? ⟨kb, 3, none⟩ = some (.string no) := y.cell 3
    go_simp
    all_goals first | with_reducible rfl | omega
  try simp only [Act.put, pu]
  refine tkY 5 ?_ rfl hS ?_ ?_
  rotate_left
  · intro wz hz
    obtain ⟨N9, σ9, O9, hz⟩ := hz
    obtain ⟨z0, z1, z2, z3, z4⟩ := hz.cells
    have y := hz.blk (List.mem_append_right _ (List.mem_cons_self ..))
    have q0 : wz.cell? ⟨kb, 0, none⟩ = some (.string db) := y.cell 0
    have q1 : wz.cell? ⟨kb, 1, none⟩ = some (.string ro) := y.cell 1
    have q2 : wz.cell? ⟨kb, 2, none⟩ = some (.int .i64 fm) := y.cell 2
    have q3 : wz.cell? ⟨kb, 3, none⟩ = some (.string no) := y.cell 3
    go_simp
    all_goals first | with_reducible rfl | omega
  try simp only [Act.put, pu]
  refine tkY 6 ?_ rfl hS ?_ ?_
  rotate_left
  · intro wz hz
    obtain ⟨N9, σ9, O9, hz⟩ := hz
    obtain ⟨z0, z1, z2, z3, z4⟩ := hz.cells
    have y := hz.blk (List.mem_append_right _ (List.mem_cons_self ..))
    have q0 : wz.cell? ⟨kb, 0, none⟩ = some (.string db) := y.cell 0
    have q1 : wz.cell? ⟨kb, 1, none⟩ = some (.string ro) := y.cell 1
    have q2 : wz.cell? ⟨kb, 2, none⟩ = some (.int .i64 fm) := y.cell 2
    have q3 : wz.cell? ⟨kb, 3, none⟩ = some (.string no) := y.cell 3
    go_simp
    all_goals first | with_reducible rfl | omega
  try simp only [Act.put, pu]
  refine wpAnyH_ready (rs := [7]) (by kernel_rfl) (by simp) (AllReadyH.cons rfl (fun K' hK' => ?_) AllReadyH.nil)
  go_simp
  have hbd : Below w2.heap.size w2 w2.drew := (Below.refl _ _).drew
  refine (HSZ.out w2.drew).mono ?_
  rintro e w3 ⟨rfl, b3⟩
  have H := Lib.hid (H.out.below (hbd.trans (b3.mono hbd.size)))
  clear b3 hbd
  refine hK'.out _ _ ?_ (fun hSn => ?_)
  · exact ⟨_, _, [], H.out⟩
  clear hK' K' hS
  have hS := hSn
  clear hSn
  try simp only [Act.put, pu]
  refine wpAnyH_ready (rs := [8]) (by kernel_rfl) (by simp) (AllReadyH.cons rfl (fun K' hK' => ?_) AllReadyH.nil)
  go_simp
  refine (lc_sput H.out HAL.out (by have := HN.out; omega) HTK.out.1 HTK.out.2 P HTS.out z HZ1.out HM.out T9 K9 G HRR.out).mono ?_
  rintro e w4 ⟨va, vc, rfl, h4⟩
  have H := Lib.hid h4
  clear h4
  refine hK'.out _ _ ?_ (fun hSn => ?_)
  · exact ⟨_, _, [_], H.out⟩
  clear hK' K' hS
  have hS := hSn
  clear hSn
  try simp only [Act.put, pu]
  refine tkY 9 ?_ rfl hS ?_ ?_
  rotate_left
  · intro wz hz
    go_simp
    all_goals first | with_reducible rfl | omega
  try simp only [Act.put, pu]
  refine tkY 10 ?_ rfl hS ?_ ?_
  rotate_left
  · intro wz hz
    go_simp
    all_goals first | with_reducible rfl | omega
  try simp only [Act.put, pu]
  refine tkY 11 ?_ rfl hS ?_ ?_
  rotate_left
  · intro wz hz
    go_simp
    all_goals first | with_reducible rfl | omega
  try simp only [Act.put, pu]
  refine tkY 12 ?_ rfl hS ?_ ?_
  rotate_left
  · intro wz hz
    go_simp
    all_goals first | with_reducible rfl | omega
  try simp only [Act.put, pu]
  refine tkY 13 ?_ rfl hS ?_ ?_
  rotate_left
  · intro wz hz
    go_simp
    all_goals first | with_reducible rfl | omega
  try simp only [Act.put, pu]
  refine wpAnyH_done (by kernel_rfl) ?_ _
  clear hS
  have HTS4 := Lib.hid (H.out.told (List.mem_cons_self ..)).ts
  go_wp2_with fail
  refine (forget_any H.out (by have := HN.out; omega) _ G HTS4.out ⟨HTH.out.nd, HTH.out.ok, HTH.out.vs⟩ HGL.out).mono ?_
  rintro e w5 ⟨ka, kc, rfl, h5⟩
  have H := Lib.hid h5
  obtain ⟨M, hM⟩ : ∃ M, G.map parK = M := ⟨_, rfl⟩
  have HM9 := Lib.hid hM
  rw [hM] at H ⊢
  obtain ⟨c0, c1, c2, c3, c4⟩ := H.out.cells
  clear h5 HTS4
  try rw [show G.length = M.length from by rw [← hM, List.length_map]]
  clear hM
  go_wp2_with fail
  refine wp_region_held_drew (S := (fun w' => ∃ N' σ' O', LC w0 w' C N' σ' O')) (by kernel_rfl) ?_ (fun hS => ?_)
  · exact ⟨_, _, _, H.out.below (Below.refl _ _).drew⟩
  refine tkY 0 ?_ rfl hS ?_ ?_
  rotate_left
  · intro wz hz
    obtain ⟨N9, σ9, O9, hz⟩ := hz
    obtain ⟨z0, z1, z2, z3, z4⟩ := hz.cells
    go_simp
    all_goals first | with_reducible rfl | omega
  try simp only [Act.put, pu]
  refine tkY 1 ?_ rfl hS ?_ ?_
  rotate_left
  · intro wz hz
    obtain ⟨N9, σ9, O9, hz⟩ := hz
    obtain ⟨z0, z1, z2, z3, z4⟩ := hz.cells
    go_simp
    all_goals first | with_reducible rfl | omega
  try simp only [Act.put, pu]
  refine tkY 2 ?_ rfl hS ?_ ?_
  rotate_left
  · intro wz hz
    obtain ⟨N9, σ9, O9, hz⟩ := hz
    obtain ⟨z0, z1, z2, z3, z4⟩ := hz.cells
    go_simp
    all_goals first | with_reducible rfl | omega
  try simp only [Act.put, pu]
  refine tkY 3 ?_ rfl hS ?_ ?_
  rotate_left
  · intro wz hz
    obtain ⟨N9, σ9, O9, hz⟩ := hz
    obtain ⟨z0, z1, z2, z3, z4⟩ := hz.cells
    go_simp
    all_goals first | with_reducible rfl | omega
  try simp only [Act.put, pu]
  refine tkY 4 ?_ rfl hS ?_ ?_
  rotate_left
  · intro wz hz
    obtain ⟨N9, σ9, O9, hz⟩ := hz
    obtain ⟨z0, z1, z2, z3, z4⟩ := hz.cells
    go_simp
    all_goals first | with_reducible rfl | omega
  try simp only [Act.put, pu]
  refine tkY 5 ?_ rfl hS ?_ ?_
  rotate_left
  · intro wz hz
    obtain ⟨N9, σ9, O9, hz⟩ := hz
    obtain ⟨z0, z1, z2, z3, z4⟩ := hz.cells
    go_simp
    all_goals first | with_reducible rfl | omega
  try simp only [Act.put, pu]
  refine tkY 6 ?_ rfl hS ?_ ?_
  rotate_left
  · intro wz hz
    obtain ⟨N9, σ9, O9, hz⟩ := hz
    obtain ⟨z0, z1, z2, z3, z4⟩ := hz.cells
    go_simp
    all_goals first | with_reducible rfl | omega
  try simp only [Act.put, pu]
  refine tkY 7 ?_ rfl hS ?_ ?_
  rotate_left
  · intro wz hz
    obtain ⟨N9, σ9, O9, hz⟩ := hz
    obtain ⟨z0, z1, z2, z3, z4⟩ := hz.cells
    go_simp
    all_goals first | with_reducible rfl | omega
  try simp only [Act.put, pu]
  refine tkY 8 ?_ rfl hS ?_ ?_
  rotate_left
  · intro wz hz
    obtain ⟨N9, σ9, O9, hz⟩ := hz
    obtain ⟨z0, z1, z2, z3, z4⟩ := hz.cells
    go_simp
    all_goals first | with_reducible rfl | omega
  try simp only [Act.put, pu]
  refine tkY 9 ?_ rfl hS ?_ ?_
  rotate_left
  · intro wz hz
    obtain ⟨N9, σ9, O9, hz⟩ := hz
    obtain ⟨z0, z1, z2, z3, z4⟩ := hz.cells
    go_simp
    all_goals first | with_reducible rfl | omega
  try simp only [Act.put, pu]
  refine tkY 10 ?_ rfl hS ?_ ?_
  rotate_left
  · intro wz hz
    obtain ⟨N9, σ9, O9, hz⟩ := hz
    obtain ⟨z0, z1, z2, z3, z4⟩ := hz.cells
    go_simp
    all_goals first | with_reducible rfl | omega
  try simp only [Act.put, pu]
  refine wpAnyH_ready (rs := [11]) (by kernel_rfl) (by simp) (AllReadyH.cons rfl (fun K' hK' => ?_) AllReadyH.nil)
  go_simp
  refine (lc_qset (H.out.below (Below.refl _ _).drew) P HTS.out u HU.out (by have := HN.out; omega) _ rfl).mono ?_
  rintro e w6 ⟨rfl, h6⟩
  have H := Lib.hid h6
  clear h6
  refine hK'.out _ _ ?_ (fun hSn => ?_)
  · exact ⟨_, _, _, H.out⟩
  clear hK' K' hS
  have hS := hSn
  clear hSn
  try simp only [Act.put, pu]
  refine wpAnyH_done (by kernel_rfl) ?_ _
  clear hS
  clear c0 c1 c2 c3 c4
  go_wp2_with fail
  refine (HPA.out _).mono ?_
  rintro e w7 ⟨rfl, b7⟩
  have H := Lib.hid (H.out.below b7)
  obtain ⟨W8, hW8⟩ : ∃ W, w7.alloc (.cells #[.string db, .string ro, .int .i64 fm, .string no] 32) = W := ⟨_, rfl⟩
  obtain ⟨nb, hnb⟩ : ∃ b, w7.heap.size = b := ⟨_, rfl⟩
  have hb8 : Below w7.heap.size w7 W8 := by rw [← hW8]; exact (Below.refl _ _).alloc (Nat.le_refl _) _
  have kn : Bk W8 nb 32 (kC (db, ro, fm, no)) := by rw [← hW8, ← hnb]; exact Bk.new _ _ _
  have H := Lib.hid (H.out.blkO hb8 (Nat.le_of_eq hnb) kn)
  obtain ⟨c0, c1, c2, c3, c4⟩ := H.out.cells
  have n0 : W8.cell? ⟨nb, 0, none⟩ = some (.string db) := kn.cell 0
  have n1 : W8.cell? ⟨nb, 1, none⟩ = some (.string ro) := kn.cell 1
  have n2 : W8.cell? ⟨nb, 2, none⟩ = some (.int .i64 fm) := kn.cell 2
  have n3 : W8.cell? ⟨nb, 3, none⟩ = some (.string no) := kn.cell 3
  clear b7 hb8 kn HPA
  go_wp2_with fail
  try rw [hW8]
  try rw [hnb]
  refine wp_region_held_drew (S := (fun w' => ∃ N' σ' O', LC w0 w' C N' σ' (.blk nb 32 (kC (db, ro, fm, no)) :: O'))) (by kernel_rfl) ?_ (fun hS => ?_)
  · exact ⟨_, _, _, H.out.below (Below.refl _ _).drew⟩
  refine tkY 0 ?_ rfl hS ?_ ?_
  rotate_left
  · intro wz hz
    obtain ⟨N9, σ9, O9, hz⟩ := hz
    obtain ⟨z0, z1, z2, z3, z4⟩ := hz.cells
    have y := hz.blk (List.mem_cons_self ..)
    have q0 : wz.cell? ⟨nb, 0, none⟩ = some (.string db) := y.cell 0
    have q1 : wz.cell? ⟨nb, 1, none⟩ = some (.string ro) := y.cell 1
    have q2 : wz.cell? ⟨nb, 2, none⟩ = some (.int .i64 fm) := y.cell 2
    have q3 : wz.cell? ⟨nb, 3, none⟩ = some (.string no) := y.cell 3
    go_simp
    all_goals first | with_reducible rfl | omega
  try simp only [Act.put, pu]
  refine tkY 1 ?_ rfl hS ?_ ?_
  rotate_left
  · intro wz hz
    obtain ⟨N9, σ9, O9, hz⟩ := hz
    obtain ⟨z0, z1, z2, z3, z4⟩ := hz.cells
    have y := hz.blk (List.mem_cons_self ..)
    have q0 : wz.cell? ⟨nb, 0, none⟩ = some (.string db) := y.cell 0
    have q1 : wz.cell? ⟨nb, 1, none⟩ = some (.string ro) := y.cell 1
    have q2 : wz.cell? ⟨nb, 2, none⟩ = some (.int .i64 fm) := y.cell 2
    have q3 : wz.cell? ⟨nb, 3, none⟩ = some (.string no) := y.cell 3
    go_simp
    all_goals first | with_reducible rfl | omega
  try simp only [Act.put, pu]
  refine tkY 2 ?_ rfl hS ?_ ?_
  rotate_left
  · intro wz hz
    obtain ⟨N9, σ9, O9, hz⟩ := hz
    obtain ⟨z0, z1, z2, z3, z4⟩ := hz.cells
    have y := hz.blk (List.mem_cons_self ..)
    have q0 : wz.cell? ⟨nb, 0, none⟩ = some (.string db) := y.cell 0
    have q1 : wz.cell? ⟨nb, 1, none⟩ = some (.string ro) := y.cell 1
    have q2 : wz.cell? ⟨nb, 2, none⟩ = some (.int .i64 fm) := y.cell 2
    have q3 : wz.cell? ⟨nb, 3, none⟩ = some (.string no) := y.cell 3
    go_simp
    all_goals first | with_reducible rfl | omega
  try simp only [Act.put, pu]
  refine tkY 3 ?_ rfl hS ?_ ?_
  rotate_left
  · intro wz hz
    obtain ⟨N9, σ9, O9, hz⟩ := hz
    obtain ⟨z0, z1, z2, z3, z4⟩ := hz.cells
    have y := hz.blk (List.mem_cons_self ..)
    have q0 : wz.cell? ⟨nb, 0, none⟩ = some (.string db) := y.cell 0
    have q1 : wz.cell? ⟨nb, 1, none⟩ = some (.string ro) := y.cell 1
    have q2 : wz.cell? ⟨nb, 2, none⟩ = some (.int .i64 fm) := y.cell 2
    have q3 : wz.cell? ⟨nb, 3, none⟩ = some (.string no) := y.cell 3
    go_simp
    all_goals first | with_reducible rfl | omega
  try simp only [Act.put, pu]
  refine tkY 4 ?_ rfl hS ?_ ?_
  rotate_left
  · intro wz hz
    obtain ⟨N9, σ9, O9, hz⟩ := hz
    obtain ⟨z0, z1, z2, z3, z4⟩ := hz.cells
    have y := hz.blk (List.mem_cons_self ..)
    have q0 : wz.cell? ⟨nb, 0, none⟩ = some (.string db) := y.cell 0
    have q1 : wz.cell? ⟨nb, 1, none⟩ = some (.string ro) := y.cell 1
    have q2 : wz.cell? ⟨nb, 2, none⟩ = some (.int .i64 fm) := y.cell 2
    have q3 : wz.cell? ⟨nb, 3, none⟩ = some (.string no) := y.cell 3
    go_simp
    all_goals first | with_reducible rfl | omega
  try simp only [Act.put, pu]
  refine tkY 5 ?_ rfl hS ?_ ?_
  rotate_left
  · intro wz hz
    obtain ⟨N9, σ9, O9, hz⟩ := hz
    obtain ⟨z0, z1, z2, z3, z4⟩ := hz.cells
    have y := hz.blk (List.mem_cons_self ..)
    have q0 : wz.cell? ⟨nb, 0, none⟩ = some (.string db) := y.cell 0
    have q1 : wz.cell? ⟨nb, 1, none⟩ = some (.string ro) := y.cell 1
    have q2 : wz.cell? ⟨nb, 2, none⟩ = some (.int .i64 fm) := y.cell 2
    have q3 : wz.cell? ⟨nb, 3, none⟩ = some (.string no) := y.cell 3
    go_simp
    all_goals first | with_reducible rfl | omega
  try simp only [Act.put, pu]
  refine tkY 6 ?_ rfl hS ?_ ?_
  rotate_left
  · intro wz hz
    obtain ⟨N9, σ9, O9, hz⟩ := hz
    obtain ⟨z0, z1, z2, z3, z4⟩ := hz.cells
    have y := hz.blk (List.mem_cons_self ..)
    have q0 : wz.cell? ⟨nb, 0, none⟩ = some (.string db) := y.cell 0
    have q1 : wz.cell? ⟨nb, 1, none⟩ = some (.string ro) := y.cell 1
    have q2 : wz.cell? ⟨nb, 2, none⟩ = some (.int .i64 fm) := y.cell 2
    have q3 : wz.cell? ⟨nb, 3, none⟩ = some (.string no) := y.cell 3
    go_simp
    all_goals first | with_reducible rfl | omega
  try simp only [Act.put, pu]
  refine wpAnyH_ready (rs := [7]) (by kernel_rfl) (by simp) (AllReadyH.cons rfl (fun K' hK' => ?_) AllReadyH.nil)
  go_simp
  have hbd : Below W8.heap.size W8 W8.drew := (Below.refl _ _).drew
  refine (SL.clone_any v W8.drew HVS.out).mono ?_
  rintro e w9 ⟨rfl, b9⟩
  have H := Lib.hid (H.out.below (hbd.trans (b9.mono hbd.size)))
  clear b9 hbd
  refine hK'.out _ _ ?_ (fun hSn => ?_)
  · exact ⟨_, _, _, H.out⟩
  clear hK' K' hS
  have hS := hSn
  clear hSn
  try simp only [Act.put, pu]
  refine tkY 8 ?_ rfl hS ?_ ?_
  rotate_left
  · intro wz hz
    go_simp
    all_goals first | with_reducible rfl | omega
  try simp only [Act.put, pu]
  obtain ⟨w10, hrun, h10⟩ := HMD.out _ _ _ _ (by have := HN.out; omega) H.out
  have H := Lib.hid h10
  clear h10
  refine wpAnyH_ready (rs := [9]) (by kernel_rfl) (by simp) (AllReadyH.cons rfl (fun K' hK' => ?_) AllReadyH.nil)
  go_simp
  refine hK'.out _ _ ?_ (fun hSn => ?_)
  · exact ⟨_, _, _, H.out⟩
  clear hK' K' hS
  have hS := hSn
  clear hSn
  try simp only [Act.put, pu]
  refine wpAnyH_done (by kernel_rfl) ?_ _
  clear hS
  clear hrun n0 n1 n2 n3 c0 c1 c2 c3 c4
  go_wp2
  go_ret2
  have hl9 : G.length = M.length := by rw [← HM9.out, List.length_map]
  refine ⟨ka, kc, by first | rfl | (rw [hl9]; rfl) | (rw [HM9.out]; rfl), ?_⟩
  rw [HM9.out]
  try rw [hl9]
  have hh := H.out
  try simp only at hh
  rw [HSD.out] at hh
  refine hh.forget fun p hp => ?_
  rcases List.mem_cons.1 hp with rfl | hp
  · exact List.mem_cons_of_mem _ (List.mem_cons_self ..)
  · exact List.mem_cons_of_mem _ (List.mem_cons_of_mem _ (List.mem_cons_of_mem _ (List.mem_cons_of_mem _ hp)))
end
end Go.Proofs.YtjngangojgjceaaGreat.CA
