/- The document's Ask: who joins; Ask as a whole; the document's board in a law. Conditions: how many. -/
import Derived.Test.YtldpamlmnganmaaFph
namespace Go.Proofs.Ytldpamlmnganmaa.FL
open Go.ChangeShapes Go.WideShapes Go.ChangeAt Go.RowKit Go.Maps Go.ChangeMaps
open Go.Proofs.Ytldpamlmnganmaa.SL
set_option maxRecDepth 100000
set_option linter.unusedVariables false
set_option linter.unusedSimpArgs false

set_option maxHeartbeats 16000000 in
theorem rask_join {B r : Nat} {w : World} {S : List Fl} {X : List Xr} {v : Value} (h : RT B w r X v) (hp : pl X = S) (hs : Sm S) (k : Ky) (c : Int) (hc : ¬ c < 0) (hno : pos (hasC c) S = none) (i : Nat) (hpo : pos (isK k) S = some i) :
    Calls Try.prog 11 #[ptr r, kyV k, .int .i64 c] w (AkP B r (joinS S k c, false, 0) w) := by
  obtain ⟨W0, hW0⟩ : ∃ W, w.alloc (.cells (kC k) 38) = W := ⟨_, rfl⟩
  obtain ⟨kb, hkb⟩ : ∃ b, w.heap.size = b := ⟨_, rfl⟩
  have b0 : Below w.heap.size w W0 := by rw [← hW0]; exact (Below.refl _ _).alloc (Nat.le_refl _) _
  have kk : Bk W0 kb 38 (kC k) := by rw [← hW0, ← hkb]; exact Bk.new _ _ _
  have HB0 := Lib.hid b0
  have hB : B ≤ w.heap.size := Nat.le_trans h.bg (Nat.le_of_lt h.bk.lt)
  have HBB := Lib.hid hB
  have HOF := Lib.hid (rof_any (h.below b0) (hs.x hp).1 c (hs.x hp).2)
  rw [hp] at HOF
  rw [hno] at HOF
  have HOG : Hid (Calls Try.prog 28 #[ptr r, .int .i64 c] W0 fun e w' => e = .returned (.int .i64 (-1)) ∧ W0 = w') := HOF
  clear HOF
  have HFI := Lib.hid (rfind_any (h.below b0) (hs.x hp).1 k)
  rw [hp, hpo] at HFI
  have HFJ : Hid (Calls Try.prog 29 #[ptr r, kyV k] W0 (RdP (.int .i64 (i : Int)) W0)) := HFI
  clear HFI
  obtain ⟨l, hSi, hf⟩ := findF_pos hpo
  obtain ⟨u, hxi⟩ := RT.pick (X := X) (by rw [hp]; exact hSi)
  simp only at hxi
  obtain ⟨n, hn⟩ : ∃ n, X.length = n := ⟨_, rfl⟩
  have hin : i < n := by rw [← hn]; exact (List.getElem?_eq_some_iff.1 hxi).1
  have hn5 : n ≤ 100000 := by rw [← hn]; exact (hs.x hp).1
  have l0 : (0 : Int) ≤ (i : Int) := by omega
  have l1 : (i : Int) < (n : Int) := by omega
  have l2 : ¬ ((i : Int) < 0) := by omega
  have H := Lib.hid h
  have HP := Lib.hid hp
  have HXI := Lib.hid hxi
  have HN := Lib.hid hn
  have HLS : Hid (l.length ≤ 1000000) := Lib.hid ((hs.x hp).2 _ (List.mem_of_getElem? hxi))
  have HJ : Hid (S.set i (k, l ++ [c]) = joinS S k c) := Lib.hid (by rw [join_at hs.wf.keys hSi])
  obtain ⟨db, ro, fm, no⟩ := k
  have a0 : W0.cell? ⟨kb, 0, none⟩ = some (.string db) := kk.cell 0
  have a1 : W0.cell? ⟨kb, 1, none⟩ = some (.string ro) := kk.cell 1
  have a2 : W0.cell? ⟨kb, 2, none⟩ = some (.int .i64 fm) := kk.cell 2
  have a3 : W0.cell? ⟨kb, 3, none⟩ = some (.string no) := kk.cell 3
  clear h hp hs kk b0 hB hno hpo hSi hf hxi hn
  go_enter Try.func11, Try.ntmps11
  go_wp2_with fail
  try rw [hW0]
  try rw [hkb]
  refine HOG.out.mono ?_
  rintro e w2 ⟨rfl, rfl⟩
  go_wp2_with fail
  refine HFJ.out.mono ?_
  rintro e w2 ⟨rfl, hb2⟩
  have HB2 := Lib.hid (HB0.out.trans (hb2.mono HB0.out.size))
  have y0 := (hb2.cell (p := ⟨kb, 0, none⟩) (World.block_lt_of_cell? _ _ a0)).trans a0
  have y1 := (hb2.cell (p := ⟨kb, 1, none⟩) (World.block_lt_of_cell? _ _ a1)).trans a1
  have y2 := (hb2.cell (p := ⟨kb, 2, none⟩) (World.block_lt_of_cell? _ _ a2)).trans a2
  have y3 := (hb2.cell (p := ⟨kb, 3, none⟩) (World.block_lt_of_cell? _ _ a3)).trans a3
  have hr2 := H.out.below HB2.out
  clear hb2 a0 a1 a2 a3
  have HR := Lib.hid hr2
  have h := H.out
  have hxi := HXI.out
  have hn := HN.out
  have hr9 := (h.below HB2.out)
  obtain ⟨g, cap, hv, hx⟩ := hr9.at_ hxi
  have hn9 : X.length = n := hn
  rw [hn9] at hv
  subst hv
  obtain ⟨hoi, hne⟩ := hr9.list hxi
  obtain ⟨lb, lc, hlv, hlc, hcl⟩ := OI.inv hoi hne
  simp only at hlv hlc hcl
  subst hlv
  have c0 : w2.cell? ⟨r, 0, none⟩ = some (.slice (some ⟨g, 0, none⟩) n cap) := by exact hr9.bk.cell 0
  have x0 : w2.cell? ⟨g, i * 5, none⟩ = some (.string db) := hx 0 _ rfl
  have x1 : w2.cell? ⟨g, i * 5 + 1, none⟩ = some (.string ro) := hx 1 _ rfl
  have x2 : w2.cell? ⟨g, i * 5 + 2, none⟩ = some (.int .i64 fm) := hx 2 _ rfl
  have x3 : w2.cell? ⟨g, i * 5 + 3, none⟩ = some (.string no) := hx 3 _ rfl
  have x4 : w2.cell? ⟨g, i * 5 + 4, none⟩ = some (.slice (some ⟨lb, 0, none⟩) l.length lc) := hx 4 _ rfl
  obtain ⟨ln, hln⟩ : ∃ n, l.length = n := ⟨_, rfl⟩
  rw [hln] at x4 hlc
  have HLN := Lib.hid hln
  clear h hxi hn hr2 hr9 hx hn9 hoi hne hcl x0 x1 x2 x3 y0 y1 y2 y3 hln hlc x4
  go_wp2_with fail
  refine wp_region_held_drew (S := (fun w' => w'.cell? ⟨r, 0, none⟩ = some (.slice (some ⟨g, 0, none⟩) n cap))) (by kernel_rfl) ?_ (fun hS => ?_)
  · exact c0
  have HR := Lib.hid (HR.out.below (Below.refl w2.heap.size w2).drew)
  have HBX := Lib.hid (HB2.out.trans ((Below.refl w2.heap.size w2).drew.mono HB2.out.size))
  obtain ⟨V, hV⟩ : ∃ V, w2.drew = V := ⟨_, rfl⟩
  rw [hV] at hS HR HBX ⊢
  clear hV
  obtain ⟨iI, hiI, hzI, hsI, hbI⟩ := iInt
  refine tkY 0 ?_ rfl hS ?_ ?_
  rotate_left
  · intro wz hz
    go_simp
    all_goals first | with_reducible rfl | omega
  try simp only [Act.put, pu]
  refine tkY 1 ?_ rfl hS ?_ ?_
  rotate_left
  · intro wz hz
    go_simp
    all_goals first | with_reducible rfl | omega
  try simp only [Act.put, pu]
  refine tkY 2 ?_ rfl hS ?_ ?_
  rotate_left
  · intro wz hz
    go_simp
    all_goals first | with_reducible rfl | omega
  try simp only [Act.put, pu]
  refine tkY 3 ?_ rfl hS ?_ ?_
  rotate_left
  · intro wz hz
    go_simp
    all_goals first | with_reducible rfl | omega
  try simp only [Act.put, pu]
  refine tkY 4 ?_ rfl hS ?_ ?_
  rotate_left
  · intro wz hz
    go_simp
    all_goals first | with_reducible rfl | omega
  try simp only [Act.put, pu]
  refine tkY 5 ?_ rfl hS ?_ ?_
  rotate_left
  · intro wz hz
    go_simp
    all_goals first | with_reducible rfl | omega
  try simp only [Act.put, pu]
  refine tkY 6 ?_ rfl hS ?_ ?_
  rotate_left
  · intro wz hz
    go_simp
    all_goals first | with_reducible rfl | omega
  try simp only [Act.put, pu]
  refine tkY 7 ?_ rfl hS ?_ ?_
  rotate_left
  · intro wz hz
    go_simp
    all_goals first | with_reducible rfl | omega
  try simp only [Act.put, pu]
  refine tkY 8 ?_ rfl hS ?_ ?_
  rotate_left
  · intro wz hz
    go_simp
    all_goals first | with_reducible rfl | omega
  try simp only [Act.put, pu]
  refine tkY 9 ?_ rfl hS ?_ ?_
  rotate_left
  · intro wz hz
    go_simp
    all_goals first | with_reducible rfl | omega
  try simp only [Act.put, pu]
  refine tkY 10 ?_ rfl hS ?_ ?_
  rotate_left
  · intro wz hz
    go_simp
    all_goals first | with_reducible rfl | omega
  try simp only [Act.put, pu]
  refine tkY 11 ?_ rfl hS ?_ ?_
  rotate_left
  · intro wz hz
    go_simp
    all_goals first | with_reducible rfl | omega
  try simp only [Act.put, pu]
  refine tkY 13 ?_ rfl hS ?_ ?_
  rotate_left
  · intro wz hz
    go_simp
    all_goals first | with_reducible rfl | omega
  try simp only [Act.put, pu]
  refine wpAnyH_ready (rs := [12, 14]) (by kernel_rfl) (by simp) (AllReadyH.cons rfl (fun K' hK' => ?_) (AllReadyH.cons rfl (fun K' hK' => ?_) AllReadyH.nil))
  · skip
    have hx9 : V.cell? ⟨g, i * 5 + 4, none⟩ = some (.slice (some ⟨lb, 0, none⟩) ln lc) := by
      obtain ⟨g9, cap9, hv9, hx⟩ := HR.out.at_ HXI.out
      injection hv9 with e1 _ _
      injection e1 with e1
      injection e1 with e1 _ _
      subst e1
      have := hx 4 _ rfl
      rw [HLN.out] at this
      exact this
    go_simp
    clear hx9
    refine hK'.out _ _ ?_ (fun hSn => ?_)
    · exact hS
    clear hK' K' hS
    have hS := hSn
    clear hSn
    try simp only [Act.put, pu]
    refine wpAnyH_ready (rs := [14]) (by kernel_rfl) (by simp) (AllReadyH.cons rfl (fun K' hK' => ?_) AllReadyH.nil)
    go_simp
    obtain ⟨V1, hW⟩ : ∃ W, V.alloc (.cells #[nV c] 3) = W := ⟨_, rfl⟩
    obtain ⟨ib, hib⟩ : ∃ b, V.heap.size = b := ⟨_, rfl⟩
    have HIB := Lib.hid (show Bk V1 ib 3 #[nV c] by rw [← hW, ← hib]; exact Bk.new _ _ _)
    have hbz : Below V.heap.size V V1 := by rw [← hW]; exact (Below.refl _ _).alloc (Nat.le_refl _) _
    have HR := Lib.hid (HR.out.below hbz)
    have HBX := Lib.hid (HBX.out.trans (hbz.mono HBX.out.size))
    have hS2 : (fun w' => w'.cell? ⟨r, 0, none⟩ = some (.slice (some ⟨g, 0, none⟩) n cap)) V1 := HR.out.bk.cell 0 |>.trans (by first | rfl | (rw [HN.out]; rfl))
    try rw [hW]
    try rw [hib]
    clear hW hib hbz
    refine hK'.out _ _ ?_ (fun hSn => ?_)
    · exact hS2
    clear hK' K' hS
    have hS := hSn
    clear hSn
    try simp only [Act.put, pu]
    clear hS2
    refine wpAnyH_ready (rs := [15]) (by kernel_rfl) (by simp) (AllReadyH.cons rfl (fun K' hK' => ?_) AllReadyH.nil)
    obtain ⟨hoi, hne⟩ := HR.out.list HXI.out
    simp only at hoi hne
    rw [HLN.out] at hoi
    have hown9 : V1.ownsRow B 3 1 (.slice (some ⟨lb, 0, none⟩) ln lc) ln (l.map nV) := by have := hoi; unfold OI at this; rw [HLN.out] at this; exact this
    have HOI := Lib.hid hoi
    have HNE := Lib.hid hne
    refine step_append_lies _ rfl _ _ 40 rfl B 3 iI (nV 0) 1 8 Try.underlying40 hiI hzI hsI hbI rfl (by decide) (.slice (some ⟨lb, 0, none⟩) ln lc) ln (l.map nV) rfl hown9 ⟨ib, 0, none⟩ 1 1 [nV c] rfl rfl ?_ ?_ (by decide) ?_ ?_ ?_ _ rfl ?_
    · exact sl_oneI HIB.out
    · exact (by intro u hu; simp at hu; subst hu; rfl)
    · have := HLS.out; have := HLN.out; unfold maxLen; omega
    · have := HLS.out; have := HLN.out; omega
    · exact Nat.le_trans HBB.out HBX.out.size
    intro g6 cap6 w6 hown6 hgr6 hat6 hlt6
    clear hoi hne hown9
    have ho6 : OI B w6 (.slice (some ⟨g6, 0, none⟩) (ln + 1) cap6) (l ++ [c]) := by
      unfold OI
      rw [List.length_append, HLN.out, List.map_append]
      exact hown6
    have hin9 : ∀ b, b < V1.heap.size → (.slice (some ⟨lb, 0, none⟩) ln lc : Value).ownBlock ≠ some b → w6.heap[b]? = V1.heap[b]? := fun b hb hn => hgr6.block b hb (fun e => hn e.symm)
    obtain ⟨ci, fi, hci⟩ := own_ty HOI.out (b := lb) rfl
    have hrg : ∀ {b : Nat} {cs : Array Value} {t : TypeId} {f : Nat × Nat}, V1.heap[b]? = some (.cells cs t f) → t ≠ 3 → w6.heap[b]? = V1.heap[b]? := fun {b} {cs} {t} {f} hb ht => hin9 b (Array.getElem?_eq_some_iff.1 hb).1 (fun e => by
      injection e with e
      exact ty_ne hb hci ht e.symm)
    have hown5 := HR.out.own
    obtain ⟨cg, fg, hcg⟩ := own_ty hown5 (b := g) rfl
    have hbk6 := (HR.out.bk.heap (hrg (FL.Bk.hp HR.out.bk) (by decide)))
    have hown7 := keepRow hown5 (w' := w6) fun q hq => by
      obtain ⟨c2, f2, h2⟩ := own_ty hown5 hq
      exact hrg h2 (by decide)
    have hit6 : ∀ (j : Nat) y, j ≠ i → X[j]? = some y → OI B w6 y.2.1 y.2.2 ∧ y.2.2 ≠ [] := fun j y hj hy => by
      have h9 := HR.out.list hy
      refine ⟨OI.keep h9.1 fun q hq => hin9 q (World.ownsRow.lt h9.1 q hq).2 (fun e => ?_), h9.2⟩
      have := ap_other HR.out.ap HXI.out hy hj
      rw [hq] at this
      simp only at this
      exact this (by have e9 : some lb = some q := e; rw [← e9]; rfl)
    have hap6 : ∀ (j : Nat) y, j ≠ i → X[j]? = some y → y.2.1.ownBlock ≠ (Value.slice (some ⟨g6, 0, none⟩) (ln + 1) cap6).ownBlock := fun j y hj hy e => by
      have e2 : y.2.1.ownBlock = some g6 := e
      rcases hat6 with h6 | h6
      · have := ap_other HR.out.ap HXI.out hy hj
        rw [e2] at this
        simp only at this
        exact this (by have e9 : some lb = some g6 := h6; rw [← e9]; rfl)
      · have := (World.ownsRow.lt (HR.out.list hy).1 g6 e2).2
        omega
    have hset := RT.setRow (i := i) (by first | exact hbk6 | (have := hbk6; rw [HN.out] at this; exact this)) HN.out (by first | exact hown7 | (have := hown7; rw [HN.out] at this; exact this)) hit6 HXI.out ho6 (by simp) hap6 HR.out.ap HR.out.bg
    have hrs : RS B r (joinS S (db, ro, fm, no) c) w (w6.setCell ⟨g, i * 5 + 4, none⟩ (.slice (some ⟨g6, 0, none⟩) (ln + 1) cap6)) := by
      have hxo : ∀ b, (.slice (some ⟨lb, 0, none⟩) ln lc : Value).ownBlock = some b → Xown r X (.slice (some ⟨g, 0, none⟩) n cap) b := fun b hb => .inr (.inr ⟨_, List.mem_of_getElem? HXI.out, by rw [← hb]; rfl⟩)
      have hch : Chg (Xown r X (.slice (some ⟨g, 0, none⟩) n cap)) w (w6.setCell ⟨g, i * 5 + 4, none⟩ (.slice (some ⟨g6, 0, none⟩) (ln + 1) cap6)) := ((Chg.of_below HBX.out).grown hgr6 (fun q hq _ => hxo q hq)).setCell (p := ⟨g, i * 5 + 4, none⟩) (.inr (.inl rfl)) _
      refine ⟨⟨_, _, hset, ?_⟩, H.out.chg_below HBB.out hch, H.out.chg_kr hch⟩
      rw [pl_set, HP.out]
      exact HJ.out
    have HRS := Lib.hid hrs
    have d0 : w6.cell? ⟨r, 0, none⟩ = some (.slice (some ⟨g, 0, none⟩) n cap) := (hbk6.cell 0).trans (by first | rfl | (rw [HN.out]; rfl))
    have d4 : w6.cell? ⟨g, i * 5 + 4, none⟩ = some (.slice (some ⟨lb, 0, none⟩) ln lc) := by
      obtain ⟨g9, cap9, hv9, hx⟩ := HR.out.at_ HXI.out
      injection hv9 with e1 _ _
      injection e1 with e1
      injection e1 with e1 _ _
      subst e1
      have := hx 4 _ rfl
      rw [HLN.out] at this
      exact (World.cell?_of_block (w := V1) (a := ⟨g, i * 5 + 4, none⟩) (hrg hcg (by decide))).trans this
    have f4 : w6.frozen? ⟨g, i * 5 + 4, none⟩ = false := World.ownsRow.frozenAt (show w6.ownsRow B 76 5 (.slice (some ⟨g, 0, none⟩) n cap) n (rCs X) by rw [HN.out] at hown7; exact hown7) _
    have hrg9 : r ≠ g := ty_ne (FL.Bk.hp HR.out.bk) hcg (by decide)
    have HRG := Lib.hid hrg9
    clear hset hrs ho6 hown6 hgr6 hat6 hlt6 hin9 hci hrg hown5 hcg hbk6 hown7 hit6 hap6 hrg9
    refine hK'.out _ _ ?_ (fun hSn => ?_)
    · exact d0
    clear hK' K' hS
    have hS := hSn
    clear hSn
    try simp only [Act.put, pu]
    refine tkY 16 ?_ rfl hS ?_ ?_
    rotate_left
    · intro wz hz
      go_simp
      all_goals first | with_reducible rfl | omega
    try simp only [Act.put, pu]
    refine tkY 17 ?_ rfl hS ?_ ?_
    rotate_left
    · intro wz hz
      go_simp
      all_goals first | with_reducible rfl | omega
    try simp only [Act.put, pu]
    refine wpAnyH_ready (rs := [18]) (by kernel_rfl) (by simp) (AllReadyH.cons rfl (fun K' hK' => ?_) AllReadyH.nil)
    go_simp
    have hS2 : (fun w' => w'.cell? ⟨r, 0, none⟩ = some (.slice (some ⟨g, 0, none⟩) n cap)) (w6.setCell ⟨g, i * 5 + 4, none⟩ (.slice (some ⟨g6, 0, none⟩) (ln + 1) cap6)) := (World.cell?_setCell_far _ _ _ _ HRG.out.symm).trans d0
    refine hK'.out _ _ ?_ (fun hSn => ?_)
    · exact hS2
    clear hK' K' hS
    have hS := hSn
    clear hSn
    try simp only [Act.put, pu]
    refine wpAnyH_done (by kernel_rfl) ?_ _
    clear hS
    go_wp2
    go_ret2
    exact ⟨rfl, HRS.out⟩
  · skip
    go_simp
    obtain ⟨V2, hW⟩ : ∃ W, V.alloc (.cells #[nV c] 3) = W := ⟨_, rfl⟩
    obtain ⟨ib, hib⟩ : ∃ b, V.heap.size = b := ⟨_, rfl⟩
    have HIB := Lib.hid (show Bk V2 ib 3 #[nV c] by rw [← hW, ← hib]; exact Bk.new _ _ _)
    have hbz : Below V.heap.size V V2 := by rw [← hW]; exact (Below.refl _ _).alloc (Nat.le_refl _) _
    have HR := Lib.hid (HR.out.below hbz)
    have HBX := Lib.hid (HBX.out.trans (hbz.mono HBX.out.size))
    have hS2 : (fun w' => w'.cell? ⟨r, 0, none⟩ = some (.slice (some ⟨g, 0, none⟩) n cap)) V2 := HR.out.bk.cell 0 |>.trans (by first | rfl | (rw [HN.out]; rfl))
    try rw [hW]
    try rw [hib]
    clear hW hib hbz
    refine hK'.out _ _ ?_ (fun hSn => ?_)
    · exact hS2
    clear hK' K' hS
    have hS := hSn
    clear hSn
    try simp only [Act.put, pu]
    clear hS2
    refine wpAnyH_ready (rs := [12]) (by kernel_rfl) (by simp) (AllReadyH.cons rfl (fun K' hK' => ?_) AllReadyH.nil)
    have hx9 : V2.cell? ⟨g, i * 5 + 4, none⟩ = some (.slice (some ⟨lb, 0, none⟩) ln lc) := by
      obtain ⟨g9, cap9, hv9, hx⟩ := HR.out.at_ HXI.out
      injection hv9 with e1 _ _
      injection e1 with e1
      injection e1 with e1 _ _
      subst e1
      have := hx 4 _ rfl
      rw [HLN.out] at this
      exact this
    go_simp
    clear hx9
    refine hK'.out _ _ ?_ (fun hSn => ?_)
    · exact hS
    clear hK' K' hS
    have hS := hSn
    clear hSn
    try simp only [Act.put, pu]
    refine wpAnyH_ready (rs := [15]) (by kernel_rfl) (by simp) (AllReadyH.cons rfl (fun K' hK' => ?_) AllReadyH.nil)
    obtain ⟨hoi, hne⟩ := HR.out.list HXI.out
    simp only at hoi hne
    rw [HLN.out] at hoi
    have hown9 : V2.ownsRow B 3 1 (.slice (some ⟨lb, 0, none⟩) ln lc) ln (l.map nV) := by have := hoi; unfold OI at this; rw [HLN.out] at this; exact this
    have HOI := Lib.hid hoi
    have HNE := Lib.hid hne
    refine step_append_lies _ rfl _ _ 40 rfl B 3 iI (nV 0) 1 8 Try.underlying40 hiI hzI hsI hbI rfl (by decide) (.slice (some ⟨lb, 0, none⟩) ln lc) ln (l.map nV) rfl hown9 ⟨ib, 0, none⟩ 1 1 [nV c] rfl rfl ?_ ?_ (by decide) ?_ ?_ ?_ _ rfl ?_
    · exact sl_oneI HIB.out
    · exact (by intro u hu; simp at hu; subst hu; rfl)
    · have := HLS.out; have := HLN.out; unfold maxLen; omega
    · have := HLS.out; have := HLN.out; omega
    · exact Nat.le_trans HBB.out HBX.out.size
    intro g6 cap6 w6 hown6 hgr6 hat6 hlt6
    clear hoi hne hown9
    have ho6 : OI B w6 (.slice (some ⟨g6, 0, none⟩) (ln + 1) cap6) (l ++ [c]) := by
      unfold OI
      rw [List.length_append, HLN.out, List.map_append]
      exact hown6
    have hin9 : ∀ b, b < V2.heap.size → (.slice (some ⟨lb, 0, none⟩) ln lc : Value).ownBlock ≠ some b → w6.heap[b]? = V2.heap[b]? := fun b hb hn => hgr6.block b hb (fun e => hn e.symm)
    obtain ⟨ci, fi, hci⟩ := own_ty HOI.out (b := lb) rfl
    have hrg : ∀ {b : Nat} {cs : Array Value} {t : TypeId} {f : Nat × Nat}, V2.heap[b]? = some (.cells cs t f) → t ≠ 3 → w6.heap[b]? = V2.heap[b]? := fun {b} {cs} {t} {f} hb ht => hin9 b (Array.getElem?_eq_some_iff.1 hb).1 (fun e => by
      injection e with e
      exact ty_ne hb hci ht e.symm)
    have hown5 := HR.out.own
    obtain ⟨cg, fg, hcg⟩ := own_ty hown5 (b := g) rfl
    have hbk6 := (HR.out.bk.heap (hrg (FL.Bk.hp HR.out.bk) (by decide)))
    have hown7 := keepRow hown5 (w' := w6) fun q hq => by
      obtain ⟨c2, f2, h2⟩ := own_ty hown5 hq
      exact hrg h2 (by decide)
    have hit6 : ∀ (j : Nat) y, j ≠ i → X[j]? = some y → OI B w6 y.2.1 y.2.2 ∧ y.2.2 ≠ [] := fun j y hj hy => by
      have h9 := HR.out.list hy
      refine ⟨OI.keep h9.1 fun q hq => hin9 q (World.ownsRow.lt h9.1 q hq).2 (fun e => ?_), h9.2⟩
      have := ap_other HR.out.ap HXI.out hy hj
      rw [hq] at this
      simp only at this
      exact this (by have e9 : some lb = some q := e; rw [← e9]; rfl)
    have hap6 : ∀ (j : Nat) y, j ≠ i → X[j]? = some y → y.2.1.ownBlock ≠ (Value.slice (some ⟨g6, 0, none⟩) (ln + 1) cap6).ownBlock := fun j y hj hy e => by
      have e2 : y.2.1.ownBlock = some g6 := e
      rcases hat6 with h6 | h6
      · have := ap_other HR.out.ap HXI.out hy hj
        rw [e2] at this
        simp only at this
        exact this (by have e9 : some lb = some g6 := h6; rw [← e9]; rfl)
      · have := (World.ownsRow.lt (HR.out.list hy).1 g6 e2).2
        omega
    have hset := RT.setRow (i := i) (by first | exact hbk6 | (have := hbk6; rw [HN.out] at this; exact this)) HN.out (by first | exact hown7 | (have := hown7; rw [HN.out] at this; exact this)) hit6 HXI.out ho6 (by simp) hap6 HR.out.ap HR.out.bg
    have hrs : RS B r (joinS S (db, ro, fm, no) c) w (w6.setCell ⟨g, i * 5 + 4, none⟩ (.slice (some ⟨g6, 0, none⟩) (ln + 1) cap6)) := by
      have hxo : ∀ b, (.slice (some ⟨lb, 0, none⟩) ln lc : Value).ownBlock = some b → Xown r X (.slice (some ⟨g, 0, none⟩) n cap) b := fun b hb => .inr (.inr ⟨_, List.mem_of_getElem? HXI.out, by rw [← hb]; rfl⟩)
      have hch : Chg (Xown r X (.slice (some ⟨g, 0, none⟩) n cap)) w (w6.setCell ⟨g, i * 5 + 4, none⟩ (.slice (some ⟨g6, 0, none⟩) (ln + 1) cap6)) := ((Chg.of_below HBX.out).grown hgr6 (fun q hq _ => hxo q hq)).setCell (p := ⟨g, i * 5 + 4, none⟩) (.inr (.inl rfl)) _
      refine ⟨⟨_, _, hset, ?_⟩, H.out.chg_below HBB.out hch, H.out.chg_kr hch⟩
      rw [pl_set, HP.out]
      exact HJ.out
    have HRS := Lib.hid hrs
    have d0 : w6.cell? ⟨r, 0, none⟩ = some (.slice (some ⟨g, 0, none⟩) n cap) := (hbk6.cell 0).trans (by first | rfl | (rw [HN.out]; rfl))
    have d4 : w6.cell? ⟨g, i * 5 + 4, none⟩ = some (.slice (some ⟨lb, 0, none⟩) ln lc) := by
      obtain ⟨g9, cap9, hv9, hx⟩ := HR.out.at_ HXI.out
      injection hv9 with e1 _ _
      injection e1 with e1
      injection e1 with e1 _ _
      subst e1
      have := hx 4 _ rfl
      rw [HLN.out] at this
      exact (World.cell?_of_block (w := V2) (a := ⟨g, i * 5 + 4, none⟩) (hrg hcg (by decide))).trans this
    have f4 : w6.frozen? ⟨g, i * 5 + 4, none⟩ = false := World.ownsRow.frozenAt (show w6.ownsRow B 76 5 (.slice (some ⟨g, 0, none⟩) n cap) n (rCs X) by rw [HN.out] at hown7; exact hown7) _
    have hrg9 : r ≠ g := ty_ne (FL.Bk.hp HR.out.bk) hcg (by decide)
    have HRG := Lib.hid hrg9
    clear hset hrs ho6 hown6 hgr6 hat6 hlt6 hin9 hci hrg hown5 hcg hbk6 hown7 hit6 hap6 hrg9
    refine hK'.out _ _ ?_ (fun hSn => ?_)
    · exact d0
    clear hK' K' hS
    have hS := hSn
    clear hSn
    try simp only [Act.put, pu]
    refine tkY 16 ?_ rfl hS ?_ ?_
    rotate_left
    · intro wz hz
      go_simp
      all_goals first | with_reducible rfl | omega
    try simp only [Act.put, pu]
    refine tkY 17 ?_ rfl hS ?_ ?_
    rotate_left
    · intro wz hz
      go_simp
      all_goals first | with_reducible rfl | omega
    try simp only [Act.put, pu]
    refine wpAnyH_ready (rs := [18]) (by kernel_rfl) (by simp) (AllReadyH.cons rfl (fun K' hK' => ?_) AllReadyH.nil)
    go_simp
    have hS2 : (fun w' => w'.cell? ⟨r, 0, none⟩ = some (.slice (some ⟨g, 0, none⟩) n cap)) (w6.setCell ⟨g, i * 5 + 4, none⟩ (.slice (some ⟨g6, 0, none⟩) (ln + 1) cap6)) := (World.cell?_setCell_far _ _ _ _ HRG.out.symm).trans d0
    refine hK'.out _ _ ?_ (fun hSn => ?_)
    · exact hS2
    clear hK' K' hS
    have hS := hSn
    clear hSn
    try simp only [Act.put, pu]
    refine wpAnyH_done (by kernel_rfl) ?_ _
    clear hS
    go_wp2
    go_ret2
    exact ⟨rfl, HRS.out⟩
theorem rask_any {B r : Nat} {w : World} {S : List Fl} (h : RB B w r S) (hs : Sm S) (k : Ky) (c : Int) :
    Calls Try.prog 11 #[ptr r, kyV k, .int .i64 c] w (AkP B r (askS S k c) w) := by
  obtain ⟨X, v, h, hp⟩ := h
  unfold askS
  by_cases hc : c < 0
  · rw [if_pos hc]; exact rask_arg h hp hs k c hc
  · rw [if_neg hc]
    cases hpo : pos (hasC c) S with
    | some i =>
      obtain ⟨t, _, hf, _⟩ := ofF_pos hpo
      rw [hf]; exact rask_state h hp hs k c hc i hpo
    | none =>
      rw [ofF_npos hpo]
      cases hpk : pos (isK k) S with
      | none => rw [findF_npos hpk]; exact rask_open h hp hs k c hc hpo hpk
      | some i =>
        obtain ⟨l, _, hf⟩ := findF_pos hpk
        rw [hf]; exact rask_join h hp hs k c hc hpo i hpk
theorem rland_all {B r : Nat} {w : World} {S : List Fl} (h : RB B w r S) (hs : Sm S) (k : Ky) : Calls Try.prog 14 #[ptr r, kyV k] w (LnP B r (landS S k) w) := by
  obtain ⟨X, v, h, hp⟩ := h
  exact rland_any h hp hs k
theorem rleave_all {B r : Nat} {w : World} {S : List Fl} (h : RB B w r S) (hs : Sm S) (c : Int) : Calls Try.prog 17 #[ptr r, .int .i64 c] w (LvP B r (leaveS S c) w) := by
  obtain ⟨X, v, h, hp⟩ := h
  exact rleave_any h hp hs c
theorem rlead_all {B r : Nat} {w : World} {S : List Fl} (h : RB B w r S) (hs : Sm S) (k : Ky) : Calls Try.prog 20 #[ptr r, kyV k] w (RdP (.tuple #[.int .i64 (leadS S k).1, .bool (leadS S k).2]) w) := by
  obtain ⟨X, v, h, hp⟩ := h
  exact rlead_any h hp hs k
theorem rwaits_all {B r : Nat} {w : World} {S : List Fl} (h : RB B w r S) (hs : Sm S) (c : Int) : Calls Try.prog 22 #[ptr r, .int .i64 c] w (RdP (.tuple #[kyV (waitS S c).1, .bool (waitS S c).2]) w) := by
  obtain ⟨X, v, h, hp⟩ := h
  exact rwaits_any h hp hs c
/-- 'len(r.L)' -/
theorem RB.len {B r : Nat} {w : World} {S : List Fl} (h : RB B w r S) : ∃ a c, w.cell? ⟨r, 0, none⟩ = some (.slice a S.length c) := by
  obtain ⟨X, v, h, hp⟩ := h
  obtain ⟨a, c, e⟩ := h.form
  refine ⟨a, c, ?_⟩
  have := h.bk.cell 0
  rw [e] at this
  rw [← hp, pl_len]
  exact this
/-- how many asks there were at most -/
theorem tot_ask {S : List Fl} (hn : (S.map (·.1)).Nodup) (k : Ky) (c : Int) : tot (askS S k c).1 ≤ tot S + 1 := by
  unfold askS
  split
  · exact Nat.le_succ _
  · split
    · exact Nat.le_succ _
    · split
      · rename_i hf
        obtain ⟨l, hl⟩ := Option.isSome_iff_exists.1 hf
        exact Nat.le_of_eq (tot_join hn (findF_mem hl))
      · exact Nat.le_of_eq (by show tot (openS S k c) = _; unfold openS; rw [tot_app]; rfl)
theorem tot_filter (S : List Fl) (p : Fl → Bool) : tot (S.filter p) ≤ tot S := by
  induction S with
  | nil => exact Nat.le_refl _
  | cons t S ih =>
    have e1 : ∀ T, tot (t :: T) = t.2.length + tot T := fun T => by unfold tot; rw [List.map_cons, List.sum_cons]
    by_cases h : p t = true
    · rw [List.filter_cons_of_pos h, e1, e1]; omega
    · rw [List.filter_cons_of_neg h, e1]; omega
theorem tot_quit (S : List Fl) (k : Ky) (c : Int) : tot (quitS S k c) ≤ tot S := by
  induction S with
  | nil => exact Nat.le_refl _
  | cons t S ih =>
    have e1 : ∀ u T, tot (u :: T) = u.2.length + tot T := fun u T => by unfold tot; rw [List.map_cons, List.sum_cons]
    unfold quitS at *
    rw [List.map_cons, e1, e1]
    have : (if t.1 = k then (t.1, t.2.filter fun x => decide (x ≠ c)) else t).2.length ≤ t.2.length := by
      split
      · exact List.length_filter_le _ _
      · exact Nat.le_refl _
    omega
theorem tot_land (S : List Fl) (k : Ky) : tot (landS S k).1 ≤ tot S := by
  unfold landS
  split
  · exact Nat.le_refl _
  · exact tot_filter _ _
theorem tot_leave (S : List Fl) (c : Int) : tot (leaveS S c).1 ≤ tot S := by
  unfold leaveS
  split
  · exact Nat.le_refl _
  · split
    · exact tot_filter _ _
    · exact tot_quit _ _ _
theorem len_tot {S : List Fl} (h : ∀ t ∈ S, t.2 ≠ []) : S.length ≤ tot S := by
  induction S with
  | nil => exact Nat.le_refl _
  | cons t S ih =>
    have e1 : ∀ u T, tot (u :: T) = u.2.length + tot T := fun u T => by unfold tot; rw [List.map_cons, List.sum_cons]
    rw [e1, List.length_cons]
    have h1 := ih fun u hu => h u (List.mem_cons_of_mem _ hu)
    have h2 : 1 ≤ t.2.length := by
      cases h3 : t.2 with
      | nil => exact absurd h3 (h t List.mem_cons_self)
      | cons _ _ => simp
    omega
theorem each_tot {S : List Fl} {t : Fl} (h : t ∈ S) : t.2.length ≤ tot S := by
  induction S with
  | nil => cases h
  | cons u S ih =>
    have e1 : ∀ u T, tot (u :: T) = u.2.length + tot T := fun u T => by unfold tot; rw [List.map_cons, List.sum_cons]
    rw [e1]
    rcases List.mem_cons.1 h with rfl | h
    · omega
    · have := ih h; omega
theorem LB.sm {B a N : Nat} {w : World} {S : List Fl} (h : LB B w a N S) (ht : tot S ≤ 1000) : Sm S := by
  obtain ⟨C, h1, _⟩ := h
  refine ⟨h1.wf, fun t ht2 => ?_, Nat.le_trans (len_tot h1.wf.some_) ht, fun t h2 => Nat.le_trans (each_tot h2) ht⟩
  obtain ⟨k, l⟩ := t
  obtain ⟨r, hr, e⟩ := h1.find_r (findF_of h1.wf.keys ht2)
  have := h1.nodup hr
  rw [e] at this
  exact this
end Go.Proofs.Ytldpamlmnganmaa.FL
