/- The document's Ask. Conditions: how many. -/
import Derived.Test.YtldpamlmnganmaaFpg
namespace Go.Proofs.Ytldpamlmnganmaa.FL
open Go.ChangeShapes Go.WideShapes Go.ChangeAt Go.RowKit Go.Maps Go.ChangeMaps
open Go.Proofs.Ytldpamlmnganmaa.SL
set_option maxRecDepth 100000
set_option linter.unusedVariables false
set_option linter.unusedSimpArgs false

theorem ap_other {X : List Xr} (h : X.Pairwise fun x y => x.2.1.ownBlock ≠ y.2.1.ownBlock) {i j : Nat} {x y : Xr} (hi : X[i]? = some x) (hj : X[j]? = some y) (hne : j ≠ i) : y.2.1.ownBlock ≠ x.2.1.ownBlock := by
  obtain ⟨h1, e1⟩ := List.getElem?_eq_some_iff.1 hi
  obtain ⟨h2, e2⟩ := List.getElem?_eq_some_iff.1 hj
  rcases Nat.lt_or_gt_of_ne hne with hlt | hlt
  · have := (List.pairwise_iff_getElem.1 h) j i h2 h1 hlt
    rw [e1, e2] at this
    exact this
  · have := (List.pairwise_iff_getElem.1 h) i j h1 h2 hlt
    rw [e1, e2] at this
    exact this.symm
theorem ty_ne {w : World} {b b' : Nat} {cs cs' : Array Value} {t t' : TypeId} {f f' : Nat × Nat} (h : w.heap[b]? = some (.cells cs t f)) (h' : w.heap[b']? = some (.cells cs' t' f')) (hne : t ≠ t') : b ≠ b' := fun e => by
  subst e
  rw [h] at h'
  injection h' with h'
  injection h' with _ h' _
  exact hne h'
theorem Bk.hp {w : World} {g : Nat} {t : TypeId} {cs : Array Value} (h : Bk w g t cs) : w.heap[g]? = some (.cells cs t (0, 0)) := h
theorem OI.new (B : Nat) (w : World) (c : Int) (hB : B ≤ w.heap.size) : OI B (w.alloc (.cells #[nV c] 3)) (.slice (some ⟨w.heap.size, 0, none⟩) 1 1) [c] :=
  ⟨rfl, .inr ⟨w.heap.size, 1, #[nV c], rfl, hB, heap_alloc_new w _, Nat.le_refl _, by decide, rfl, rfl⟩⟩
/-- a row more, stored -/
theorem RT.more {B : Nat} {w w6 : World} {r g6 cap6 : Nat} {X : List Xr} {v u : Value} {k : Ky} {l : List Int} (h : RT B w r X v) (hg : w.grownBy w6 v.ownBlock) (h6 : OX B w6 (.slice (some ⟨g6, 0, none⟩) (X ++ [(k, u, l)]).length cap6) (X ++ [(k, u, l)]))
    (hu : OI B w u l) (hne : l ≠ []) (hap : ∀ x ∈ X, x.2.1.ownBlock ≠ u.ownBlock) :
    RT B (w6.setCell ⟨r, 0, none⟩ (.slice (some ⟨g6, 0, none⟩) (X ++ [(k, u, l)]).length cap6)) r (X ++ [(k, u, l)]) (.slice (some ⟨g6, 0, none⟩) (X ++ [(k, u, l)]).length cap6) := by
  have hI : ∀ {v' : Value} {d : List Int}, OI B w v' d → OI B (w6.setCell ⟨r, 0, none⟩ (.slice (some ⟨g6, 0, none⟩) (X ++ [(k, u, l)]).length cap6)) v' d := fun hh => OI.keep hh fun q hq => by
    obtain ⟨c2, f2, h2⟩ := own_ty hh hq
    refine (Below.heap_setCell _ _ _ _ (ty_ne h2 (FL.Bk.hp h.bk) (by decide))).trans (hg.block q (Array.getElem?_eq_some_iff.1 h2).1 fun e => ?_)
    obtain ⟨c3, f3, h3⟩ := own_ty h.own e.symm
    exact ty_ne h2 h3 (by decide) rfl
  have hr6 : w6.heap[r]? = w.heap[r]? := hg.block r h.bk.lt fun e => by
    obtain ⟨c3, f3, h3⟩ := own_ty h.own e.symm
    exact ty_ne (FL.Bk.hp h.bk) h3 (by decide) rfl
  refine ⟨(h.bk.heap hr6).set_ 0 _, keepRow h6 fun q hq => Below.heap_setCell _ _ _ _ ?_, fun x hx => ?_, ?_, h.bg⟩
  · obtain ⟨c2, f2, h2⟩ := own_ty h6 hq
    exact ty_ne h2 (FL.Bk.hp (h.bk.heap hr6)) (by decide)
  · rcases List.mem_append.1 hx with hx | hx
    · exact ⟨hI (h.it x hx).1, (h.it x hx).2⟩
    · obtain rfl := List.mem_singleton.1 hx
      exact ⟨hI hu, hne⟩
  · rw [List.pairwise_append]
    refine ⟨h.ap, List.pairwise_singleton _ _, fun x hx y hy => ?_⟩
    obtain rfl := List.mem_singleton.1 hy
    exact hap x hx
/-- what is told of an asking, with what is left -/
def AkP (B r : Nat) (R : List Fl × Bool × Int) (w : World) (e : Ending) (w' : World) : Prop := e = .returned (.tuple #[.bool R.2.1, .int .i64 R.2.2]) ∧ RS B r R.1 w w'
set_option maxHeartbeats 8000000 in
theorem rask_arg {B r : Nat} {w : World} {S : List Fl} {X : List Xr} {v : Value} (h : RT B w r X v) (hp : pl X = S) (hs : Sm S) (k : Ky) (c : Int) (hc : c < 0) :
    Calls Try.prog 11 #[ptr r, kyV k, .int .i64 c] w (AkP B r (S, false, 1) w) := by
  obtain ⟨W0, hW0⟩ : ∃ W, w.alloc (.cells (kC k) 38) = W := ⟨_, rfl⟩
  obtain ⟨kb, hkb⟩ : ∃ b, w.heap.size = b := ⟨_, rfl⟩
  have b0 : Below w.heap.size w W0 := by rw [← hW0]; exact (Below.refl _ _).alloc (Nat.le_refl _) _
  have kk : Bk W0 kb 38 (kC k) := by rw [← hW0, ← hkb]; exact Bk.new _ _ _
  have HB0 := Lib.hid b0
  have hB : B ≤ w.heap.size := Nat.le_trans h.bg (Nat.le_of_lt h.bk.lt)
  have HBB := Lib.hid hB
  have HSA := Lib.hid (show ∀ W, Below w.heap.size w W → RS B r S w W from fun W hb => ⟨⟨X, v, h.below hb, hp⟩, hb.mono hB, Kr.below hb⟩)
  clear h hp hs kk b0 hB
  go_enter Try.func11, Try.ntmps11
  go_wp2
  try rw [hW0]
  try rw [hkb]
  go_ret2
  exact ⟨rfl, HSA.out _ HB0.out⟩
set_option maxHeartbeats 8000000 in
theorem rask_state {B r : Nat} {w : World} {S : List Fl} {X : List Xr} {v : Value} (h : RT B w r X v) (hp : pl X = S) (hs : Sm S) (k : Ky) (c : Int) (hc : ¬ c < 0) (i : Nat) (hpo : pos (hasC c) S = some i) :
    Calls Try.prog 11 #[ptr r, kyV k, .int .i64 c] w (AkP B r (S, false, 10) w) := by
  obtain ⟨W0, hW0⟩ : ∃ W, w.alloc (.cells (kC k) 38) = W := ⟨_, rfl⟩
  obtain ⟨kb, hkb⟩ : ∃ b, w.heap.size = b := ⟨_, rfl⟩
  have b0 : Below w.heap.size w W0 := by rw [← hW0]; exact (Below.refl _ _).alloc (Nat.le_refl _) _
  have kk : Bk W0 kb 38 (kC k) := by rw [← hW0, ← hkb]; exact Bk.new _ _ _
  have HB0 := Lib.hid b0
  have hB : B ≤ w.heap.size := Nat.le_trans h.bg (Nat.le_of_lt h.bk.lt)
  have HBB := Lib.hid hB
  have HSA := Lib.hid (show ∀ W, Below w.heap.size w W → RS B r S w W from fun W hb => ⟨⟨X, v, h.below hb, hp⟩, hb.mono hB, Kr.below hb⟩)
  have HOF := Lib.hid (rof_any (h.below b0) (hs.x hp).1 c (hs.x hp).2)
  rw [hp] at HOF
  rw [hpo] at HOF
  have HOG : Hid (Calls Try.prog 28 #[ptr r, .int .i64 c] W0 fun e w' => e = .returned (.int .i64 (i : Int)) ∧ W0 = w') := HOF
  have l0 : (0 : Int) ≤ (i : Int) := by omega
  clear HOF h hp hs kk b0 hB hpo
  go_enter Try.func11, Try.ntmps11
  go_wp2_with fail
  try rw [hW0]
  try rw [hkb]
  refine HOG.out.mono ?_
  rintro e w2 ⟨rfl, rfl⟩
  go_wp2
  go_ret2
  exact ⟨rfl, HSA.out _ HB0.out⟩
set_option maxHeartbeats 16000000 in
theorem rask_open {B r : Nat} {w : World} {S : List Fl} {X : List Xr} {v : Value} (h : RT B w r X v) (hp : pl X = S) (hs : Sm S) (k : Ky) (c : Int) (hc : ¬ c < 0) (hno : pos (hasC c) S = none) (hpk : pos (isK k) S = none) :
    Calls Try.prog 11 #[ptr r, kyV k, .int .i64 c] w (AkP B r (openS S k c, true, 0) w) := by
  obtain ⟨W0, hW0⟩ : ∃ W, w.alloc (.cells (kC k) 38) = W := ⟨_, rfl⟩
  obtain ⟨kb, hkb⟩ : ∃ b, w.heap.size = b := ⟨_, rfl⟩
  have b0 : Below w.heap.size w W0 := by rw [← hW0]; exact (Below.refl _ _).alloc (Nat.le_refl _) _
  have kk : Bk W0 kb 38 (kC k) := by rw [← hW0, ← hkb]; exact Bk.new _ _ _
  have HB0 := Lib.hid b0
  have hB : B ≤ w.heap.size := Nat.le_trans h.bg (Nat.le_of_lt h.bk.lt)
  have HBB := Lib.hid hB
  have HOF := Lib.hid (rof_any (h.below b0) (hs.x hp).1 c (hs.x hp).2)
  rw [hp] at HOF
  rw [hno] at HOF
  have HOG : Hid (Calls Try.prog 28 #[ptr r, .int .i64 c] W0 fun e w' => e = .returned (.int .i64 (-1)) ∧ W0 = w') := HOF
  clear HOF
  have HFI := Lib.hid (rfind_any (h.below b0) (hs.x hp).1 k)
  rw [hp, hpk] at HFI
  have HFJ : Hid (Calls Try.prog 29 #[ptr r, kyV k] W0 (RdP (.int .i64 (-1)) W0)) := HFI
  clear HFI
  have H := Lib.hid h
  have HP := Lib.hid hp
  have HKR : Hid (kb ≠ r) := Lib.hid (by have := h.bk.lt; omega)
  have HKN : Hid (∀ {P Q : Prop}, (P ∧ Q) → v.ownBlock = some kb → False) := Lib.hid (fun _ e => by have := (World.ownsRow.lt h.own kb e).2; omega)
  have HO0 := Lib.hid h
  obtain ⟨n, hn⟩ : ∃ n, X.length = n := ⟨_, rfl⟩
  have HN : Hid (X.length = n ∧ n ≤ 100000) := Lib.hid ⟨hn, by have := (hs.x hp).1; omega⟩
  obtain ⟨db, ro, fm, no⟩ := k
  have a0 : W0.cell? ⟨kb, 0, none⟩ = some (.string db) := kk.cell 0
  have a1 : W0.cell? ⟨kb, 1, none⟩ = some (.string ro) := kk.cell 1
  have a2 : W0.cell? ⟨kb, 2, none⟩ = some (.int .i64 fm) := kk.cell 2
  have a3 : W0.cell? ⟨kb, 3, none⟩ = some (.string no) := kk.cell 3
  have HKK := Lib.hid (show Bk W0 kb 38 (kC (db, ro, fm, no)) from kk)
  clear h hp hs kk b0 hB hno hpk hn
  go_enter Try.func11, Try.ntmps11
  go_wp2_with fail
  try rw [hW0]
  try rw [hkb]
  refine HOG.out.mono ?_
  rintro e w2 ⟨rfl, rfl⟩
  go_wp2_with fail
  refine HFJ.out.mono ?_
  rintro e w2 ⟨rfl, hb2⟩
  have HB2 := Lib.hid (HB0.out.trans (hb2.mono HB0.out.size))
  have y0 := (hb2.cell (p := ⟨kb, 0, none⟩) (World.block_lt_of_cell? _ _ a0)).trans a0
  have y1 := (hb2.cell (p := ⟨kb, 1, none⟩) (World.block_lt_of_cell? _ _ a1)).trans a1
  have y2 := (hb2.cell (p := ⟨kb, 2, none⟩) (World.block_lt_of_cell? _ _ a2)).trans a2
  have y3 := (hb2.cell (p := ⟨kb, 3, none⟩) (World.block_lt_of_cell? _ _ a3)).trans a3
  have hr2 := H.out.below HB2.out
  clear hb2 a0 a1 a2 a3
  have HR := Lib.hid hr2
  obtain ⟨va, vc, hv⟩ := hr2.form
  rw [HN.out.1] at hv
  clear hr2
  subst hv
  go_wp2_with fail
  have HOW : Hid (∀ W, RT B W r X (.slice va n vc) → W.ownsRow B 76 5 (.slice va n vc) n (rCs X)) := Lib.hid (fun W h => by have := h.own; rw [HN.out.1] at this; exact this)
  obtain ⟨iF, hiF, hzF, hsF, hbF⟩ := iFl
  refine wp_region_held_drew (S := (fun w' => w'.cell? ⟨kb, 0, none⟩ = some (.string db) ∧ w'.cell? ⟨kb, 1, none⟩ = some (.string ro) ∧ w'.cell? ⟨kb, 2, none⟩ = some (.int .i64 fm) ∧ w'.cell? ⟨kb, 3, none⟩ = some (.string no))) (by kernel_rfl) ?_ (fun hS => ?_)
  · exact ⟨y0, y1, y2, y3⟩
  have HR := Lib.hid (HR.out.below (Below.refl w2.heap.size w2).drew)
  have HBX := Lib.hid (HB2.out.trans ((Below.refl w2.heap.size w2).drew.mono HB2.out.size))
  obtain ⟨V, hV⟩ : ∃ V, w2.drew = V := ⟨_, rfl⟩
  rw [hV] at hS HR HBX ⊢
  clear hV
  refine tkY 0 ?_ rfl hS ?_ ?_
  rotate_left
  · intro wz hz
    go_simp
    all_goals first | with_reducible rfl | omega
  try simp only [Act.put, pu]
  refine tkY 1 ?_ rfl hS ?_ ?_
  rotate_left
  · intro wz hz
    go_simp
    all_goals first | with_reducible rfl | omega
  try simp only [Act.put, pu]
  refine tkY 2 ?_ rfl hS ?_ ?_
  rotate_left
  · intro wz hz
    go_simp
    all_goals first | with_reducible rfl | omega
  try simp only [Act.put, pu]
  refine tkY 3 ?_ rfl hS ?_ ?_
  rotate_left
  · intro wz hz
    go_simp
    all_goals first | with_reducible rfl | omega
  try simp only [Act.put, pu]
  refine tkY 5 ?_ rfl hS ?_ ?_
  rotate_left
  · intro wz hz
    obtain ⟨z0, z1, z2, z3⟩ := hz
    go_simp
    all_goals first | with_reducible rfl | omega
  try simp only [Act.put, pu]
  refine tkY 6 ?_ rfl hS ?_ ?_
  rotate_left
  · intro wz hz
    go_simp
    all_goals first | with_reducible rfl | omega
  try simp only [Act.put, pu]
  refine wpAnyH_ready (rs := [4, 7]) (by kernel_rfl) (by simp) (AllReadyH.cons rfl (fun K' hK' => ?_) (AllReadyH.cons rfl (fun K' hK' => ?_) AllReadyH.nil))
  · skip
    have d0 : V.cell? ⟨r, 0, none⟩ = some (.slice va n vc) := HR.out.bk.cell 0
    go_simp
    clear d0
    refine hK'.out _ _ ?_ (fun hSn => ?_)
    · exact hS
    clear hK' K' hS
    have hS := hSn
    clear hSn
    try simp only [Act.put, pu]
    refine wpAnyH_ready (rs := [7]) (by kernel_rfl) (by simp) (AllReadyH.cons rfl (fun K' hK' => ?_) AllReadyH.nil)
    go_simp
    obtain ⟨V1, hW⟩ : ∃ W, V.alloc (.cells #[nV c] 3) = W := ⟨_, rfl⟩
    obtain ⟨ib, hib⟩ : ∃ b, V.heap.size = b := ⟨_, rfl⟩
    have HOI : Hid (OI B V1 (.slice (some ⟨ib, 0, none⟩) 1 1) [c]) := Lib.hid (by rw [← hW, ← hib]; exact OI.new B V c (Nat.le_trans HBB.out HBX.out.size))
    have HIB : Hid (∀ b, b < V.heap.size → b ≠ ib) := Lib.hid (fun b hb => by omega)
    have HOL : Hid (∀ x ∈ X, x.2.1.ownBlock ≠ (Value.slice (some ⟨ib, 0, none⟩) 1 1).ownBlock) := Lib.hid (fun x hx e => HIB.out ib (World.ownsRow.lt (HR.out.it x hx).1 ib e).2 rfl)
    have hbz : Below V.heap.size V V1 := by rw [← hW]; exact (Below.refl _ _).alloc (Nat.le_refl _) _
    have HR := Lib.hid (HR.out.below hbz)
    have HBX := Lib.hid (HBX.out.trans (hbz.mono HBX.out.size))
    obtain ⟨z0, z1, z2, z3⟩ := id hS
    have hS2 : (fun w' => w'.cell? ⟨kb, 0, none⟩ = some (.string db) ∧ w'.cell? ⟨kb, 1, none⟩ = some (.string ro) ∧ w'.cell? ⟨kb, 2, none⟩ = some (.int .i64 fm) ∧ w'.cell? ⟨kb, 3, none⟩ = some (.string no)) V1 := ⟨(hbz.cell (p := ⟨kb, 0, none⟩) (World.block_lt_of_cell? _ _ z0)).trans z0, (hbz.cell (p := ⟨kb, 1, none⟩) (World.block_lt_of_cell? _ _ z1)).trans z1, (hbz.cell (p := ⟨kb, 2, none⟩) (World.block_lt_of_cell? _ _ z2)).trans z2, (hbz.cell (p := ⟨kb, 3, none⟩) (World.block_lt_of_cell? _ _ z3)).trans z3⟩
    try rw [hW]
    try rw [hib]
    clear hW hib hbz z0 z1 z2 z3
    refine hK'.out _ _ ?_ (fun hSn => ?_)
    · exact hS2
    clear hK' K' hS
    have hS := hSn
    clear hSn
    try simp only [Act.put, pu]
    clear hS2
    refine tkY 8 ?_ rfl hS ?_ ?_
    rotate_left
    · intro wz hz
      go_simp
      all_goals first | with_reducible rfl | omega
    try simp only [Act.put, pu]
    refine wpAnyH_ready (rs := [9]) (by kernel_rfl) (by simp) (AllReadyH.cons rfl (fun K' hK' => ?_) AllReadyH.nil)
    go_simp
    obtain ⟨V2, hW⟩ : ∃ W, V1.alloc (.cells #[.string db, .string ro, .int .i64 fm, .string no, .slice (some ⟨ib, 0, none⟩) 1 1] 76) = W := ⟨_, rfl⟩
    obtain ⟨fb, hfb⟩ : ∃ b, V1.heap.size = b := ⟨_, rfl⟩
    have HFB := Lib.hid (show Bk V2 fb 76 #[.string db, .string ro, .int .i64 fm, .string no, .slice (some ⟨ib, 0, none⟩) 1 1] by rw [← hW, ← hfb]; exact Bk.new _ _ _)
    have hbz : Below V1.heap.size V1 V2 := by rw [← hW]; exact (Below.refl _ _).alloc (Nat.le_refl _) _
    have HR := Lib.hid (HR.out.below hbz)
    have HBX := Lib.hid (HBX.out.trans (hbz.mono HBX.out.size))
    obtain ⟨z0, z1, z2, z3⟩ := id hS
    have hS2 : (fun w' => w'.cell? ⟨kb, 0, none⟩ = some (.string db) ∧ w'.cell? ⟨kb, 1, none⟩ = some (.string ro) ∧ w'.cell? ⟨kb, 2, none⟩ = some (.int .i64 fm) ∧ w'.cell? ⟨kb, 3, none⟩ = some (.string no)) V2 := ⟨(hbz.cell (p := ⟨kb, 0, none⟩) (World.block_lt_of_cell? _ _ z0)).trans z0, (hbz.cell (p := ⟨kb, 1, none⟩) (World.block_lt_of_cell? _ _ z1)).trans z1, (hbz.cell (p := ⟨kb, 2, none⟩) (World.block_lt_of_cell? _ _ z2)).trans z2, (hbz.cell (p := ⟨kb, 3, none⟩) (World.block_lt_of_cell? _ _ z3)).trans z3⟩
    have HOI := Lib.hid (HOI.out.below hbz)
    try rw [hW]
    try rw [hfb]
    clear hW hfb hbz z0 z1 z2 z3
    refine hK'.out _ _ ?_ (fun hSn => ?_)
    · exact hS2
    clear hK' K' hS
    have hS := hSn
    clear hSn
    try simp only [Act.put, pu]
    clear hS2
    refine wpAnyH_ready (rs := [10]) (by kernel_rfl) (by simp) (AllReadyH.cons rfl (fun K' hK' => ?_) AllReadyH.nil)
    refine step_append_lies _ rfl _ _ 26 rfl B 76 iF _ 5 80 Try.underlying26 hiF hzF hsF hbF rfl (by decide) (.slice va n vc) n (rCs X) rfl (HOW.out _ HR.out) ⟨fb, 0, none⟩ 1 1 (rCs [((db, ro, fm, no), .slice (some ⟨ib, 0, none⟩) 1 1, [c])]) rfl rfl ?_ ?_ (by decide) ?_ ?_ ?_ _ rfl ?_
    · exact World.news_of_block HFB.out
    · exact rC_one _ (fun x hx => by obtain rfl := List.mem_singleton.1 hx; rfl)
    · have := HN.out.2; unfold maxLen; omega
    · have := HN.out.2; omega
    · exact Nat.le_trans HBB.out HBX.out.size
    intro g6 cap6 w6 hown6 hgr6 hat6 hlt6
    have ho6 : OX B w6 (.slice (some ⟨g6, 0, none⟩) (X ++ [((db, ro, fm, no), Value.slice (some ⟨ib, 0, none⟩) 1 1, [c])]).length cap6) (X ++ [((db, ro, fm, no), .slice (some ⟨ib, 0, none⟩) 1 1, [c])]) := by
      unfold OX
      rw [rCs_app, List.length_append, HN.out.1]
      exact hown6
    have hmore := HR.out.more hgr6 ho6 HOI.out (by simp) HOL.out
    rw [List.length_append, HN.out.1] at hmore
    have hrs : RS B r (openS S (db, ro, fm, no) c) w (w6.setCell ⟨r, 0, none⟩ (.slice (some ⟨g6, 0, none⟩) (n + 1) cap6)) := by
      have hch : Chg (Xown r X (.slice va n vc)) w (w6.setCell ⟨r, 0, none⟩ (.slice (some ⟨g6, 0, none⟩) (n + 1) cap6)) := ((Chg.of_below HBX.out).grown hgr6 (fun k hk _ => .inr (.inl hk))).setCell (p := ⟨r, 0, none⟩) (.inl rfl) _
      refine ⟨⟨_, _, hmore, ?_⟩, HO0.out.chg_below HBB.out hch, HO0.out.chg_kr hch⟩
      unfold pl openS
      rw [List.map_append, ← HP.out]
      rfl
    have HRS := Lib.hid hrs
    have hr6 : w6.heap[r]? = V2.heap[r]? := hgr6.block r HR.out.bk.lt fun e => by
      obtain ⟨c3, f3, h3⟩ := own_ty HR.out.own e.symm
      exact ty_ne (FL.Bk.hp HR.out.bk) h3 (by decide) rfl
    have c6 : w6.cell? ⟨r, 0, none⟩ = some (.slice va n vc) := (HR.out.bk.heap hr6).cell 0
    have f6 : w6.frozen? ⟨r, 0, none⟩ = false := (HR.out.bk.heap hr6).frozen 0
    obtain ⟨z0, z1, z2, z3⟩ := id hS
    have hk6 : ∀ {i : Nat} {u : Value}, V2.cell? ⟨kb, i, none⟩ = some u → w6.cell? ⟨kb, i, none⟩ = some u := fun {i} {u} hu => (hgr6.cell (a := ⟨kb, i, none⟩) hu (fun e => by
      obtain ⟨c3, f3, h3⟩ := own_ty HR.out.own e.symm
      have hkk := HKK.out
      exact HKN.out (World.ownsRow.lt HR.out.own kb e.symm) e.symm))
    have hS2 : (fun w' => w'.cell? ⟨kb, 0, none⟩ = some (.string db) ∧ w'.cell? ⟨kb, 1, none⟩ = some (.string ro) ∧ w'.cell? ⟨kb, 2, none⟩ = some (.int .i64 fm) ∧ w'.cell? ⟨kb, 3, none⟩ = some (.string no)) w6 := ⟨hk6 z0, hk6 z1, hk6 z2, hk6 z3⟩
    clear hmore hrs ho6 hown6 hgr6 hat6 hlt6 hr6 z0 z1 z2 z3 hk6
    refine hK'.out _ _ ?_ (fun hSn => ?_)
    · exact hS2
    clear hK' K' hS
    have hS := hSn
    clear hSn
    try simp only [Act.put, pu]
    clear hS2
    refine tkY 11 ?_ rfl hS ?_ ?_
    rotate_left
    · intro wz hz
      go_simp
      all_goals first | with_reducible rfl | omega
    try simp only [Act.put, pu]
    refine tkY 12 ?_ rfl hS ?_ ?_
    rotate_left
    · intro wz hz
      go_simp
      all_goals first | with_reducible rfl | omega
    try simp only [Act.put, pu]
    refine wpAnyH_ready (rs := [13]) (by kernel_rfl) (by simp) (AllReadyH.cons rfl (fun K' hK' => ?_) AllReadyH.nil)
    go_simp
    obtain ⟨z0, z1, z2, z3⟩ := id hS
    have hkr : r ≠ kb := HKR.out.symm
    have hS2 : (fun w' => w'.cell? ⟨kb, 0, none⟩ = some (.string db) ∧ w'.cell? ⟨kb, 1, none⟩ = some (.string ro) ∧ w'.cell? ⟨kb, 2, none⟩ = some (.int .i64 fm) ∧ w'.cell? ⟨kb, 3, none⟩ = some (.string no)) (w6.setCell ⟨r, 0, none⟩ (.slice (some ⟨g6, 0, none⟩) (n + 1) cap6)) := ⟨(World.cell?_setCell_far _ _ _ _ hkr).trans z0, (World.cell?_setCell_far _ _ _ _ hkr).trans z1, (World.cell?_setCell_far _ _ _ _ hkr).trans z2, (World.cell?_setCell_far _ _ _ _ hkr).trans z3⟩
    clear z0 z1 z2 z3
    refine hK'.out _ _ ?_ (fun hSn => ?_)
    · exact hS2
    clear hK' K' hS
    have hS := hSn
    clear hSn
    try simp only [Act.put, pu]
    refine wpAnyH_done (by kernel_rfl) ?_ _
    clear hS
    go_wp2
    go_ret2
    exact ⟨rfl, HRS.out⟩
  · skip
    go_simp
    obtain ⟨V3, hW⟩ : ∃ W, V.alloc (.cells #[nV c] 3) = W := ⟨_, rfl⟩
    obtain ⟨ib, hib⟩ : ∃ b, V.heap.size = b := ⟨_, rfl⟩
    have HOI : Hid (OI B V3 (.slice (some ⟨ib, 0, none⟩) 1 1) [c]) := Lib.hid (by rw [← hW, ← hib]; exact OI.new B V c (Nat.le_trans HBB.out HBX.out.size))
    have HIB : Hid (∀ b, b < V.heap.size → b ≠ ib) := Lib.hid (fun b hb => by omega)
    have HOL : Hid (∀ x ∈ X, x.2.1.ownBlock ≠ (Value.slice (some ⟨ib, 0, none⟩) 1 1).ownBlock) := Lib.hid (fun x hx e => HIB.out ib (World.ownsRow.lt (HR.out.it x hx).1 ib e).2 rfl)
    have hbz : Below V.heap.size V V3 := by rw [← hW]; exact (Below.refl _ _).alloc (Nat.le_refl _) _
    have HR := Lib.hid (HR.out.below hbz)
    have HBX := Lib.hid (HBX.out.trans (hbz.mono HBX.out.size))
    obtain ⟨z0, z1, z2, z3⟩ := id hS
    have hS2 : (fun w' => w'.cell? ⟨kb, 0, none⟩ = some (.string db) ∧ w'.cell? ⟨kb, 1, none⟩ = some (.string ro) ∧ w'.cell? ⟨kb, 2, none⟩ = some (.int .i64 fm) ∧ w'.cell? ⟨kb, 3, none⟩ = some (.string no)) V3 := ⟨(hbz.cell (p := ⟨kb, 0, none⟩) (World.block_lt_of_cell? _ _ z0)).trans z0, (hbz.cell (p := ⟨kb, 1, none⟩) (World.block_lt_of_cell? _ _ z1)).trans z1, (hbz.cell (p := ⟨kb, 2, none⟩) (World.block_lt_of_cell? _ _ z2)).trans z2, (hbz.cell (p := ⟨kb, 3, none⟩) (World.block_lt_of_cell? _ _ z3)).trans z3⟩
    try rw [hW]
    try rw [hib]
    clear hW hib hbz z0 z1 z2 z3
    refine hK'.out _ _ ?_ (fun hSn => ?_)
    · exact hS2
    clear hK' K' hS
    have hS := hSn
    clear hSn
    try simp only [Act.put, pu]
    clear hS2
    refine tkY 8 ?_ rfl hS ?_ ?_
    rotate_left
    · intro wz hz
      go_simp
      all_goals first | with_reducible rfl | omega
    try simp only [Act.put, pu]
    refine wpAnyH_ready (rs := [4, 9]) (by kernel_rfl) (by simp) (AllReadyH.cons rfl (fun K' hK' => ?_) (AllReadyH.cons rfl (fun K' hK' => ?_) AllReadyH.nil))
    · skip
      have d0 : V3.cell? ⟨r, 0, none⟩ = some (.slice va n vc) := HR.out.bk.cell 0
      go_simp
      clear d0
      refine hK'.out _ _ ?_ (fun hSn => ?_)
      · exact hS
      clear hK' K' hS
      have hS := hSn
      clear hSn
      try simp only [Act.put, pu]
      refine wpAnyH_ready (rs := [9]) (by kernel_rfl) (by simp) (AllReadyH.cons rfl (fun K' hK' => ?_) AllReadyH.nil)
      go_simp
      obtain ⟨V4, hW⟩ : ∃ W, V3.alloc (.cells #[.string db, .string ro, .int .i64 fm, .string no, .slice (some ⟨ib, 0, none⟩) 1 1] 76) = W := ⟨_, rfl⟩
      obtain ⟨fb, hfb⟩ : ∃ b, V3.heap.size = b := ⟨_, rfl⟩
      have HFB := Lib.hid (show Bk V4 fb 76 #[.string db, .string ro, .int .i64 fm, .string no, .slice (some ⟨ib, 0, none⟩) 1 1] by rw [← hW, ← hfb]; exact Bk.new _ _ _)
      have hbz : Below V3.heap.size V3 V4 := by rw [← hW]; exact (Below.refl _ _).alloc (Nat.le_refl _) _
      have HR := Lib.hid (HR.out.below hbz)
      have HBX := Lib.hid (HBX.out.trans (hbz.mono HBX.out.size))
      obtain ⟨z0, z1, z2, z3⟩ := id hS
      have hS2 : (fun w' => w'.cell? ⟨kb, 0, none⟩ = some (.string db) ∧ w'.cell? ⟨kb, 1, none⟩ = some (.string ro) ∧ w'.cell? ⟨kb, 2, none⟩ = some (.int .i64 fm) ∧ w'.cell? ⟨kb, 3, none⟩ = some (.string no)) V4 := ⟨(hbz.cell (p := ⟨kb, 0, none⟩) (World.block_lt_of_cell? _ _ z0)).trans z0, (hbz.cell (p := ⟨kb, 1, none⟩) (World.block_lt_of_cell? _ _ z1)).trans z1, (hbz.cell (p := ⟨kb, 2, none⟩) (World.block_lt_of_cell? _ _ z2)).trans z2, (hbz.cell (p := ⟨kb, 3, none⟩) (World.block_lt_of_cell? _ _ z3)).trans z3⟩
      have HOI := Lib.hid (HOI.out.below hbz)
      try rw [hW]
      try rw [hfb]
      clear hW hfb hbz z0 z1 z2 z3
      refine hK'.out _ _ ?_ (fun hSn => ?_)
      · exact hS2
      clear hK' K' hS
      have hS := hSn
      clear hSn
      try simp only [Act.put, pu]
      clear hS2
      refine wpAnyH_ready (rs := [10]) (by kernel_rfl) (by simp) (AllReadyH.cons rfl (fun K' hK' => ?_) AllReadyH.nil)
      refine step_append_lies _ rfl _ _ 26 rfl B 76 iF _ 5 80 Try.underlying26 hiF hzF hsF hbF rfl (by decide) (.slice va n vc) n (rCs X) rfl (HOW.out _ HR.out) ⟨fb, 0, none⟩ 1 1 (rCs [((db, ro, fm, no), .slice (some ⟨ib, 0, none⟩) 1 1, [c])]) rfl rfl ?_ ?_ (by decide) ?_ ?_ ?_ _ rfl ?_
      · exact World.news_of_block HFB.out
      · exact rC_one _ (fun x hx => by obtain rfl := List.mem_singleton.1 hx; rfl)
      · have := HN.out.2; unfold maxLen; omega
      · have := HN.out.2; omega
      · exact Nat.le_trans HBB.out HBX.out.size
      intro g6 cap6 w6 hown6 hgr6 hat6 hlt6
      have ho6 : OX B w6 (.slice (some ⟨g6, 0, none⟩) (X ++ [((db, ro, fm, no), Value.slice (some ⟨ib, 0, none⟩) 1 1, [c])]).length cap6) (X ++ [((db, ro, fm, no), .slice (some ⟨ib, 0, none⟩) 1 1, [c])]) := by
        unfold OX
        rw [rCs_app, List.length_append, HN.out.1]
        exact hown6
      have hmore := HR.out.more hgr6 ho6 HOI.out (by simp) HOL.out
      rw [List.length_append, HN.out.1] at hmore
      have hrs : RS B r (openS S (db, ro, fm, no) c) w (w6.setCell ⟨r, 0, none⟩ (.slice (some ⟨g6, 0, none⟩) (n + 1) cap6)) := by
        have hch : Chg (Xown r X (.slice va n vc)) w (w6.setCell ⟨r, 0, none⟩ (.slice (some ⟨g6, 0, none⟩) (n + 1) cap6)) := ((Chg.of_below HBX.out).grown hgr6 (fun k hk _ => .inr (.inl hk))).setCell (p := ⟨r, 0, none⟩) (.inl rfl) _
        refine ⟨⟨_, _, hmore, ?_⟩, HO0.out.chg_below HBB.out hch, HO0.out.chg_kr hch⟩
        unfold pl openS
        rw [List.map_append, ← HP.out]
        rfl
      have HRS := Lib.hid hrs
      have hr6 : w6.heap[r]? = V4.heap[r]? := hgr6.block r HR.out.bk.lt fun e => by
        obtain ⟨c3, f3, h3⟩ := own_ty HR.out.own e.symm
        exact ty_ne (FL.Bk.hp HR.out.bk) h3 (by decide) rfl
      have c6 : w6.cell? ⟨r, 0, none⟩ = some (.slice va n vc) := (HR.out.bk.heap hr6).cell 0
      have f6 : w6.frozen? ⟨r, 0, none⟩ = false := (HR.out.bk.heap hr6).frozen 0
      obtain ⟨z0, z1, z2, z3⟩ := id hS
      have hk6 : ∀ {i : Nat} {u : Value}, V4.cell? ⟨kb, i, none⟩ = some u → w6.cell? ⟨kb, i, none⟩ = some u := fun {i} {u} hu => (hgr6.cell (a := ⟨kb, i, none⟩) hu (fun e => by
        obtain ⟨c3, f3, h3⟩ := own_ty HR.out.own e.symm
        have hkk := HKK.out
        exact HKN.out (World.ownsRow.lt HR.out.own kb e.symm) e.symm))
      have hS2 : (fun w' => w'.cell? ⟨kb, 0, none⟩ = some (.string db) ∧ w'.cell? ⟨kb, 1, none⟩ = some (.string ro) ∧ w'.cell? ⟨kb, 2, none⟩ = some (.int .i64 fm) ∧ w'.cell? ⟨kb, 3, none⟩ = some (.string no)) w6 := ⟨hk6 z0, hk6 z1, hk6 z2, hk6 z3⟩
      clear hmore hrs ho6 hown6 hgr6 hat6 hlt6 hr6 z0 z1 z2 z3 hk6
      refine hK'.out _ _ ?_ (fun hSn => ?_)
      · exact hS2
      clear hK' K' hS
      have hS := hSn
      clear hSn
      try simp only [Act.put, pu]
      clear hS2
      refine tkY 11 ?_ rfl hS ?_ ?_
      rotate_left
      · intro wz hz
        go_simp
        all_goals first | with_reducible rfl | omega
      try simp only [Act.put, pu]
      refine tkY 12 ?_ rfl hS ?_ ?_
      rotate_left
      · intro wz hz
        go_simp
        all_goals first | with_reducible rfl | omega
      try simp only [Act.put, pu]
      refine wpAnyH_ready (rs := [13]) (by kernel_rfl) (by simp) (AllReadyH.cons rfl (fun K' hK' => ?_) AllReadyH.nil)
      go_simp
      obtain ⟨z0, z1, z2, z3⟩ := id hS
      have hkr : r ≠ kb := HKR.out.symm
      have hS2 : (fun w' => w'.cell? ⟨kb, 0, none⟩ = some (.string db) ∧ w'.cell? ⟨kb, 1, none⟩ = some (.string ro) ∧ w'.cell? ⟨kb, 2, none⟩ = some (.int .i64 fm) ∧ w'.cell? ⟨kb, 3, none⟩ = some (.string no)) (w6.setCell ⟨r, 0, none⟩ (.slice (some ⟨g6, 0, none⟩) (n + 1) cap6)) := ⟨(World.cell?_setCell_far _ _ _ _ hkr).trans z0, (World.cell?_setCell_far _ _ _ _ hkr).trans z1, (World.cell?_setCell_far _ _ _ _ hkr).trans z2, (World.cell?_setCell_far _ _ _ _ hkr).trans z3⟩
      clear z0 z1 z2 z3
      refine hK'.out _ _ ?_ (fun hSn => ?_)
      · exact hS2
      clear hK' K' hS
      have hS := hSn
      clear hSn
      try simp only [Act.put, pu]
      refine wpAnyH_done (by kernel_rfl) ?_ _
      clear hS
      go_wp2
      go_ret2
      exact ⟨rfl, HRS.out⟩
    · skip
      go_simp
      obtain ⟨V5, hW⟩ : ∃ W, V3.alloc (.cells #[.string db, .string ro, .int .i64 fm, .string no, .slice (some ⟨ib, 0, none⟩) 1 1] 76) = W := ⟨_, rfl⟩
      obtain ⟨fb, hfb⟩ : ∃ b, V3.heap.size = b := ⟨_, rfl⟩
      have HFB := Lib.hid (show Bk V5 fb 76 #[.string db, .string ro, .int .i64 fm, .string no, .slice (some ⟨ib, 0, none⟩) 1 1] by rw [← hW, ← hfb]; exact Bk.new _ _ _)
      have hbz : Below V3.heap.size V3 V5 := by rw [← hW]; exact (Below.refl _ _).alloc (Nat.le_refl _) _
      have HR := Lib.hid (HR.out.below hbz)
      have HBX := Lib.hid (HBX.out.trans (hbz.mono HBX.out.size))
      obtain ⟨z0, z1, z2, z3⟩ := id hS
      have hS2 : (fun w' => w'.cell? ⟨kb, 0, none⟩ = some (.string db) ∧ w'.cell? ⟨kb, 1, none⟩ = some (.string ro) ∧ w'.cell? ⟨kb, 2, none⟩ = some (.int .i64 fm) ∧ w'.cell? ⟨kb, 3, none⟩ = some (.string no)) V5 := ⟨(hbz.cell (p := ⟨kb, 0, none⟩) (World.block_lt_of_cell? _ _ z0)).trans z0, (hbz.cell (p := ⟨kb, 1, none⟩) (World.block_lt_of_cell? _ _ z1)).trans z1, (hbz.cell (p := ⟨kb, 2, none⟩) (World.block_lt_of_cell? _ _ z2)).trans z2, (hbz.cell (p := ⟨kb, 3, none⟩) (World.block_lt_of_cell? _ _ z3)).trans z3⟩
      have HOI := Lib.hid (HOI.out.below hbz)
      try rw [hW]
      try rw [hfb]
      clear hW hfb hbz z0 z1 z2 z3
      refine hK'.out _ _ ?_ (fun hSn => ?_)
      · exact hS2
      clear hK' K' hS
      have hS := hSn
      clear hSn
      try simp only [Act.put, pu]
      clear hS2
      refine wpAnyH_ready (rs := [4]) (by kernel_rfl) (by simp) (AllReadyH.cons rfl (fun K' hK' => ?_) AllReadyH.nil)
      have d0 : V5.cell? ⟨r, 0, none⟩ = some (.slice va n vc) := HR.out.bk.cell 0
      go_simp
      clear d0
      refine hK'.out _ _ ?_ (fun hSn => ?_)
      · exact hS
      clear hK' K' hS
      have hS := hSn
      clear hSn
      try simp only [Act.put, pu]
      refine wpAnyH_ready (rs := [10]) (by kernel_rfl) (by simp) (AllReadyH.cons rfl (fun K' hK' => ?_) AllReadyH.nil)
      refine step_append_lies _ rfl _ _ 26 rfl B 76 iF _ 5 80 Try.underlying26 hiF hzF hsF hbF rfl (by decide) (.slice va n vc) n (rCs X) rfl (HOW.out _ HR.out) ⟨fb, 0, none⟩ 1 1 (rCs [((db, ro, fm, no), .slice (some ⟨ib, 0, none⟩) 1 1, [c])]) rfl rfl ?_ ?_ (by decide) ?_ ?_ ?_ _ rfl ?_
      · exact World.news_of_block HFB.out
      · exact rC_one _ (fun x hx => by obtain rfl := List.mem_singleton.1 hx; rfl)
      · have := HN.out.2; unfold maxLen; omega
      · have := HN.out.2; omega
      · exact Nat.le_trans HBB.out HBX.out.size
      intro g6 cap6 w6 hown6 hgr6 hat6 hlt6
      have ho6 : OX B w6 (.slice (some ⟨g6, 0, none⟩) (X ++ [((db, ro, fm, no), Value.slice (some ⟨ib, 0, none⟩) 1 1, [c])]).length cap6) (X ++ [((db, ro, fm, no), .slice (some ⟨ib, 0, none⟩) 1 1, [c])]) := by
        unfold OX
        rw [rCs_app, List.length_append, HN.out.1]
        exact hown6
      have hmore := HR.out.more hgr6 ho6 HOI.out (by simp) HOL.out
      rw [List.length_append, HN.out.1] at hmore
      have hrs : RS B r (openS S (db, ro, fm, no) c) w (w6.setCell ⟨r, 0, none⟩ (.slice (some ⟨g6, 0, none⟩) (n + 1) cap6)) := by
        have hch : Chg (Xown r X (.slice va n vc)) w (w6.setCell ⟨r, 0, none⟩ (.slice (some ⟨g6, 0, none⟩) (n + 1) cap6)) := ((Chg.of_below HBX.out).grown hgr6 (fun k hk _ => .inr (.inl hk))).setCell (p := ⟨r, 0, none⟩) (.inl rfl) _
        refine ⟨⟨_, _, hmore, ?_⟩, HO0.out.chg_below HBB.out hch, HO0.out.chg_kr hch⟩
        unfold pl openS
        rw [List.map_append, ← HP.out]
        rfl
      have HRS := Lib.hid hrs
      have hr6 : w6.heap[r]? = V5.heap[r]? := hgr6.block r HR.out.bk.lt fun e => by
        obtain ⟨c3, f3, h3⟩ := own_ty HR.out.own e.symm
        exact ty_ne (FL.Bk.hp HR.out.bk) h3 (by decide) rfl
      have c6 : w6.cell? ⟨r, 0, none⟩ = some (.slice va n vc) := (HR.out.bk.heap hr6).cell 0
      have f6 : w6.frozen? ⟨r, 0, none⟩ = false := (HR.out.bk.heap hr6).frozen 0
      obtain ⟨z0, z1, z2, z3⟩ := id hS
      have hk6 : ∀ {i : Nat} {u : Value}, V5.cell? ⟨kb, i, none⟩ = some u → w6.cell? ⟨kb, i, none⟩ = some u := fun {i} {u} hu => (hgr6.cell (a := ⟨kb, i, none⟩) hu (fun e => by
        obtain ⟨c3, f3, h3⟩ := own_ty HR.out.own e.symm
        have hkk := HKK.out
        exact HKN.out (World.ownsRow.lt HR.out.own kb e.symm) e.symm))
      have hS2 : (fun w' => w'.cell? ⟨kb, 0, none⟩ = some (.string db) ∧ w'.cell? ⟨kb, 1, none⟩ = some (.string ro) ∧ w'.cell? ⟨kb, 2, none⟩ = some (.int .i64 fm) ∧ w'.cell? ⟨kb, 3, none⟩ = some (.string no)) w6 := ⟨hk6 z0, hk6 z1, hk6 z2, hk6 z3⟩
      clear hmore hrs ho6 hown6 hgr6 hat6 hlt6 hr6 z0 z1 z2 z3 hk6
      refine hK'.out _ _ ?_ (fun hSn => ?_)
      · exact hS2
      clear hK' K' hS
      have hS := hSn
      clear hSn
      try simp only [Act.put, pu]
      clear hS2
      refine tkY 11 ?_ rfl hS ?_ ?_
      rotate_left
      · intro wz hz
        go_simp
        all_goals first | with_reducible rfl | omega
      try simp only [Act.put, pu]
      refine tkY 12 ?_ rfl hS ?_ ?_
      rotate_left
      · intro wz hz
        go_simp
        all_goals first | with_reducible rfl | omega
      try simp only [Act.put, pu]
      refine wpAnyH_ready (rs := [13]) (by kernel_rfl) (by simp) (AllReadyH.cons rfl (fun K' hK' => ?_) AllReadyH.nil)
      go_simp
      obtain ⟨z0, z1, z2, z3⟩ := id hS
      have hkr : r ≠ kb := HKR.out.symm
      have hS2 : (fun w' => w'.cell? ⟨kb, 0, none⟩ = some (.string db) ∧ w'.cell? ⟨kb, 1, none⟩ = some (.string ro) ∧ w'.cell? ⟨kb, 2, none⟩ = some (.int .i64 fm) ∧ w'.cell? ⟨kb, 3, none⟩ = some (.string no)) (w6.setCell ⟨r, 0, none⟩ (.slice (some ⟨g6, 0, none⟩) (n + 1) cap6)) := ⟨(World.cell?_setCell_far _ _ _ _ hkr).trans z0, (World.cell?_setCell_far _ _ _ _ hkr).trans z1, (World.cell?_setCell_far _ _ _ _ hkr).trans z2, (World.cell?_setCell_far _ _ _ _ hkr).trans z3⟩
      clear z0 z1 z2 z3
      refine hK'.out _ _ ?_ (fun hSn => ?_)
      · exact hS2
      clear hK' K' hS
      have hS := hSn
      clear hSn
      try simp only [Act.put, pu]
      refine wpAnyH_done (by kernel_rfl) ?_ _
      clear hS
      go_wp2
      go_ret2
      exact ⟨rfl, HRS.out⟩
end Go.Proofs.Ytldpamlmnganmaa.FL
