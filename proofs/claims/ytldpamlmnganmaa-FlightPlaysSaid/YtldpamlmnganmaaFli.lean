/- Package flight: open. Conditions: how many asks there were, how long keys are. -/
import Derived.Test.YtldpamlmnganmaaFlh
namespace Go.Proofs.Ytldpamlmnganmaa.FL
open Go.ChangeShapes Go.WideShapes Go.ChangeAt Go.RowKit Go.Maps Go.ChangeMaps
open Go.Proofs.Ytldpamlmnganmaa.SL
set_option maxRecDepth 100000
set_option linter.unusedVariables false
set_option linter.unusedSimpArgs false

/-- what a step leaves of a board -/
def StP (w : World) (a N : Nat) (C : Bs) (S : List Fl) (w' : World) : Prop := ∃ C', CB w' a N C' S ∧ Chg C.own w w' ∧ ∀ b, C'.own b → C.own b ∨ w.heap.size ≤ b
set_option maxHeartbeats 4000000 in
theorem open_any {w : World} {a N : Nat} {C : Bs} {S : List Fl} (h : CB w a N C S) (hN : N ≤ 1000000) (k : Ky) (hk : FitK k) (c : Int) (hc : 0 ≤ c ∧ c ≤ 9223372036854775807) (hF : C.F k = none) (hZ : C.Z c = none) :
    Calls Try.prog 27 #[ptr a, kyV k, .int .i64 c] w (fun e w' => e = .returned (.tuple #[]) ∧ StP w a (N + 1) C (openS S k c) w') := by
  obtain ⟨W0, hW0⟩ : ∃ W, w.alloc (.cells (kC k) 30) = W := ⟨_, rfl⟩
  obtain ⟨kb, hkb⟩ : ∃ b, w.heap.size = b := ⟨_, rfl⟩
  have b0 : Below w.heap.size w W0 := by rw [← hW0]; exact (Below.refl _ _).alloc (Nat.le_refl _) _
  have kk : Bk W0 kb 30 (kC k) := by rw [← hW0, ← hkb]; exact Bk.new _ _ _
  have HB0 := Lib.hid b0
  have H := Lib.hid h
  have HK := Lib.hid hk
  have hk2 := hk
  obtain ⟨db, ro, fm, no⟩ := k
  obtain ⟨h1, h2, h3, h4, h5⟩ := hk2
  simp only at h1 h2 h3 h4 h5
  have a0 : W0.cell? ⟨kb, 0, none⟩ = some (.string db) := kk.cell 0
  have a1 : W0.cell? ⟨kb, 1, none⟩ = some (.string ro) := kk.cell 1
  have a2 : W0.cell? ⟨kb, 2, none⟩ = some (.int .i64 fm) := kk.cell 2
  have a3 : W0.cell? ⟨kb, 3, none⟩ = some (.string no) := kk.cell 3
  have HC1 := Lib.hid (fun w => clone_any db w (by omega))
  have HC2 := Lib.hid (fun w => clone_any ro w (by omega))
  have HC3 := Lib.hid (fun w => clone_any no w (by omega))
  have HKL : Hid (kb < W0.heap.size) := Lib.hid kk.lt
  clear h hk b0 kk h1 h2 h3 h4 h5
  go_enter Try.func27, Try.ntmps27
  go_wp2_with fail
  try rw [hW0]
  try rw [hkb]
  go_upto_region 1 with fail
  go_cut [6] from 8 to 19 (fun s6 wx => ∃ ob, s6 = ptr ob ∧ W0.heap.size ≤ ob ∧ Bk wx ob 30 (kC (db, ro, fm, no)) ∧ Below W0.heap.size W0 wx)
  case first =>
    refine wp_region_held_drew (S := (fun w' => Below W0.heap.size W0 w')) (by kernel_rfl) ?_ (fun hS => ?_)
    · exact (Below.refl _ _).drew
    refine tkY 0 ?_ rfl hS ?_ ?_
    rotate_left
    · intro wz hz
      have z0 := (hz.cell (p := ⟨kb, 0, none⟩) HKL.out).trans a0
      have z1 := (hz.cell (p := ⟨kb, 1, none⟩) HKL.out).trans a1
      have z2 := (hz.cell (p := ⟨kb, 2, none⟩) HKL.out).trans a2
      have z3 := (hz.cell (p := ⟨kb, 3, none⟩) HKL.out).trans a3
      go_simp
      all_goals first | with_reducible rfl | omega
    try simp only [Act.put, pu]
    refine tkY 1 ?_ rfl hS ?_ ?_
    rotate_left
    · intro wz hz
      have z0 := (hz.cell (p := ⟨kb, 0, none⟩) HKL.out).trans a0
      have z1 := (hz.cell (p := ⟨kb, 1, none⟩) HKL.out).trans a1
      have z2 := (hz.cell (p := ⟨kb, 2, none⟩) HKL.out).trans a2
      have z3 := (hz.cell (p := ⟨kb, 3, none⟩) HKL.out).trans a3
      go_simp
      all_goals first | with_reducible rfl | omega
    try simp only [Act.put, pu]
    refine tkY 3 ?_ rfl hS ?_ ?_
    rotate_left
    · intro wz hz
      have z0 := (hz.cell (p := ⟨kb, 0, none⟩) HKL.out).trans a0
      have z1 := (hz.cell (p := ⟨kb, 1, none⟩) HKL.out).trans a1
      have z2 := (hz.cell (p := ⟨kb, 2, none⟩) HKL.out).trans a2
      have z3 := (hz.cell (p := ⟨kb, 3, none⟩) HKL.out).trans a3
      go_simp
      all_goals first | with_reducible rfl | omega
    try simp only [Act.put, pu]
    refine tkY 4 ?_ rfl hS ?_ ?_
    rotate_left
    · intro wz hz
      have z0 := (hz.cell (p := ⟨kb, 0, none⟩) HKL.out).trans a0
      have z1 := (hz.cell (p := ⟨kb, 1, none⟩) HKL.out).trans a1
      have z2 := (hz.cell (p := ⟨kb, 2, none⟩) HKL.out).trans a2
      have z3 := (hz.cell (p := ⟨kb, 3, none⟩) HKL.out).trans a3
      go_simp
      all_goals first | with_reducible rfl | omega
    try simp only [Act.put, pu]
    refine tkY 6 ?_ rfl hS ?_ ?_
    rotate_left
    · intro wz hz
      have z0 := (hz.cell (p := ⟨kb, 0, none⟩) HKL.out).trans a0
      have z1 := (hz.cell (p := ⟨kb, 1, none⟩) HKL.out).trans a1
      have z2 := (hz.cell (p := ⟨kb, 2, none⟩) HKL.out).trans a2
      have z3 := (hz.cell (p := ⟨kb, 3, none⟩) HKL.out).trans a3
      go_simp
      all_goals first | with_reducible rfl | omega
    try simp only [Act.put, pu]
    refine tkY 7 ?_ rfl hS ?_ ?_
    rotate_left
    · intro wz hz
      have z0 := (hz.cell (p := ⟨kb, 0, none⟩) HKL.out).trans a0
      have z1 := (hz.cell (p := ⟨kb, 1, none⟩) HKL.out).trans a1
      have z2 := (hz.cell (p := ⟨kb, 2, none⟩) HKL.out).trans a2
      have z3 := (hz.cell (p := ⟨kb, 3, none⟩) HKL.out).trans a3
      go_simp
      all_goals first | with_reducible rfl | omega
    try simp only [Act.put, pu]
    refine tkY 8 ?_ rfl hS ?_ ?_
    rotate_left
    · intro wz hz
      have z0 := (hz.cell (p := ⟨kb, 0, none⟩) HKL.out).trans a0
      have z1 := (hz.cell (p := ⟨kb, 1, none⟩) HKL.out).trans a1
      have z2 := (hz.cell (p := ⟨kb, 2, none⟩) HKL.out).trans a2
      have z3 := (hz.cell (p := ⟨kb, 3, none⟩) HKL.out).trans a3
      go_simp
      all_goals first | with_reducible rfl | omega
    try simp only [Act.put, pu]
    refine tkY 9 ?_ rfl hS ?_ ?_
    rotate_left
    · intro wz hz
      have z0 := (hz.cell (p := ⟨kb, 0, none⟩) HKL.out).trans a0
      have z1 := (hz.cell (p := ⟨kb, 1, none⟩) HKL.out).trans a1
      have z2 := (hz.cell (p := ⟨kb, 2, none⟩) HKL.out).trans a2
      have z3 := (hz.cell (p := ⟨kb, 3, none⟩) HKL.out).trans a3
      go_simp
      all_goals first | with_reducible rfl | omega
    try simp only [Act.put, pu]
    have hbx : Below W0.heap.size W0 W0.drew := (Below.refl _ _).drew
    have HBX := Lib.hid hbx
    clear hbx
    refine wpAnyH_ready (rs := [2, 12]) (by kernel_rfl) (by simp) (AllReadyH.cons rfl (fun K' hK' => ?_) (AllReadyH.cons rfl (fun K' hK' => ?_) AllReadyH.nil))
    · skip
      go_simp
      refine (HC1.out _).mono ?_
      rintro e w11 ⟨rfl, hb⟩
      have HBX := Lib.hid (HBX.out.trans (hb.mono HBX.out.size))
      clear hb
      refine hK'.out _ _ ?_ (fun hSn => ?_)
      · exact HBX.out
      clear hK' K' hS
      have hS := hSn
      clear hSn
      try simp only [Act.put, pu]
      refine wpAnyH_ready (rs := [5, 12]) (by kernel_rfl) (by simp) (AllReadyH.cons rfl (fun K' hK' => ?_) (AllReadyH.cons rfl (fun K' hK' => ?_) AllReadyH.nil))
      · skip
        go_simp
        refine (HC2.out _).mono ?_
        rintro e w12 ⟨rfl, hb⟩
        have HBX := Lib.hid (HBX.out.trans (hb.mono HBX.out.size))
        clear hb
        refine hK'.out _ _ ?_ (fun hSn => ?_)
        · exact HBX.out
        clear hK' K' hS
        have hS := hSn
        clear hSn
        try simp only [Act.put, pu]
        refine wpAnyH_ready (rs := [10, 12]) (by kernel_rfl) (by simp) (AllReadyH.cons rfl (fun K' hK' => ?_) (AllReadyH.cons rfl (fun K' hK' => ?_) AllReadyH.nil))
        · skip
          go_simp
          refine (HC3.out _).mono ?_
          rintro e w13 ⟨rfl, hb⟩
          have HBX := Lib.hid (HBX.out.trans (hb.mono HBX.out.size))
          clear hb
          refine hK'.out _ _ ?_ (fun hSn => ?_)
          · exact HBX.out
          clear hK' K' hS
          have hS := hSn
          clear hSn
          try simp only [Act.put, pu]
          refine tkY 11 ?_ rfl hS ?_ ?_
          rotate_left
          · intro wz hz
            go_simp
            all_goals first | with_reducible rfl | omega
          try simp only [Act.put, pu]
          refine wpAnyH_ready (rs := [12]) (by kernel_rfl) (by simp) (AllReadyH.cons rfl (fun K' hK' => ?_) AllReadyH.nil)
          go_simp
          obtain ⟨w14, hW⟩ : ∃ W, (w13).alloc (.cells #[.string ⟨#[]⟩, .string ⟨#[]⟩, .int .i64 0, .string ⟨#[]⟩] 30) = W := ⟨_, rfl⟩
          obtain ⟨ob, hob⟩ : ∃ b, (w13).heap.size = b := ⟨_, rfl⟩
          have HOK : Hid (Bk w14 ob 30 #[.string ⟨#[]⟩, .string ⟨#[]⟩, .int .i64 0, .string ⟨#[]⟩]) := Lib.hid (by rw [← hW, ← hob]; exact Bk.new _ _ _)
          have HOB : Hid (W0.heap.size ≤ ob) := Lib.hid (by rw [← hob]; exact HBX.out.size)
          have HBX : Hid (Below W0.heap.size W0 w14) := Lib.hid (by rw [← hW]; exact HBX.out.alloc HBX.out.size _)
          try rw [hW]
          try rw [hob]
          clear hW hob
          refine hK'.out _ _ ?_ (fun hSn => ?_)
          · exact HBX.out
          clear hK' K' hS
          have hS := hSn
          clear hSn
          try simp only [Act.put, pu]
          have q0 : w14.cell? ⟨ob, 0, none⟩ = some (.string ⟨#[]⟩) := HOK.out.cell 0
          have q1 : w14.cell? ⟨ob, 1, none⟩ = some (.string ⟨#[]⟩) := HOK.out.cell 1
          have q2 : w14.cell? ⟨ob, 2, none⟩ = some (.int .i64 0) := HOK.out.cell 2
          have q3 : w14.cell? ⟨ob, 3, none⟩ = some (.string ⟨#[]⟩) := HOK.out.cell 3
          have f0 := HOK.out.frozen 0
          have f1 := HOK.out.frozen 1
          have f2 := HOK.out.frozen 2
          have f3 := HOK.out.frozen 3
          refine wpAnyH_ready (rs := [13]) (by kernel_rfl) (by simp) (AllReadyH.cons rfl (fun K' hK' => ?_) AllReadyH.nil)
          go_simp
          have ks := (((HOK.out.set_ 0 (.string db)).set_ 1 (.string ro)).set_ 2 (.int .i64 fm)).set_ 3 (.string no)
          have hbs := (((HBX.out.setCell (p := ⟨ob, 0, none⟩) HOB.out (.string db)).setCell (p := ⟨ob, 1, none⟩) HOB.out (.string ro)).setCell (p := ⟨ob, 2, none⟩) HOB.out (.int .i64 fm)).setCell (p := ⟨ob, 3, none⟩) HOB.out (.string no)
          refine hK'.out _ _ ?_ (fun hSn => ?_)
          · exact hbs
          clear hK' K' hS
          have hS := hSn
          clear hSn
          try simp only [Act.put, pu]
          refine wpAnyH_done (by kernel_rfl) ?_ _
          clear hS
          go_wp2_with fail
          go_meet
          exact ⟨_, rfl, HOB.out, ks, hbs⟩
        · skip
          go_simp
          obtain ⟨w15, hW⟩ : ∃ W, (w12).alloc (.cells #[.string ⟨#[]⟩, .string ⟨#[]⟩, .int .i64 0, .string ⟨#[]⟩] 30) = W := ⟨_, rfl⟩
          obtain ⟨ob, hob⟩ : ∃ b, (w12).heap.size = b := ⟨_, rfl⟩
          have HOK : Hid (Bk w15 ob 30 #[.string ⟨#[]⟩, .string ⟨#[]⟩, .int .i64 0, .string ⟨#[]⟩]) := Lib.hid (by rw [← hW, ← hob]; exact Bk.new _ _ _)
          have HOB : Hid (W0.heap.size ≤ ob) := Lib.hid (by rw [← hob]; exact HBX.out.size)
          have HBX : Hid (Below W0.heap.size W0 w15) := Lib.hid (by rw [← hW]; exact HBX.out.alloc HBX.out.size _)
          try rw [hW]
          try rw [hob]
          clear hW hob
          refine hK'.out _ _ ?_ (fun hSn => ?_)
          · exact HBX.out
          clear hK' K' hS
          have hS := hSn
          clear hSn
          try simp only [Act.put, pu]
          refine wpAnyH_ready (rs := [10]) (by kernel_rfl) (by simp) (AllReadyH.cons rfl (fun K' hK' => ?_) AllReadyH.nil)
          go_simp
          refine (HC3.out _).mono ?_
          rintro e w16 ⟨rfl, hb⟩
          have HOK := Lib.hid ((show Bk _ ob _ _ from HOK.out).heap (hb.block ob HOK.out.lt))
          have HBX := Lib.hid (HBX.out.trans (hb.mono HBX.out.size))
          clear hb
          refine hK'.out _ _ ?_ (fun hSn => ?_)
          · exact HBX.out
          clear hK' K' hS
          have hS := hSn
          clear hSn
          try simp only [Act.put, pu]
          refine tkY 11 ?_ rfl hS ?_ ?_
          rotate_left
          · intro wz hz
            go_simp
            all_goals first | with_reducible rfl | omega
          try simp only [Act.put, pu]
          have q0 : w16.cell? ⟨ob, 0, none⟩ = some (.string ⟨#[]⟩) := HOK.out.cell 0
          have q1 : w16.cell? ⟨ob, 1, none⟩ = some (.string ⟨#[]⟩) := HOK.out.cell 1
          have q2 : w16.cell? ⟨ob, 2, none⟩ = some (.int .i64 0) := HOK.out.cell 2
          have q3 : w16.cell? ⟨ob, 3, none⟩ = some (.string ⟨#[]⟩) := HOK.out.cell 3
          have f0 := HOK.out.frozen 0
          have f1 := HOK.out.frozen 1
          have f2 := HOK.out.frozen 2
          have f3 := HOK.out.frozen 3
          refine wpAnyH_ready (rs := [13]) (by kernel_rfl) (by simp) (AllReadyH.cons rfl (fun K' hK' => ?_) AllReadyH.nil)
          go_simp
          have ks := (((HOK.out.set_ 0 (.string db)).set_ 1 (.string ro)).set_ 2 (.int .i64 fm)).set_ 3 (.string no)
          have hbs := (((HBX.out.setCell (p := ⟨ob, 0, none⟩) HOB.out (.string db)).setCell (p := ⟨ob, 1, none⟩) HOB.out (.string ro)).setCell (p := ⟨ob, 2, none⟩) HOB.out (.int .i64 fm)).setCell (p := ⟨ob, 3, none⟩) HOB.out (.string no)
          refine hK'.out _ _ ?_ (fun hSn => ?_)
          · exact hbs
          clear hK' K' hS
          have hS := hSn
          clear hSn
          try simp only [Act.put, pu]
          refine wpAnyH_done (by kernel_rfl) ?_ _
          clear hS
          go_wp2_with fail
          go_meet
          exact ⟨_, rfl, HOB.out, ks, hbs⟩
      · skip
        go_simp
        obtain ⟨w17, hW⟩ : ∃ W, (w11).alloc (.cells #[.string ⟨#[]⟩, .string ⟨#[]⟩, .int .i64 0, .string ⟨#[]⟩] 30) = W := ⟨_, rfl⟩
        obtain ⟨ob, hob⟩ : ∃ b, (w11).heap.size = b := ⟨_, rfl⟩
        have HOK : Hid (Bk w17 ob 30 #[.string ⟨#[]⟩, .string ⟨#[]⟩, .int .i64 0, .string ⟨#[]⟩]) := Lib.hid (by rw [← hW, ← hob]; exact Bk.new _ _ _)
        have HOB : Hid (W0.heap.size ≤ ob) := Lib.hid (by rw [← hob]; exact HBX.out.size)
        have HBX : Hid (Below W0.heap.size W0 w17) := Lib.hid (by rw [← hW]; exact HBX.out.alloc HBX.out.size _)
        try rw [hW]
        try rw [hob]
        clear hW hob
        refine hK'.out _ _ ?_ (fun hSn => ?_)
        · exact HBX.out
        clear hK' K' hS
        have hS := hSn
        clear hSn
        try simp only [Act.put, pu]
        refine wpAnyH_ready (rs := [5]) (by kernel_rfl) (by simp) (AllReadyH.cons rfl (fun K' hK' => ?_) AllReadyH.nil)
        go_simp
        refine (HC2.out _).mono ?_
        rintro e w18 ⟨rfl, hb⟩
        have HOK := Lib.hid ((show Bk _ ob _ _ from HOK.out).heap (hb.block ob HOK.out.lt))
        have HBX := Lib.hid (HBX.out.trans (hb.mono HBX.out.size))
        clear hb
        refine hK'.out _ _ ?_ (fun hSn => ?_)
        · exact HBX.out
        clear hK' K' hS
        have hS := hSn
        clear hSn
        try simp only [Act.put, pu]
        refine wpAnyH_ready (rs := [10]) (by kernel_rfl) (by simp) (AllReadyH.cons rfl (fun K' hK' => ?_) AllReadyH.nil)
        go_simp
        refine (HC3.out _).mono ?_
        rintro e w19 ⟨rfl, hb⟩
        have HOK := Lib.hid ((show Bk _ ob _ _ from HOK.out).heap (hb.block ob HOK.out.lt))
        have HBX := Lib.hid (HBX.out.trans (hb.mono HBX.out.size))
        clear hb
        refine hK'.out _ _ ?_ (fun hSn => ?_)
        · exact HBX.out
        clear hK' K' hS
        have hS := hSn
        clear hSn
        try simp only [Act.put, pu]
        refine tkY 11 ?_ rfl hS ?_ ?_
        rotate_left
        · intro wz hz
          go_simp
          all_goals first | with_reducible rfl | omega
        try simp only [Act.put, pu]
        have q0 : w19.cell? ⟨ob, 0, none⟩ = some (.string ⟨#[]⟩) := HOK.out.cell 0
        have q1 : w19.cell? ⟨ob, 1, none⟩ = some (.string ⟨#[]⟩) := HOK.out.cell 1
        have q2 : w19.cell? ⟨ob, 2, none⟩ = some (.int .i64 0) := HOK.out.cell 2
        have q3 : w19.cell? ⟨ob, 3, none⟩ = some (.string ⟨#[]⟩) := HOK.out.cell 3
        have f0 := HOK.out.frozen 0
        have f1 := HOK.out.frozen 1
        have f2 := HOK.out.frozen 2
        have f3 := HOK.out.frozen 3
        refine wpAnyH_ready (rs := [13]) (by kernel_rfl) (by simp) (AllReadyH.cons rfl (fun K' hK' => ?_) AllReadyH.nil)
        go_simp
        have ks := (((HOK.out.set_ 0 (.string db)).set_ 1 (.string ro)).set_ 2 (.int .i64 fm)).set_ 3 (.string no)
        have hbs := (((HBX.out.setCell (p := ⟨ob, 0, none⟩) HOB.out (.string db)).setCell (p := ⟨ob, 1, none⟩) HOB.out (.string ro)).setCell (p := ⟨ob, 2, none⟩) HOB.out (.int .i64 fm)).setCell (p := ⟨ob, 3, none⟩) HOB.out (.string no)
        refine hK'.out _ _ ?_ (fun hSn => ?_)
        · exact hbs
        clear hK' K' hS
        have hS := hSn
        clear hSn
        try simp only [Act.put, pu]
        refine wpAnyH_done (by kernel_rfl) ?_ _
        clear hS
        go_wp2_with fail
        go_meet
        exact ⟨_, rfl, HOB.out, ks, hbs⟩
    · skip
      go_simp
      obtain ⟨w20, hW⟩ : ∃ W, (W0.alloc (.cells #[.string ⟨#[]⟩, .string ⟨#[]⟩, .int .i64 0, .string ⟨#[]⟩] 30)).drew = W := ⟨_, rfl⟩
      obtain ⟨ob, hob⟩ : ∃ b, W0.heap.size = b := ⟨_, rfl⟩
      have HOK : Hid (Bk w20 ob 30 #[.string ⟨#[]⟩, .string ⟨#[]⟩, .int .i64 0, .string ⟨#[]⟩]) := Lib.hid (by rw [← hW, ← hob]; exact (Bk.new _ _ _).drew)
      have HOB : Hid (W0.heap.size ≤ ob) := Lib.hid (Nat.le_of_eq hob)
      have HBX : Hid (Below W0.heap.size W0 w20) := Lib.hid (by rw [← hW]; exact ((Below.refl _ W0).alloc (Nat.le_refl _) _).drew)
      try rw [hW]
      try rw [hob]
      clear hW hob
      refine hK'.out _ _ ?_ (fun hSn => ?_)
      · exact HBX.out
      clear hK' K' hS
      have hS := hSn
      clear hSn
      try simp only [Act.put, pu]
      refine wpAnyH_ready (rs := [2]) (by kernel_rfl) (by simp) (AllReadyH.cons rfl (fun K' hK' => ?_) AllReadyH.nil)
      go_simp
      refine (HC1.out _).mono ?_
      rintro e w21 ⟨rfl, hb⟩
      have HOK := Lib.hid ((show Bk _ ob _ _ from HOK.out).heap (hb.block ob HOK.out.lt))
      have HBX := Lib.hid (HBX.out.trans (hb.mono HBX.out.size))
      clear hb
      refine hK'.out _ _ ?_ (fun hSn => ?_)
      · exact HBX.out
      clear hK' K' hS
      have hS := hSn
      clear hSn
      try simp only [Act.put, pu]
      refine wpAnyH_ready (rs := [5]) (by kernel_rfl) (by simp) (AllReadyH.cons rfl (fun K' hK' => ?_) AllReadyH.nil)
      go_simp
      refine (HC2.out _).mono ?_
      rintro e w22 ⟨rfl, hb⟩
      have HOK := Lib.hid ((show Bk _ ob _ _ from HOK.out).heap (hb.block ob HOK.out.lt))
      have HBX := Lib.hid (HBX.out.trans (hb.mono HBX.out.size))
      clear hb
      refine hK'.out _ _ ?_ (fun hSn => ?_)
      · exact HBX.out
      clear hK' K' hS
      have hS := hSn
      clear hSn
      try simp only [Act.put, pu]
      refine wpAnyH_ready (rs := [10]) (by kernel_rfl) (by simp) (AllReadyH.cons rfl (fun K' hK' => ?_) AllReadyH.nil)
      go_simp
      refine (HC3.out _).mono ?_
      rintro e w23 ⟨rfl, hb⟩
      have HOK := Lib.hid ((show Bk _ ob _ _ from HOK.out).heap (hb.block ob HOK.out.lt))
      have HBX := Lib.hid (HBX.out.trans (hb.mono HBX.out.size))
      clear hb
      refine hK'.out _ _ ?_ (fun hSn => ?_)
      · exact HBX.out
      clear hK' K' hS
      have hS := hSn
      clear hSn
      try simp only [Act.put, pu]
      refine tkY 11 ?_ rfl hS ?_ ?_
      rotate_left
      · intro wz hz
        go_simp
        all_goals first | with_reducible rfl | omega
      try simp only [Act.put, pu]
      have q0 : w23.cell? ⟨ob, 0, none⟩ = some (.string ⟨#[]⟩) := HOK.out.cell 0
      have q1 : w23.cell? ⟨ob, 1, none⟩ = some (.string ⟨#[]⟩) := HOK.out.cell 1
      have q2 : w23.cell? ⟨ob, 2, none⟩ = some (.int .i64 0) := HOK.out.cell 2
      have q3 : w23.cell? ⟨ob, 3, none⟩ = some (.string ⟨#[]⟩) := HOK.out.cell 3
      have f0 := HOK.out.frozen 0
      have f1 := HOK.out.frozen 1
      have f2 := HOK.out.frozen 2
      have f3 := HOK.out.frozen 3
      refine wpAnyH_ready (rs := [13]) (by kernel_rfl) (by simp) (AllReadyH.cons rfl (fun K' hK' => ?_) AllReadyH.nil)
      go_simp
      have ks := (((HOK.out.set_ 0 (.string db)).set_ 1 (.string ro)).set_ 2 (.int .i64 fm)).set_ 3 (.string no)
      have hbs := (((HBX.out.setCell (p := ⟨ob, 0, none⟩) HOB.out (.string db)).setCell (p := ⟨ob, 1, none⟩) HOB.out (.string ro)).setCell (p := ⟨ob, 2, none⟩) HOB.out (.int .i64 fm)).setCell (p := ⟨ob, 3, none⟩) HOB.out (.string no)
      refine hK'.out _ _ ?_ (fun hSn => ?_)
      · exact hbs
      clear hK' K' hS
      have hS := hSn
      clear hSn
      try simp only [Act.put, pu]
      refine wpAnyH_done (by kernel_rfl) ?_ _
      clear hS
      go_wp2_with fail
      go_meet
      exact ⟨_, rfl, HOB.out, ks, hbs⟩
  case rest =>
    obtain ⟨ob, rfl, hob, hok, hbx⟩ := hcut
    have hmm := @run_makeMap Try.prog
    have o0 : wc.cell? ⟨ob, 0, none⟩ = some (.string db) := hok.cell 0
    have o1 : wc.cell? ⟨ob, 1, none⟩ = some (.string ro) := hok.cell 1
    have o2 : wc.cell? ⟨ob, 2, none⟩ = some (.int .i64 fm) := hok.cell 2
    have o3 : wc.cell? ⟨ob, 3, none⟩ = some (.string no) := hok.cell 3
    have hB := HB0.out.trans (hbx.mono HB0.out.size)
    have hcb := H.out.below hB
    clear a0 a1 a2 a3 HC1 HC2 HC3 HKL hkb hW0
    obtain ⟨W1, hW1⟩ : ∃ W, wc.alloc (.map #[] 0) = W := ⟨_, rfl⟩
    obtain ⟨m, hm⟩ : ∃ b, wc.heap.size = b := ⟨_, rfl⟩
    have m1 : MV.MapV Try.prog 3 W1 m 0 (fun _ => none) := by rw [← hW1, ← hm]; exact MV.MapV.made _ _ wc
    have b1 : Below wc.heap.size wc W1 := by rw [← hW1]; exact (Below.refl _ _).alloc (Nat.le_refl _) _
    have s1 : W1.heap.size = wc.heap.size + 1 := by rw [← hW1]; simp
    obtain ⟨W2, hW2⟩ : ∃ W, W1.alloc (.cells #[.string db, .string ro, .int .i64 fm, .string no, .int .i64 c, .map (some m), .int .i64 0] 80) = W := ⟨_, rfl⟩
    obtain ⟨g, hg⟩ : ∃ b, W1.heap.size = b := ⟨_, rfl⟩
    have k2 : Bk W2 g 80 #[.string db, .string ro, .int .i64 fm, .string no, .int .i64 c, .map (some m), .int .i64 0] := by rw [← hW2, ← hg]; exact Bk.new _ _ _
    have b2 : Below wc.heap.size wc W2 := by rw [← hW2]; exact b1.alloc b1.size _
    have m2 : MV.MapV Try.prog 3 W2 m 0 (fun _ => none) := m1.keep (by rw [← hW2]; exact Below.heap_alloc _ _ _ m1.lt)
    have hcb2 := hcb.below b2
    have hok2 : Bk W2 ob 30 (kC (db, ro, fm, no)) := hok.heap (b2.block _ hok.lt)
    have h := H.out
    obtain ⟨w3, hrun3, hm3, ht3⟩ := (hcb2.mf.keep (w' := W2.drew) rfl).put kK Try.underlying60 (by unfold maxLen; omega) (keyK (db, ro, fm, no) HK.out) (ptr g)
    have hg3 := ht3.grown
    have hfs := h.fsb
    have e3 : ∀ b, b < W2.heap.size → b ≠ C.fb → w3.heap[b]? = W2.heap[b]? := fun b hb hne => hg3.block b hb (fun e => hne (by injection e))
    have ms3 : MV.MapV Try.prog 3 w3 C.sb N (sV C) := hcb2.ms.keep (e3 _ hcb2.ms.lt (fun e => hfs e.symm))
    obtain ⟨w4, hrun4, hm4, ht4⟩ := ms3.put iK Try.underlying61 (by unfold maxLen; omega) (keyI c ⟨by omega, hc.2⟩) (.agg #[ptr g, .int .i64 0])
    have hg4 := ht4.grown
    have e4 : ∀ b, b < w3.heap.size → b ≠ C.sb → w4.heap[b]? = w3.heap[b]? := fun b hb hne => hg4.block b hb (fun e => hne (by injection e))
    have hS3 : W2.heap.size ≤ w3.heap.size := hg3.size
    have e34 : ∀ b, b < W2.heap.size → b ≠ C.fb → b ≠ C.sb → w4.heap[b]? = W2.heap[b]? := fun b hb h1 h2 => (e4 b (Nat.lt_of_lt_of_le hb hS3) h2).trans (e3 b hb h1)
    have hfl := h.mf.lt
    have hsl := h.ms.lt
    have hgl : w.heap.size ≤ g := by rw [← hg, s1]; have := hB.size; omega
    have hml : w.heap.size ≤ m := by rw [← hm]; exact hB.size
    have hBW : Below w.heap.size w W2 := hB.trans (b2.mono hB.size)
    have hc4 : Chg (fun b => b = C.fb ∨ b = C.sb) w w4 := ((Chg.of_below hBW).drew.grown hg3 (fun k hk _ => by injection hk with hk; exact .inl hk.symm)).grown hg4 (fun k hk _ => by injection hk with hk; exact .inr hk.symm)
    have row : RowP w4 (N + 1) (db, ro, fm, no) ⟨c, [], 0, g, m⟩ := by
      refine ⟨k2.heap (e34 _ k2.lt (by omega) (by omega)), (m2.keep (e34 _ m2.lt (by omega) (by omega))).congr fun kl => ?_, List.Pairwise.nil, fun p hp => (by cases hp), Nat.zero_le _⟩
      unfold MV.fI
      cases kl with
      | int q n => cases q <;> rfl
      | _ => rfl
    have hst : StP w a (N + 1) C (openS S (db, ro, fm, no) c) w4 := by
      have hfn := h.find_none hF
      refine ⟨C.alt (db, ro, fm, no) (some ⟨c, [], 0, g, m⟩) (openZ C c (g, 0)), h.alt (Nat.le_succ N) _ _ _ (hc4.block _ h.bk.lt ?_) ?_ ?_ (fun x r hx hr => ⟨hc4.block _ (h.row x r hr).lt.1 ?_, hc4.block _ (h.row x r hr).lt.2 ?_⟩) (fun r hr => ?_) (fun x p => open_z h hF hZ g m x p) (fun x => ?_) (h.wf.opened hfn HK.out hc) (fun r hr => ?_), hc4.mono (fun b _ hb => ?_), fun b hb => ?_⟩
      · rintro (e | e)
        · exact h.not_a (.inl e)
        · exact h.not_a (.inr (.inl e))
      · exact (hm3.keep (e4 _ hm3.lt hfs)).congr fun kl => fV_alt HK.out (some ⟨c, [], 0, g, m⟩) _ kl
      · exact hm4.congr fun kl => sV_put _ (g, 0) kl
      · rintro (e | e)
        · exact (h.gfs hr).1 e
        · exact (h.gfs hr).2 e
      · rintro (e | e)
        · exact (h.mo x r hr).1 e
        · exact (h.mo x r hr).2 e
      · injection hr with hr; rw [← hr]; exact row
      · rw [findF_open hfn]; rfl
      · injection hr with hr
        rw [← hr]
        refine ⟨by show m ≠ C.fb; omega, by show m ≠ C.sb; omega, fun x r' _ hx => ?_⟩
        have := (h.row x r' hx).lt.2
        show m ≠ r'.m
        omega
      · rcases hb with e | e
        · exact .inl e
        · exact .inr (.inl e)
      · rcases Bs.alt_own hb with hb | ⟨r, hr, hb⟩
        · exact .inl hb
        · injection hr with hr
          rw [← hr] at hb
          rcases hb with rfl | rfl
          · exact .inr hgl
          · exact .inr hml
    obtain ⟨d0, d1, d2⟩ := hcb2.cells
    have p0 : W2.cell? ⟨ob, 0, none⟩ = some (.string db) := hok2.cell 0
    have p1 : W2.cell? ⟨ob, 1, none⟩ = some (.string ro) := hok2.cell 1
    have p2 : W2.cell? ⟨ob, 2, none⟩ = some (.int .i64 fm) := hok2.cell 2
    have p3 : W2.cell? ⟨ob, 3, none⟩ = some (.string no) := hok2.cell 3
    have dd : w3.cell? ⟨a, 2, none⟩ = some (.map (some C.sb)) := (Bk.heap hcb2.bk (e3 _ hcb2.bk.lt (fun e => hcb2.not_a (.inl e)))).cell 2
    have dd1 : w3.cell? ⟨a, 1, none⟩ = some (.map (some C.fb)) := (Bk.heap hcb2.bk (e3 _ hcb2.bk.lt (fun e => hcb2.not_a (.inl e)))).cell 1
    have hobf : ob ≠ C.fb := by have := HB0.out.size; omega
    have kk3 := hok2.heap (e3 _ hok2.lt hobf)
    have pp0 : w3.cell? ⟨ob, 0, none⟩ = some (.string db) := kk3.cell 0
    have pp1 : w3.cell? ⟨ob, 1, none⟩ = some (.string ro) := kk3.cell 1
    have pp2 : w3.cell? ⟨ob, 2, none⟩ = some (.int .i64 fm) := kk3.cell 2
    have pp3 : w3.cell? ⟨ob, 3, none⟩ = some (.string no) := kk3.cell 3
    have HST := Lib.hid hst
    clear kk3 hobf h hst row hc4 hBW hml hgl hsl hfl e34 hS3 e4 hg4 hm4 ht4 ms3 e3 hfs hg3 hm3 ht3 hcb2 hok2 m2 b2 k2 s1 b1 m1 hcb hB hok hob hbx hF hZ hN hc d0
    go_wp2_with fail
    try rw [hW1]
    try rw [hm]
    try rw [hW2]
    try rw [hg]
    clear hW1 hm hW2 hg
    refine wp_region_held_drew (S := (fun w' => w'.cell? ⟨a, 1, none⟩ = some (.map (some C.fb)) ∧ w'.cell? ⟨ob, 0, none⟩ = some (.string db) ∧ w'.cell? ⟨ob, 1, none⟩ = some (.string ro) ∧ w'.cell? ⟨ob, 2, none⟩ = some (.int .i64 fm) ∧ w'.cell? ⟨ob, 3, none⟩ = some (.string no))) (by kernel_rfl) ?_ (fun hS => ?_)
    · exact ⟨d1, p0, p1, p2, p3⟩
    refine tkY 0 ?_ rfl hS ?_ ?_
    rotate_left
    · intro wz hz
      obtain ⟨z1, z2, z3, z4, z5⟩ := hz
      go_simp
      all_goals first | with_reducible rfl | omega
    try simp only [Act.put, pu]
    refine tkY 1 ?_ rfl hS ?_ ?_
    rotate_left
    · intro wz hz
      obtain ⟨z1, z2, z3, z4, z5⟩ := hz
      go_simp
      all_goals first | with_reducible rfl | omega
    try simp only [Act.put, pu]
    refine tkY 2 ?_ rfl hS ?_ ?_
    rotate_left
    · intro wz hz
      obtain ⟨z1, z2, z3, z4, z5⟩ := hz
      go_simp
      all_goals first | with_reducible rfl | omega
    try simp only [Act.put, pu]
    refine tkY 3 ?_ rfl hS ?_ ?_
    rotate_left
    · intro wz hz
      obtain ⟨z1, z2, z3, z4, z5⟩ := hz
      go_simp
      all_goals first | with_reducible rfl | omega
    try simp only [Act.put, pu]
    refine tkY 4 ?_ rfl hS ?_ ?_
    rotate_left
    · intro wz hz
      obtain ⟨z1, z2, z3, z4, z5⟩ := hz
      go_simp
      all_goals first | with_reducible rfl | omega
    try simp only [Act.put, pu]
    refine tkY 5 ?_ rfl hS ?_ ?_
    rotate_left
    · intro wz hz
      obtain ⟨z1, z2, z3, z4, z5⟩ := hz
      go_simp
      all_goals first | with_reducible rfl | omega
    try simp only [Act.put, pu]
    refine wpAnyH_ready (rs := [6]) (by kernel_rfl) (by simp) (AllReadyH.cons rfl (fun K' hK' => ?_) AllReadyH.nil)
    go_simp

    refine hK'.out _ _ ?_ (fun hSn => ?_)
    · exact ⟨dd1, pp0, pp1, pp2, pp3⟩
    clear hK' K' hS
    have hS := hSn
    clear hSn
    try simp only [Act.put, pu]
    refine wpAnyH_done (by kernel_rfl) ?_ _
    clear hS
    go_wp2
    first | go_end0 | (refine bodyPost_ret (v := .tuple #[]) (by simp [results, Try.results27, go_sem]) rfl ?_)
    exact ⟨rfl, HST.out⟩
end Go.Proofs.Ytldpamlmnganmaa.FL
