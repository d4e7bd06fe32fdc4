/- Package sess, its code: Step. Conditions: few keys; what is laid. -/
import Derived.Test.YtpnjjllkbnmakaaDoorSyd
import Derived.Deep.CutRange
import Derived.BigQuiet
namespace Go.Proofs.YtpnjjllkbnmakaaDoor.SE
open Go.ChangeShapes Go.WideShapes Go.ChangeAt Go.RowKit
open Go.Proofs.YtpnjjllkbnmakaaDoor.SL
open Go.Proofs.YtpnjjllkbnmakaaDoor.PP (tkY tkN pu)
set_option maxRecDepth 100000
set_option linter.unusedVariables false
set_option linter.unusedSimpArgs false

theorem step_nb {w : World} {z v : Value} (h : Nb w z) {z9 : Nat} {a : Ak} (hA : AkR z9 w v a) : Calls Tryd.prog 9 #[z, v] w fun e w' => e = .returned (.tuple #[nV 0, nV 12]) ∧ Below w.heap.size w w' := by
  obtain ⟨n, po, sq, kv, vv, av, nv, fv, m, wh, pid, sec, rfl, hk, hv, hz, ⟨A3, n3, c3, rfl⟩, ⟨A4, n4, c4, rfl⟩, ⟨A5, n5, c5, rfl⟩⟩ := hA
  obtain ⟨A1, c1, rfl⟩ := hk.ts.form
  obtain ⟨A2, c2, rfl⟩ := hv.ts.form
  obtain ⟨ak, hak⟩ : ∃ x, a.k = x := ⟨_, rfl⟩
  obtain ⟨ac, hac⟩ : ∃ x, a.c = x := ⟨_, rfl⟩
  obtain ⟨n1, hn1⟩ : ∃ x, a.ks.length = x := ⟨_, rfl⟩
  obtain ⟨n2, hn2⟩ : ∃ x, a.vs.length = x := ⟨_, rfl⟩
  rw [hak, hac, hn1, hn2]
  rw [hn1] at hk
  rw [hn2] at hv
  obtain ⟨W1, hW1⟩ : ∃ W, w.alloc (.cells #[.int .u8 ak, .string n, .string po, .string sq, .slice A1 n1 c1, .slice A2 n2 c2, .slice A3 n3 c3, .slice A4 n4 c4, .slice A5 n5 c5, nV m, .int .u8 wh, .bool ac, nV pid, nV sec] 32) = W := ⟨_, rfl⟩
  obtain ⟨q, hq⟩ : ∃ b, w.heap.size = b := ⟨_, rfl⟩
  have hb1 : Below w.heap.size w W1 := by rw [← hW1]; exact (Below.refl _ _).alloc (Nat.le_refl _) _
  have k1 : Bk W1 q 32 #[.int .u8 ak, .string n, .string po, .string sq, .slice A1 n1 c1, .slice A2 n2 c2, .slice A3 n3 c3, .slice A4 n4 c4, .slice A5 n5 c5, nV m, .int .u8 wh, .bool ac, nV pid, nV sec] := by rw [← hW1, ← hq]; exact Bk.new _ _ _
  have x0 := k1.cell 0
  have x1 := k1.cell 1
  have x2 := k1.cell 2
  have x3 := k1.cell 3
  have x4 := k1.cell 4
  have x5 := k1.cell 5
  have x6 := k1.cell 6
  have x7 := k1.cell 7
  have x8 := k1.cell 8
  have x9 := k1.cell 9
  have x10 := k1.cell 10
  have x11 := k1.cell 11
  have x12 := k1.cell 12
  have x13 := k1.cell 13
  simp at x0 x1 x2 x3 x4 x5 x6 x7 x8 x9 x10 x11 x12 x13
  have hA1 : AkR z9 W1 (.agg #[.int .u8 ak, .string n, .string po, .string sq, .slice A1 n1 c1, .slice A2 n2 c2, .slice A3 n3 c3, .slice A4 n4 c4, .slice A5 n5 c5, nV m, .int .u8 wh, .bool ac, nV pid, nV sec]) a := ⟨n, po, sq, _, _, _, _, _, m, wh, pid, sec, by rw [hak, hac], hk.below hb1, hv.below hb1, hz, ⟨_, _, _, rfl⟩, ⟨_, _, _, rfl⟩, ⟨_, _, _, rfl⟩⟩
  have HB1 := Lib.hid hb1
  have hG := given_no (h.below hb1)
  clear h hA1 hk hv hz k1 hb1
  go_enter Tryd.func9, Tryd.ntmps9
  go_wp2_with (go_at_call 24; refine hG.mono ?_; rintro e w' ⟨rfl, rfl⟩)
  go_ret2
  exact ⟨rfl, by first | exact HB1.out | (rw [← hq]; exact HB1.out)⟩
set_option maxHeartbeats 8000000 in
theorem step_any {w : World} {z9 : Nat} {S : St} (h : Sx w z9 S) (v : Value) (a : Ak) (hA : AkR z9 w v a) (hl : Lt a) (hr : Ru z9 w) :
    Calls Tryd.prog 9 #[ptr z9, v] w fun e w' => e = .returned (.tuple #[nV (stepD S a), nV (stepE S a)]) ∧ StP z9 w w' (stepS S a) := by
  obtain ⟨n, po, sq, kv, vv, av, nv, fv, m, wh, pid, sec, rfl, hk, hv, hz, ⟨A3, n3, c3, rfl⟩, ⟨A4, n4, c4, rfl⟩, ⟨A5, n5, c5, rfl⟩⟩ := hA
  obtain ⟨A1, c1, rfl⟩ := hk.ts.form
  obtain ⟨A2, c2, rfl⟩ := hv.ts.form
  obtain ⟨ak, hak⟩ : ∃ x, a.k = x := ⟨_, rfl⟩
  obtain ⟨ac, hac⟩ : ∃ x, a.c = x := ⟨_, rfl⟩
  obtain ⟨n1, hn1⟩ : ∃ x, a.ks.length = x := ⟨_, rfl⟩
  obtain ⟨n2, hn2⟩ : ∃ x, a.vs.length = x := ⟨_, rfl⟩
  rw [hak, hac, hn1, hn2]
  rw [hn1] at hk
  rw [hn2] at hv
  obtain ⟨W1, hW1⟩ : ∃ W, w.alloc (.cells #[.int .u8 ak, .string n, .string po, .string sq, .slice A1 n1 c1, .slice A2 n2 c2, .slice A3 n3 c3, .slice A4 n4 c4, .slice A5 n5 c5, nV m, .int .u8 wh, .bool ac, nV pid, nV sec] 32) = W := ⟨_, rfl⟩
  obtain ⟨q, hq⟩ : ∃ b, w.heap.size = b := ⟨_, rfl⟩
  have hb1 : Below w.heap.size w W1 := by rw [← hW1]; exact (Below.refl _ _).alloc (Nat.le_refl _) _
  have k1 : Bk W1 q 32 #[.int .u8 ak, .string n, .string po, .string sq, .slice A1 n1 c1, .slice A2 n2 c2, .slice A3 n3 c3, .slice A4 n4 c4, .slice A5 n5 c5, nV m, .int .u8 wh, .bool ac, nV pid, nV sec] := by rw [← hW1, ← hq]; exact Bk.new _ _ _
  have x0 := k1.cell 0
  have x1 := k1.cell 1
  have x2 := k1.cell 2
  have x3 := k1.cell 3
  have x4 := k1.cell 4
  have x5 := k1.cell 5
  have x6 := k1.cell 6
  have x7 := k1.cell 7
  have x8 := k1.cell 8
  have x9 := k1.cell 9
  have x10 := k1.cell 10
  have x11 := k1.cell 11
  have x12 := k1.cell 12
  have x13 := k1.cell 13
  simp at x0 x1 x2 x3 x4 x5 x6 x7 x8 x9 x10 x11 x12 x13
  have hA1 : AkR z9 W1 (.agg #[.int .u8 ak, .string n, .string po, .string sq, .slice A1 n1 c1, .slice A2 n2 c2, .slice A3 n3 c3, .slice A4 n4 c4, .slice A5 n5 c5, nV m, .int .u8 wh, .bool ac, nV pid, nV sec]) a := ⟨n, po, sq, _, _, _, _, _, m, wh, pid, sec, by rw [hak, hac], hk.below hb1, hv.below hb1, hz, ⟨_, _, _, rfl⟩, ⟨_, _, _, rfl⟩, ⟨_, _, _, rfl⟩⟩
  have HB1 := Lib.hid hb1
  have hS1 := h.below hb1
  have hr1 := hr.below hb1
  obtain ⟨s0, s1, s2, s3⟩ := hS1.cells
  have hG := given_yes W1 z9 s0
  have HS1 : Hid (Sx W1 z9 S) := Lib.hid hS1
  have HL1 : Hid (z9 < W1.heap.size) := Lib.hid hS1.1.lt
  have HL2 : Hid (q < W1.heap.size) := Lib.hid k1.lt
  have HKQ := Lib.hid k1
  have HA := Lib.hid hA1
  have HLT := Lib.hid hl
  have hus : a.user.size ≤ 140737488351232 := valL_size _ _ _ hz
  have hds : (valL dbT a.ks a.vs).size ≤ 140737488351232 := valL_size _ _ _ hz
  have HU := Lib.hid hus
  have HDS := Lib.hid hds
  have HSaid : Hid (∀ W, Below W1.heap.size W1 W → Calls Tryd.prog 26 #[.agg #[.int .u8 ak, .string n, .string po, .string sq, .slice A1 n1 c1, .slice A2 n2 c2, .slice A3 n3 c3, .slice A4 n4 c4, .slice A5 n5 c5, nV m, .int .u8 wh, .bool ac, nV pid, nV sec]] W fun e w' => e = .returned (nV (saidN a)) ∧ Below W.heap.size W w') := Lib.hid fun W hb => saidBy_any _ a W (hA1.below hb) hl
  have HRule : Hid (∀ W, Below W1.heap.size W1 W → Calls Tryd.prog 25 #[nV (S.p : Int), nV (saidN a)] W fun e w' => e = .returned (.agg #[nV (ruleP S.p (saidN a)).1, nV (ruleP S.p (saidN a)).2.1, nV (ruleP S.p (saidN a)).2.2.1, nV (ruleP S.p (saidN a)).2.2.2]) ∧ Below W.heap.size W w') := Lib.hid fun W hb => ruleOf_any S.p h.2 (saidN a) W (hr1.below hb)
  have hth := ruleP_then S.p h.2 (saidN a)
  unfold stepD stepE stepS
  generalize saidN a = sn at *
  obtain ⟨⟨r0, r1, r2, r3⟩, hR⟩ : ∃ r, ruleP S.p sn = r := ⟨_, rfl⟩
  rw [hR] at HRule hth ⊢
  clear hR
  simp only at hth
  obtain ⟨t, rfl⟩ : ∃ t : Nat, r2 = (t : Int) := ⟨r2.toNat, by omega⟩
  have HT : Hid (t < 7) := Lib.hid (by omega)
  have tt : ((t : Int)).toNat = t := rfl
  simp only [tt]
  obtain ⟨SR, hSR⟩ : ∃ x, (if r1 = 1 then (⟨t, a.user, a.db⟩ : St) else ⟨t, S.u, S.d⟩) = x := ⟨_, rfl⟩
  rw [hSR]
  have HSR := Lib.hid hSR
  have HW : Hid (∀ {w2 : World} {S2 : St}, StP z9 W1 w2 S2 → StP z9 w w2 S2) := Lib.hid fun k => ⟨(Chg.of_below HB1.out).trans k.1, k.2⟩
  clear hA1 hk hv hz k1 hb1 hS1 hr1 hr h hl hth tt hus hds s0 s2 s3 hSR
  have p1 : IntKind.i64.wrap 0 = 0 := by decide
  clear p1
  go_enter Tryd.func9, Tryd.ntmps9
  go_upto_region 3 with (go_at_call 24; refine hG.mono ?_; rintro e w' ⟨rfl, rfl⟩)
  go_cut [6] from 10 to 17 (fun s6 wx => ∃ ob, s6 = ptr ob ∧ W1.heap.size ≤ ob ∧ Bk wx ob 52 #[nV r0, nV r1, nV (t : Int), nV r3] ∧ Below W1.heap.size W1 wx)
  case first =>
    refine wp_region_held_drew (S := (fun w' => Below W1.heap.size W1 w')) (by kernel_rfl) ?_ (fun hS => ?_)
    · exact (Below.refl _ _).drew
    refine tkY 0 ?_ rfl hS ?_ ?_
    rotate_left
    · intro wz hz
      go_simp
      all_goals first | with_reducible rfl | omega
    try simp only [Act.put, pu]
    refine tkY 1 ?_ rfl hS ?_ ?_
    rotate_left
    · intro wz hz
      go_simp
      all_goals first | with_reducible rfl | omega
    try simp only [Act.put, pu]
    refine tkY 2 ?_ rfl hS ?_ ?_
    rotate_left
    · intro wz hz
      go_simp
      all_goals first | with_reducible rfl | omega
    try simp only [Act.put, pu]
    refine tkY 3 ?_ rfl hS ?_ ?_
    rotate_left
    · intro wz hz
      have y1 := (hz.cell (p := ⟨z9, 1, none⟩) HL1.out).trans s1
      go_simp
      all_goals first | with_reducible rfl | omega
    try simp only [Act.put, pu]
    refine tkY 4 ?_ rfl hS ?_ ?_
    rotate_left
    · intro wz hz
      have y0 := (hz.cell (p := ⟨q, 0, none⟩) HL2.out).trans x0
      have y1 := (hz.cell (p := ⟨q, 1, none⟩) HL2.out).trans x1
      have y2 := (hz.cell (p := ⟨q, 2, none⟩) HL2.out).trans x2
      have y3 := (hz.cell (p := ⟨q, 3, none⟩) HL2.out).trans x3
      have y4 := (hz.cell (p := ⟨q, 4, none⟩) HL2.out).trans x4
      have y5 := (hz.cell (p := ⟨q, 5, none⟩) HL2.out).trans x5
      have y6 := (hz.cell (p := ⟨q, 6, none⟩) HL2.out).trans x6
      have y7 := (hz.cell (p := ⟨q, 7, none⟩) HL2.out).trans x7
      have y8 := (hz.cell (p := ⟨q, 8, none⟩) HL2.out).trans x8
      have y9 := (hz.cell (p := ⟨q, 9, none⟩) HL2.out).trans x9
      have y10 := (hz.cell (p := ⟨q, 10, none⟩) HL2.out).trans x10
      have y11 := (hz.cell (p := ⟨q, 11, none⟩) HL2.out).trans x11
      have y12 := (hz.cell (p := ⟨q, 12, none⟩) HL2.out).trans x12
      have y13 := (hz.cell (p := ⟨q, 13, none⟩) HL2.out).trans x13
      go_simp
      all_goals first | with_reducible rfl | omega
    try simp only [Act.put, pu]
    have hbx : Below W1.heap.size W1 W1.drew := (Below.refl _ _).drew
    have HBX := Lib.hid hbx
    clear hbx
    refine wpAnyH_ready (rs := [5, 7]) (by kernel_rfl) (by simp) (AllReadyH.cons rfl (fun K' hK' => ?_) (AllReadyH.cons rfl (fun K' hK' => ?_) AllReadyH.nil))
    · skip
      go_simp
      refine (HSaid.out _ HBX.out).mono ?_
      rintro e w11 ⟨rfl, hb⟩
      have HBX := Lib.hid (HBX.out.trans (hb.mono HBX.out.size))
      clear hb
      refine hK'.out _ _ ?_ (fun hSn => ?_)
      · exact HBX.out
      clear hK' K' hS
      have hS := hSn
      clear hSn
      try simp only [Act.put, pu]
      refine wpAnyH_ready (rs := [6, 7]) (by kernel_rfl) (by simp) (AllReadyH.cons rfl (fun K' hK' => ?_) (AllReadyH.cons rfl (fun K' hK' => ?_) AllReadyH.nil))
      · skip
        go_simp
        refine (HRule.out _ HBX.out).mono ?_
        rintro e w12 ⟨rfl, hb⟩
        have HBX := Lib.hid (HBX.out.trans (hb.mono HBX.out.size))
        clear hb
        refine hK'.out _ _ ?_ (fun hSn => ?_)
        · exact HBX.out
        clear hK' K' hS
        have hS := hSn
        clear hSn
        try simp only [Act.put, pu]
        refine wpAnyH_ready (rs := [7]) (by kernel_rfl) (by simp) (AllReadyH.cons rfl (fun K' hK' => ?_) AllReadyH.nil)
        go_simp
        obtain ⟨w13, hW⟩ : ∃ W, (w12).alloc (.cells #[nV 0, nV 0, nV 0, nV 0] 52) = W := ⟨_, rfl⟩
        obtain ⟨ob, hob⟩ : ∃ b, (w12).heap.size = b := ⟨_, rfl⟩
        have HOK : Hid (Bk w13 ob 52 #[nV 0, nV 0, nV 0, nV 0]) := Lib.hid (by rw [← hW, ← hob]; exact Bk.new _ _ _)
        have HOB : Hid (W1.heap.size ≤ ob) := Lib.hid (by rw [← hob]; exact HBX.out.size)
        have HBX : Hid (Below W1.heap.size W1 w13) := Lib.hid (by rw [← hW]; exact HBX.out.alloc HBX.out.size _)
        try rw [hW]
        try rw [hob]
        clear hW hob
        refine hK'.out _ _ ?_ (fun hSn => ?_)
        · exact HBX.out
        clear hK' K' hS
        have hS := hSn
        clear hSn
        try simp only [Act.put, pu]
        have q0 : w13.cell? ⟨ob, 0, none⟩ = some (nV 0) := HOK.out.cell 0
        have q1 : w13.cell? ⟨ob, 1, none⟩ = some (nV 0) := HOK.out.cell 1
        have q2 : w13.cell? ⟨ob, 2, none⟩ = some (nV 0) := HOK.out.cell 2
        have q3 : w13.cell? ⟨ob, 3, none⟩ = some (nV 0) := HOK.out.cell 3
        have f0 := HOK.out.frozen 0
        have f1 := HOK.out.frozen 1
        have f2 := HOK.out.frozen 2
        have f3 := HOK.out.frozen 3
        refine wpAnyH_ready (rs := [8]) (by kernel_rfl) (by simp) (AllReadyH.cons rfl (fun K' hK' => ?_) AllReadyH.nil)
        go_simp
        have ks := (((HOK.out.set_ 0 (nV r0)).set_ 1 (nV r1)).set_ 2 (nV (t : Int))).set_ 3 (nV r3)
        have hbs := (((HBX.out.setCell (p := ⟨ob, 0, none⟩) HOB.out (nV r0)).setCell (p := ⟨ob, 1, none⟩) HOB.out (nV r1)).setCell (p := ⟨ob, 2, none⟩) HOB.out (nV (t : Int))).setCell (p := ⟨ob, 3, none⟩) HOB.out (nV r3)
        refine hK'.out _ _ ?_ (fun hSn => ?_)
        · exact hbs
        clear hK' K' hS
        have hS := hSn
        clear hSn
        try simp only [Act.put, pu]
        refine wpAnyH_done (by kernel_rfl) ?_ _
        clear hS
        go_wp2_with fail
        go_meet
        exact ⟨_, rfl, HOB.out, ks, hbs⟩
      · skip
        go_simp
        obtain ⟨w14, hW⟩ : ∃ W, (w11).alloc (.cells #[nV 0, nV 0, nV 0, nV 0] 52) = W := ⟨_, rfl⟩
        obtain ⟨ob, hob⟩ : ∃ b, (w11).heap.size = b := ⟨_, rfl⟩
        have HOK : Hid (Bk w14 ob 52 #[nV 0, nV 0, nV 0, nV 0]) := Lib.hid (by rw [← hW, ← hob]; exact Bk.new _ _ _)
        have HOB : Hid (W1.heap.size ≤ ob) := Lib.hid (by rw [← hob]; exact HBX.out.size)
        have HBX : Hid (Below W1.heap.size W1 w14) := Lib.hid (by rw [← hW]; exact HBX.out.alloc HBX.out.size _)
        try rw [hW]
        try rw [hob]
        clear hW hob
        refine hK'.out _ _ ?_ (fun hSn => ?_)
        · exact HBX.out
        clear hK' K' hS
        have hS := hSn
        clear hSn
        try simp only [Act.put, pu]
        refine wpAnyH_ready (rs := [6]) (by kernel_rfl) (by simp) (AllReadyH.cons rfl (fun K' hK' => ?_) AllReadyH.nil)
        go_simp
        refine (HRule.out _ HBX.out).mono ?_
        rintro e w15 ⟨rfl, hb⟩
        have HOK := Lib.hid ((show Bk _ ob _ _ from HOK.out).heap (hb.block ob HOK.out.lt))
        have HBX := Lib.hid (HBX.out.trans (hb.mono HBX.out.size))
        clear hb
        refine hK'.out _ _ ?_ (fun hSn => ?_)
        · exact HBX.out
        clear hK' K' hS
        have hS := hSn
        clear hSn
        try simp only [Act.put, pu]
        have q0 : w15.cell? ⟨ob, 0, none⟩ = some (nV 0) := HOK.out.cell 0
        have q1 : w15.cell? ⟨ob, 1, none⟩ = some (nV 0) := HOK.out.cell 1
        have q2 : w15.cell? ⟨ob, 2, none⟩ = some (nV 0) := HOK.out.cell 2
        have q3 : w15.cell? ⟨ob, 3, none⟩ = some (nV 0) := HOK.out.cell 3
        have f0 := HOK.out.frozen 0
        have f1 := HOK.out.frozen 1
        have f2 := HOK.out.frozen 2
        have f3 := HOK.out.frozen 3
        refine wpAnyH_ready (rs := [8]) (by kernel_rfl) (by simp) (AllReadyH.cons rfl (fun K' hK' => ?_) AllReadyH.nil)
        go_simp
        have ks := (((HOK.out.set_ 0 (nV r0)).set_ 1 (nV r1)).set_ 2 (nV (t : Int))).set_ 3 (nV r3)
        have hbs := (((HBX.out.setCell (p := ⟨ob, 0, none⟩) HOB.out (nV r0)).setCell (p := ⟨ob, 1, none⟩) HOB.out (nV r1)).setCell (p := ⟨ob, 2, none⟩) HOB.out (nV (t : Int))).setCell (p := ⟨ob, 3, none⟩) HOB.out (nV r3)
        refine hK'.out _ _ ?_ (fun hSn => ?_)
        · exact hbs
        clear hK' K' hS
        have hS := hSn
        clear hSn
        try simp only [Act.put, pu]
        refine wpAnyH_done (by kernel_rfl) ?_ _
        clear hS
        go_wp2_with fail
        go_meet
        exact ⟨_, rfl, HOB.out, ks, hbs⟩
    · skip
      go_simp
      obtain ⟨w16, hW⟩ : ∃ W, (W1.alloc (.cells #[nV 0, nV 0, nV 0, nV 0] 52)).drew = W := ⟨_, rfl⟩
      obtain ⟨ob, hob⟩ : ∃ b, W1.heap.size = b := ⟨_, rfl⟩
      have HOK : Hid (Bk w16 ob 52 #[nV 0, nV 0, nV 0, nV 0]) := Lib.hid (by rw [← hW, ← hob]; exact (Bk.new _ _ _).drew)
      have HOB : Hid (W1.heap.size ≤ ob) := Lib.hid (Nat.le_of_eq hob)
      have HBX : Hid (Below W1.heap.size W1 w16) := Lib.hid (by rw [← hW]; exact ((Below.refl _ W1).alloc (Nat.le_refl _) _).drew)
      try rw [hW]
      try rw [hob]
      clear hW hob
      refine hK'.out _ _ ?_ (fun hSn => ?_)
      · exact HBX.out
      clear hK' K' hS
      have hS := hSn
      clear hSn
      try simp only [Act.put, pu]
      refine wpAnyH_ready (rs := [5]) (by kernel_rfl) (by simp) (AllReadyH.cons rfl (fun K' hK' => ?_) AllReadyH.nil)
      go_simp
      refine (HSaid.out _ HBX.out).mono ?_
      rintro e w17 ⟨rfl, hb⟩
      have HOK := Lib.hid ((show Bk _ ob _ _ from HOK.out).heap (hb.block ob HOK.out.lt))
      have HBX := Lib.hid (HBX.out.trans (hb.mono HBX.out.size))
      clear hb
      refine hK'.out _ _ ?_ (fun hSn => ?_)
      · exact HBX.out
      clear hK' K' hS
      have hS := hSn
      clear hSn
      try simp only [Act.put, pu]
      refine wpAnyH_ready (rs := [6]) (by kernel_rfl) (by simp) (AllReadyH.cons rfl (fun K' hK' => ?_) AllReadyH.nil)
      go_simp
      refine (HRule.out _ HBX.out).mono ?_
      rintro e w18 ⟨rfl, hb⟩
      have HOK := Lib.hid ((show Bk _ ob _ _ from HOK.out).heap (hb.block ob HOK.out.lt))
      have HBX := Lib.hid (HBX.out.trans (hb.mono HBX.out.size))
      clear hb
      refine hK'.out _ _ ?_ (fun hSn => ?_)
      · exact HBX.out
      clear hK' K' hS
      have hS := hSn
      clear hSn
      try simp only [Act.put, pu]
      have q0 : w18.cell? ⟨ob, 0, none⟩ = some (nV 0) := HOK.out.cell 0
      have q1 : w18.cell? ⟨ob, 1, none⟩ = some (nV 0) := HOK.out.cell 1
      have q2 : w18.cell? ⟨ob, 2, none⟩ = some (nV 0) := HOK.out.cell 2
      have q3 : w18.cell? ⟨ob, 3, none⟩ = some (nV 0) := HOK.out.cell 3
      have f0 := HOK.out.frozen 0
      have f1 := HOK.out.frozen 1
      have f2 := HOK.out.frozen 2
      have f3 := HOK.out.frozen 3
      refine wpAnyH_ready (rs := [8]) (by kernel_rfl) (by simp) (AllReadyH.cons rfl (fun K' hK' => ?_) AllReadyH.nil)
      go_simp
      have ks := (((HOK.out.set_ 0 (nV r0)).set_ 1 (nV r1)).set_ 2 (nV (t : Int))).set_ 3 (nV r3)
      have hbs := (((HBX.out.setCell (p := ⟨ob, 0, none⟩) HOB.out (nV r0)).setCell (p := ⟨ob, 1, none⟩) HOB.out (nV r1)).setCell (p := ⟨ob, 2, none⟩) HOB.out (nV (t : Int))).setCell (p := ⟨ob, 3, none⟩) HOB.out (nV r3)
      refine hK'.out _ _ ?_ (fun hSn => ?_)
      · exact hbs
      clear hK' K' hS
      have hS := hSn
      clear hSn
      try simp only [Act.put, pu]
      refine wpAnyH_done (by kernel_rfl) ?_ _
      clear hS
      go_wp2_with fail
      go_meet
      exact ⟨_, rfl, HOB.out, ks, hbs⟩
  case rest =>
    obtain ⟨ob, rfl, hob, kz, hbx⟩ := hcut
    have o1 : wc.cell? ⟨ob, 1, none⟩ = some (nV r1) := kz.cell 1
    have hSc := HS1.out.below hbx
    have hno : ob ≠ z9 := fun e => by have := HL1.out; omega
    have HNO := Lib.hid hno
    by_cases e1 : r1 = 1
    · have E1 := Lib.hid e1
      have e2 : (r1 == 1) = true := by rw [e1]; rfl
      have HR1 : Hid (Ending.returned (.tuple #[nV 1, nV r3]) = Ending.returned (.tuple #[nV r1, nV r3])) := Lib.hid (by rw [e1])
      have HAc := HA.out.below hbx
      have kq := (HKQ.out.heap (hbx.block q HKQ.out.lt))
      clear s1 hG hob HB1 x0 x1 x2 x3 x4 x5 x6 x7 x8 x9 x10 x11 x12 x13
      have x0 := kq.cell 0
      have x1 := kq.cell 1
      have x2 := kq.cell 2
      have x3 := kq.cell 3
      have x4 := kq.cell 4
      have x5 := kq.cell 5
      have x6 := kq.cell 6
      have x7 := kq.cell 7
      have x8 := kq.cell 8
      have x9 := kq.cell 9
      have x10 := kq.cell 10
      have x11 := kq.cell 11
      have x12 := kq.cell 12
      have x13 := kq.cell 13
      simp at x0 x1 x2 x3 x4 x5 x6 x7 x8 x9 x10 x11 x12 x13
      have hbxH := Lib.hid hbx
      have KQ := Lib.hid kq
      have KZ := Lib.hid kz
      have SC := Lib.hid hSc
      have AC := Lib.hid HAc
      clear hbx kq kz hSc HAc hno
      go_wp2_with fail
      refine (valOf_any _ a userT wc AC.out HLT.out).mono ?_
      rintro e w3 ⟨rfl, hb3⟩
      have HB3 := Lib.hid hb3
      clear hb3 o1
      go_wp2_with fail
      refine (clone_any _ w3 (Nat.le_trans HU.out (by omega))).mono ?_
      rintro e w4 ⟨rfl, hb4⟩
      have HB4 : Hid (Below wc.heap.size wc w4) := Lib.hid (HB3.out.trans (hb4.mono HB3.out.size))
      have hS4 := SC.out.below HB4.out
      have f2 := hS4.1.frozen 2
      have s2 := hS4.cells.2.2.1
      obtain ⟨us, hus⟩ : ∃ x, a.user = x := ⟨_, rfl⟩
      have hus2 : valL userT a.ks a.vs = us := hus
      have HUS := Lib.hid hus
      obtain ⟨W5, hW5⟩ : ∃ W, w4.setCell ⟨z9, 2, none⟩ (.string us) = W := ⟨_, rfl⟩
      have H5 : Hid (StP z9 wc W5 ⟨S.p, us, S.d⟩) := Lib.hid (by rw [← hW5]; exact ⟨(Chg.of_below (S := fun b => b = z9) HB4.out).setCell (p := ⟨z9, 2, none⟩) rfl _, hS4.1.set_ 2 _, hS4.2⟩)
      have hqz : q ≠ z9 := KQ.out.ne_ SC.out.1 (by decide)
      have kq := KQ.out.chg H5.out.1 hqz
      have A5 : Hid (AkR z9 W5 _ a) := Lib.hid (AC.out.chg H5.out.1)
      clear hb4 hS4 HB3 x0 x1 x2 x3 x4 x5 x6 x7 x8 x9 x10 x11 x12 x13
      have x0 := kq.cell 0
      have x1 := kq.cell 1
      have x2 := kq.cell 2
      have x3 := kq.cell 3
      have x4 := kq.cell 4
      have x5 := kq.cell 5
      have x6 := kq.cell 6
      have x7 := kq.cell 7
      have x8 := kq.cell 8
      have x9 := kq.cell 9
      have x10 := kq.cell 10
      have x11 := kq.cell 11
      have x12 := kq.cell 12
      have x13 := kq.cell 13
      simp at x0 x1 x2 x3 x4 x5 x6 x7 x8 x9 x10 x11 x12 x13
      rw [hus2]
      clear kq hqz hus2
      go_wp2_with fail
      refine (valOf_any _ a dbT W5 A5.out HLT.out).mono ?_
      rintro e w6 ⟨rfl, hb6⟩
      have HB6 := Lib.hid hb6
      clear hb6 x0 x1 x2 x3 x4 x5 x6 x7 x8 x9 x10 x11 x12 x13 f2 s2
      go_wp2_with fail
      refine (clone_any _ w6 (Nat.le_trans HDS.out (by omega))).mono ?_
      rintro e w7 ⟨rfl, hb7⟩
      have HB7 : Hid (Below W5.heap.size W5 w7) := Lib.hid (HB6.out.trans (hb7.mono HB6.out.size))
      have hS7 := H5.out.2.below HB7.out
      have f3 := hS7.1.frozen 3
      have s3 := hS7.cells.2.2.2
      have HDB : Hid (a.db = if valL dbT a.ks a.vs = e0 then us else valL dbT a.ks a.vs) := Lib.hid (by rw [← hus]; rfl)
      obtain ⟨ds, hds⟩ : ∃ x, valL dbT a.ks a.vs = x := ⟨_, rfl⟩
      rw [hds] at HDB
      try rw [hds]
      obtain ⟨W8, hW8⟩ : ∃ W, w7.setCell ⟨z9, 3, none⟩ (.string ds) = W := ⟨_, rfl⟩
      have H8 : Hid (StP z9 wc W8 ⟨S.p, us, ds⟩) := Lib.hid (H5.out.trans (by rw [← hW8]; exact ⟨(Chg.of_below (S := fun b => b = z9) HB7.out).setCell (p := ⟨z9, 3, none⟩) rfl _, hS7.1.set_ 3 _, hS7.2⟩))
      have d2 : W8.cell? ⟨z9, 2, none⟩ = some (.string us) := H8.out.2.cells.2.2.1
      have d3 : W8.cell? ⟨z9, 3, none⟩ = some (.string ds) := H8.out.2.cells.2.2.2
      have et := empty_tl ds
      have kz8 := Lib.hid (KZ.out.chg H8.out.1 HNO.out)
      have HGO : Hid (∀ {w2 : World} {S2 : St}, StP z9 wc w2 S2 → StP z9 w w2 S2) := Lib.hid fun k => HW.out (StP.trans (show StP z9 W1 wc S from ⟨.of_below hbxH.out, SC.out⟩) k)
      clear hb7 hS7 HB6 hus hds A5 H5 HB7
      by_cases ed : ds = e0
      · rw [if_pos ed] at HDB
        have et2 : ds.toList.isEmpty = true := by rw [et]; simp [ed]
        have f8 : W8.frozen? ⟨z9, 3, none⟩ = false := H8.out.2.1.frozen 3
        obtain ⟨W9, hW9⟩ : ∃ W, W8.setCell ⟨z9, 3, none⟩ (.string us) = W := ⟨_, rfl⟩
        have H9 : Hid (StP z9 wc W9 ⟨S.p, us, us⟩) := Lib.hid (H8.out.trans (by rw [← hW9]; exact ⟨(Chg.refl (fun b => b = z9) W8).setCell (p := ⟨z9, 3, none⟩) rfl _, H8.out.2.1.set_ 3 _, H8.out.2.2⟩))
        have hSa := H9.out.2
        have kza := KZ.out.chg H9.out.1 HNO.out
        have hno := HNO.out
        have HR : Hid ((⟨t, us, us⟩ : St) = SR) := Lib.hid (by rw [← HSR.out, if_pos E1.out, HDB.out, HUS.out])
        clear et ed kz8 HDB HSR HUS
        obtain ⟨WE, hWE⟩ : ∃ W, W9.setCell ⟨z9, 1, none⟩ (nV (t : Int)) = W := ⟨_, rfl⟩
        have HE : Hid (StP z9 W9 WE { (⟨S.p, us, us⟩ : St) with p := t }) := Lib.hid (by rw [← hWE]; exact StP.set hSa t HT.out)
        have ze1 : W9.frozen? ⟨z9, 1, none⟩ = false := hSa.1.frozen 1
        have ze2 : W9.cell? ⟨z9, 1, none⟩ = some (nV S.p) := hSa.cells.2.1
        have kze : Bk WE ob 52 #[nV r0, nV r1, nV (t : Int), nV r3] := kza.chg HE.out.1 hno
        have v1 : WE.cell? ⟨ob, 1, none⟩ = some (nV r1) := kze.cell 1
        have v3 : WE.cell? ⟨ob, 3, none⟩ = some (nV r3) := kze.cell 3
        have vz : W9.cell? ⟨ob, 2, none⟩ = some (nV (t : Int)) := kza.cell 2
        clear kze hSa kza
        go_wp2_with fail
        go_quiet (fail)
        go_wp2_with fail
        go_ret2
        rw [← HR.out]; exact ⟨by first | rfl | exact HR1.out, by first | exact HGO.out (H9.out.trans HE.out) | exact HGO.out ((H9.out.trans HE.out).post (below_drewN _ _))⟩
      · rw [if_neg ed] at HDB
        have et2 : ds.toList.isEmpty = false := by rw [et]; simp [ed]
        have hSa := H8.out.2
        have kza := kz8.out
        have hno := HNO.out
        have HR : Hid ((⟨t, us, ds⟩ : St) = SR) := Lib.hid (by rw [← HSR.out, if_pos E1.out, HDB.out, HUS.out])
        clear et ed kz8 HDB HSR HUS
        obtain ⟨WE, hWE⟩ : ∃ W, W8.setCell ⟨z9, 1, none⟩ (nV (t : Int)) = W := ⟨_, rfl⟩
        have HE : Hid (StP z9 W8 WE { (⟨S.p, us, ds⟩ : St) with p := t }) := Lib.hid (by rw [← hWE]; exact StP.set hSa t HT.out)
        have ze1 : W8.frozen? ⟨z9, 1, none⟩ = false := hSa.1.frozen 1
        have ze2 : W8.cell? ⟨z9, 1, none⟩ = some (nV S.p) := hSa.cells.2.1
        have kze : Bk WE ob 52 #[nV r0, nV r1, nV (t : Int), nV r3] := kza.chg HE.out.1 hno
        have v1 : WE.cell? ⟨ob, 1, none⟩ = some (nV r1) := kze.cell 1
        have v3 : WE.cell? ⟨ob, 3, none⟩ = some (nV r3) := kze.cell 3
        have vz : W8.cell? ⟨ob, 2, none⟩ = some (nV (t : Int)) := kza.cell 2
        clear kze hSa kza
        go_wp2_with fail
        go_quiet (fail)
        go_wp2_with fail
        go_ret2
        rw [← HR.out]; exact ⟨by first | rfl | exact HR1.out, by first | exact HGO.out (H8.out.trans HE.out) | exact HGO.out ((H8.out.trans HE.out).post (below_drewN _ _))⟩
    · have hSR : (⟨t, S.u, S.d⟩ : St) = SR := by rw [← HSR.out, if_neg e1]
      have HR := Lib.hid hSR
      have e2 : (r1 == 1) = false := by rw [beq_eq_false_iff_ne]; exact e1
      have hSa := hSc
      have kza := kz
      have HGO : Hid (∀ {w2 : World} {S2 : St}, StP z9 wc w2 S2 → StP z9 w w2 S2) := Lib.hid fun k => HW.out (StP.trans (show StP z9 W1 wc S from ⟨.of_below hbx, hSc⟩) k)
      clear hSR HSR hbx kz hSc hG s1 hob HB1 x0 x1 x2 x3 x4 x5 x6 x7 x8 x9 x10 x11 x12 x13
      obtain ⟨WE, hWE⟩ : ∃ W, wc.setCell ⟨z9, 1, none⟩ (nV (t : Int)) = W := ⟨_, rfl⟩
      have HE : Hid (StP z9 wc WE { (S : St) with p := t }) := Lib.hid (by rw [← hWE]; exact StP.set hSa t HT.out)
      have ze1 : wc.frozen? ⟨z9, 1, none⟩ = false := hSa.1.frozen 1
      have ze2 : wc.cell? ⟨z9, 1, none⟩ = some (nV S.p) := hSa.cells.2.1
      have kze : Bk WE ob 52 #[nV r0, nV r1, nV (t : Int), nV r3] := kza.chg HE.out.1 hno
      have v1 : WE.cell? ⟨ob, 1, none⟩ = some (nV r1) := kze.cell 1
      have v3 : WE.cell? ⟨ob, 3, none⟩ = some (nV r3) := kze.cell 3
      have vz : wc.cell? ⟨ob, 2, none⟩ = some (nV (t : Int)) := kza.cell 2
      clear kze hSa kza
      go_wp2_with fail
      go_quiet (fail)
      go_wp2_with fail
      go_ret2
      rw [← HR.out]; exact ⟨rfl, by first | exact HGO.out HE.out | exact HGO.out (HE.out.post (below_drewN _ _))⟩
end Go.Proofs.YtpnjjllkbnmakaaDoor.SE
