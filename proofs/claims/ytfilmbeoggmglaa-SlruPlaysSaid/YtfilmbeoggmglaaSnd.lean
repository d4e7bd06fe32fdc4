/- The document's store for slru: Touch of what is there, where the kept segment may give up some. Conditions: each key once, how large. -/
import Derived.Test.YtfilmbeoggmglaaSnc
namespace Go.Proofs.Ytfilmbeoggmglaa.SL
open Go.ChangeShapes Go.WideShapes Go.ChangeAt Go.RowKit Go.Maps Go.ChangeMaps
set_option maxRecDepth 100000
set_option linter.unusedVariables false
set_option linter.unusedSimpArgs false

set_option maxHeartbeats 16000000 in
theorem rtouch_two (w0 w : World) (g : Nat) (al ke mo : Int) (T0 K0 : List En) (h : RS w0 w g al ke mo T0 K0) (hl : T0.length ≤ 1073741824 ∧ K0.length ≤ 1073741824) (k : ByteArray) (z : Int) (hz : hasS k T0 K0 = some z) (hp : placeE T0 k = none) (hk : z ≤ ke) (hke : 0 ≤ ke)
    (T1 K1 : List En) (hT1 : delE k T0 = T1) (hK1 : delE k K0 = K1) (hu : UK T1 ((k, z) :: K1)) (hpT : posE T1) (hpK : posE ((k, z) :: K1)) (hlim : sumE T1 + sumE ((k, z) :: K1) ≤ 1073741824) (T9 K9 : List En) (G : List ByteArray) (hR : shrE ke (K1.length + 1) T1 ((k, z) :: K1) = (T9, K9, G)) :
    Calls Try.prog 15 #[ptr g, .string k] w (TchP w0 w g al ke mo T9 K9 G) := by
  have HR := Lib.hid h
  have HRB : Hid (w0.heap.size ≤ w.heap.size) := Lib.hid h.bel.size
  have HL := Lib.hid hl
  have HZ : Hid (HasV (hasS k T0 K0) = .tuple #[.int .i64 z, .bool true]) := Lib.hid (by rw [hz]; rfl)
  have HB : Hid ((hasS k T0 K0).isSome = true) := Lib.hid (by rw [hz]; rfl)
  have HP : Hid ((match placeE T0 k with | some i => (i : Int) | none => -1) = -1) := Lib.hid (by rw [hp])
  have HT1 := Lib.hid hT1
  have HK1 := Lib.hid hK1
  have HU := Lib.hid hu
  have HPT := Lib.hid hpT
  have HPK := Lib.hid hpK
  have HLM := Lib.hid hlim
  have HRR := Lib.hid hR
  have HKE := Lib.hid hke
  have hlK := sum_pos hpK
  have hlT := sum_pos hpT
  have hsT := sum_nonneg hpT
  have hsK := sum_nonneg hpK
  have HLK : Hid (K1.length + 1 ≤ 1073741824) := Lib.hid (by rw [List.length_cons] at hlK; omega)
  have dk : decide (ke < z) = false := decide_eq_false (by omega)
  clear h hl hz hp hT1 hK1 hu hpT hpK hlim hR hlK hlT hsT hsK hk hke
  go_enter Try.func15, Try.ntmps15
  go_wp2_with fail
  refine (rhas_to w0 w g al ke mo T0 K0 HR.out HL.out k _ HZ.out).mono ?_
  rintro e w1 ⟨rfl, n1, hw1⟩
  have hb1 : Below w.heap.size w w1 := by rw [hw1]; exact below_drewN _ _ _
  have HB1 := Lib.hid hb1
  have HR1 := Lib.hid (HR.out.below hb1)
  clear hw1 hb1
  obtain ⟨aT, cT, aK, cK, r1, r2, r3, r4, r5, r6, r7⟩ := HR1.out
  have HG := Lib.hid r1.lt
  have HGW := Lib.hid r6
  have hbl : Below w1.heap.size w1 (w1.alloc (.cells #[.string k, .int .i64 z] 88)) := (Below.refl _ _).alloc (Nat.le_refl _) _
  have HER := Lib.hid (r2.below hbl).er
  have c0 := (r1.below hbl).cell 0
  have HBA := Lib.hid hbl
  clear r1 r2 r3 r4 r5 r6 r7 hbl
  go_wp2_with fail
  refine (rplace_to _ T0 k _ HER.out HL.out.1 _ HP.out).mono ?_
  rintro e w2 ⟨rfl, n2, hw2⟩
  have hb2 : Below w1.heap.size w1 w2 := by rw [hw2]; exact HBA.out.trans (below_drewN _ _ _)
  have HB2 := Lib.hid hb2
  have HR2 := Lib.hid (HR1.out.below hb2)
  have kx2 : Bk w2 w1.heap.size 88 #[.string k, .int .i64 z] := by rw [hw2]; exact (Bk.new w1 _ _).below (below_drewN _ _ _)
  have KX2 := Lib.hid kx2
  clear hw2 hb2 kx2 c0 HER HBA
  go_wp2_with fail
  refine (rdrop_to w0 w2 g al ke mo T0 K0 HR2.out HL.out k T1 K1 _ HT1.out HK1.out HB.out).mono ?_
  rintro e w3 ⟨rfl, hr3, hc3⟩
  have HR3 := Lib.hid hr3
  have HC3 := Lib.hid ((Chg.of_below (S := fun b => b = g) HB1.out).trans ((Chg.of_below (S := fun b => b = g) (HB2.out)).trans hc3))
  have hx3 := KX2.out.chg hc3 (fun e => by have := HG.out; omega)
  obtain ⟨xb, hxb⟩ : ∃ b, w1.heap.size = b := ⟨_, rfl⟩
  have HXG : Hid (xb ≠ g) := Lib.hid (by have := HG.out; omega)
  rw [hxb] at hx3 ⊢
  obtain ⟨aT3, cT3, aK3, cK3, r1, r2, r3, r4, r5, r6, r7⟩ := hr3
  have x0 := hx3.cell 0
  have x1 := hx3.cell 1
  have d0 := r1.cell 0
  have d1 := r1.cell 1
  have d3 := r1.cell 3
  have HX3 := Lib.hid hx3
  have HE3 := Lib.hid r3
  have HBK3 := Lib.hid r1
  clear r1 r2 r3 r4 r5 r6 r7 hc3 hx3 HR2 KX2 HB2 HR1 HR HB1 hxb HG HGW
  go_wp2_with fail
  refine wp_region_held_drew (S := (fun w' => w'.cell? ⟨xb, 0, none⟩ = some (.string k) ∧ w'.cell? ⟨xb, 1, none⟩ = some (.int .i64 z))) (by kernel_rfl) ?_ (fun hS => ?_)
  · exact ⟨x0, x1⟩
  refine tkY 0 ?_ rfl hS ?_ ?_
  rotate_left
  · intro wz hz
    obtain ⟨z0, z1⟩ := hz
    go_simp
    all_goals first | with_reducible rfl | omega
  try simp only [Act.put, pu]
  refine tkY 1 ?_ rfl hS ?_ ?_
  rotate_left
  · intro wz hz
    obtain ⟨z0, z1⟩ := hz
    go_simp
    all_goals first | with_reducible rfl | omega
  try simp only [Act.put, pu]
  refine tkY 2 ?_ rfl hS ?_ ?_
  rotate_left
  · intro wz hz
    obtain ⟨z0, z1⟩ := hz
    go_simp
    all_goals first | with_reducible rfl | omega
  try simp only [Act.put, pu]
  refine tkY 3 ?_ rfl hS ?_ ?_
  rotate_left
  · intro wz hz
    obtain ⟨z0, z1⟩ := hz
    go_simp
    all_goals first | with_reducible rfl | omega
  try simp only [Act.put, pu]
  refine tkY 5 ?_ rfl hS ?_ ?_
  rotate_left
  · intro wz hz
    obtain ⟨z0, z1⟩ := hz
    go_simp
    all_goals first | with_reducible rfl | omega
  try simp only [Act.put, pu]
  refine wpAnyH_ready (rs := [4]) (by kernel_rfl) (by simp) (AllReadyH.cons rfl (fun K' hK' => ?_) AllReadyH.nil)
  go_simp
  refine hK'.out _ _ ?_ (fun hSn => ?_)
  · exact hS
  clear hK' K' hS
  have hS := hSn
  clear hSn
  try simp only [Act.put, pu]
  refine wpAnyH_ready (rs := [6]) (by kernel_rfl) (by simp) (AllReadyH.cons rfl (fun K' hK' => ?_) AllReadyH.nil)
  go_simp
  refine (rahead_to _ K1 (k, z) _ (HE3.out.er.below (show Below w3.heap.size w3 w3.drew from below_drewN _ _ 1)) (by have := HLK.out; omega) _ rfl).mono ?_
  rintro e w4 ⟨v4, c4, rfl, o4, b4⟩
  have hb4 : Below w3.heap.size w3 w4 := (show Below w3.heap.size w3 w3.drew from below_drewN _ _ 1).trans b4
  have hk4 := HBK3.out.below hb4
  have f4 := hk4.frozen 1
  have s4 := hk4.cell 1
  have hSC := ((HX3.out.below hb4).cell 0)
  have hSC := (show _ ∧ _ from ⟨(HX3.out.below hb4).cell 0, (HX3.out.below hb4).cell 1⟩)
  have HO4 := Lib.hid o4
  have HB4 := Lib.hid hb4
  clear hk4 o4 b4 hb4
  refine hK'.out _ _ ?_ (fun hSn => ?_)
  · exact hSC
  clear hK' K' hS
  have hS := hSn
  clear hSn
  try simp only [Act.put, pu]
  refine tkY 7 ?_ rfl hS ?_ ?_
  rotate_left
  · intro wz hz
    obtain ⟨z0, z1⟩ := hz
    go_simp
    all_goals first | with_reducible rfl | omega
  try simp only [Act.put, pu]
  refine tkY 8 ?_ rfl hS ?_ ?_
  rotate_left
  · intro wz hz
    obtain ⟨z0, z1⟩ := hz
    go_simp
    all_goals first | with_reducible rfl | omega
  try simp only [Act.put, pu]
  refine wpAnyH_ready (rs := [9]) (by kernel_rfl) (by simp) (AllReadyH.cons rfl (fun K' hK' => ?_) AllReadyH.nil)
  go_simp
  refine hK'.out _ _ ?_ (fun hSn => ?_)
  · have hk5 := (HX3.out.below HB4.out).far (p := ⟨g, 1, none⟩) HXG.out (.slice v4 ((k, z) :: K1).length c4)
    exact ⟨hk5.cell 0, hk5.cell 1⟩
  clear hK' K' hS hSn
  refine wpAnyH_done (by kernel_rfl) ?_ _
  have hr5 : RS w0 (w4.setCell ⟨g, 1, none⟩ (.slice v4 (K1.length + 1) c4)) g al ke mo T1 ((k, z) :: K1) := (HR3.out.below HB4.out).setK (HO4.out.mono HR3.out.bel.size) (HO4.out.off (g := g) HBK3.out.lt)
  have hc5 : Chg (fun b => b = g) w (w4.setCell ⟨g, 1, none⟩ (.slice v4 (K1.length + 1) c4)) := (HC3.out.trans (Chg.of_below HB4.out)).setCell (p := ⟨g, 1, none⟩) rfl _
  have HR5 := Lib.hid hr5
  have HC5 := Lib.hid hc5
  clear hr5 hc5 f4 s4 x0 x1 d0 d1 d3 HX3 HE3 HBK3 HXG HR3 HC3
  obtain ⟨w5, hw5⟩ : ∃ w5, w4.setCell ⟨g, 1, none⟩ (.slice v4 (K1.length + 1) c4) = w5 := ⟨_, rfl⟩
  rw [hw5]
  rw [hw5] at HR5 HC5
  clear HO4 HB4 hw5
  go_wp2
  go_loopg [10] (K1.length + 1) (fun gk u10 wx => ∃ (T K : List En) (D : List ByteArray), gk = K.length ∧ UK T K ∧ posE T ∧ posE K ∧ sumE T + sumE K ≤ 1073741824 ∧ RS w0 wx g al ke mo T K ∧ Chg (fun b => b = g) w wx ∧ (∃ a c, u10 = .slice a D.length c) ∧ OT w.heap.size wx u10 D ∧ D.length + gk = K1.length + 1 ∧
      shrE ke (K1.length + 1) T1 ((k, z) :: K1) = ((shrE ke gk T K).1, (shrE ke gk T K).2.1, D ++ (shrE ke gk T K).2.2))
  case atStart => exact ⟨T1, (k, z) :: K1, [], rfl, HU.out, HPT.out, HPK.out, HLM.out, HR5.out, HC5.out, ⟨_, _, rfl⟩, OT.nil _ _, by simp, rfl⟩
  case round =>
    obtain ⟨T, K, D, hgk, hu, hpT, hpK, hlm, hrs, hch, ⟨ua, uc, rfl⟩, hot, hdl, hshr⟩ := hrel
    have HRS := Lib.hid hrs
    have HC := Lib.hid hch
    have HO := Lib.hid hot
    have HU := Lib.hid hu
    have HPT := Lib.hid hpT
    have HPK := Lib.hid hpK
    have HLM0 := Lib.hid hlm
    have hsT := sum_nonneg hpT
    have hsK := sum_nonneg hpK
    have hlT := sum_pos hpT
    have hlK := sum_pos hpK
    obtain ⟨SK, hSK⟩ : ∃ S, sumE K = S := ⟨_, rfl⟩
    have HSK := Lib.hid hSK
    have HLS : Hid (sumE K ≤ 4611686018427387904) := Lib.hid (by omega)
    have HLN : Hid (T.length ≤ 1073741824 ∧ K.length ≤ 1073741824) := Lib.hid (by omega)
    obtain ⟨aT, cT, aK, cK, r1, r2, r3, r4, r5, r6, r7⟩ := hrs
    have HET := Lib.hid r2
    have HEK := Lib.hid r3
    have HBK := Lib.hid r1
    have q0 := r1.cell 0
    have q1 := r1.cell 1
    have q3 := r1.cell 3
    have HQ := Lib.hid (fun N => rsum_to (.slice aK K.length cK) K (wr.drewN N) (r3.er.below (below_drewN _ _ _)) hpK HLS.out SK hSK)
    rw [hSK] at hlm hsK hlK
    by_cases hc : ke < SK
    case neg =>
      have dc : decide (ke < SK) = false := decide_eq_false hc
      have hno : shrE ke gk T K = (T, K, []) := shr_no (by rw [hSK]; omega) gk
      rw [hno] at hshr
      have HRM := Lib.hid hshr
      have hG : G = D := by have := HRR.out; rw [HRM.out] at this; simp only [Prod.mk.injEq, List.append_nil] at this; exact this.2.2.symm
      have hT9 : T9 = T := by have := HRR.out; rw [HRM.out] at this; simp only [Prod.mk.injEq] at this; exact this.1.symm
      have hK9 : K9 = K := by have := HRR.out; rw [HRM.out] at this; simp only [Prod.mk.injEq] at this; exact this.2.1.symm
      subst hG hT9 hK9
      clear hshr hno r1 r2 r3 r4 r5 r6 r7 hSK hlT hlK hu hpT hpK hch hot hgk hlm hsT hsK HRR HRM hc
      go_wp2
      go_quiet ((go_at_call 24; (with_reducible exact Calls.quiet_of (HQ.out _))))
      go_wp2
      go_ret2
      exact ⟨_, _, rfl, HO.out.below (below_drewN _ _ _), HRS.out.below (below_drewN _ _ _), HC.out.drewN _⟩
    case pos =>
      have dc : decide (ke < SK) = true := decide_eq_true hc
      cases hxK : K.getLast? with
      | none =>
        exfalso
        have hK0 := List.getLast?_eq_none_iff.1 hxK
        subst hK0
        have e2 : SK = 0 := hSK.symm
        have := HKE.out
        omega
      | some x =>
        have hx := hxK
        clear hxK
        obtain ⟨m, hm, hmx, hmd⟩ := last_at hx
        have wm : IntKind.i64.wrap ((K.length : Int) - 1) = (m : Int) := by rw [show (K.length : Int) - 1 = (m : Int) by omega]; exact IntWalk.i64_in _ (by have := HLN.out; omega)
        have wm' : wrap64 ((K.length : Int) - 1) = (m : Int) := by rw [show (K.length : Int) - 1 = (m : Int) by omega]; exact IntWalk.wrap64_in _ (by have := HLN.out; omega)
        have l0 : (0 : Int) ≤ (m : Int) := by omega
        have l1 : (m : Int) < (K.length : Int) := by omega
        obtain ⟨b, off, cap, he, hcp, hxx⟩ := r3.er.inv (by omega)
        injection he with e1 _ e3
        subst e1 e3
        obtain ⟨y0, y1⟩ := hxx m x hmx
        obtain ⟨d2, d1, _⟩ := hu.lastK hx
        have hu2 := hu.mv hx
        have hsm := sum_mv hx
        have hxp := hpK x (List.mem_of_getLast? hx)
        obtain ⟨xk, xz⟩ := x
        simp only at y0 y1 hsm hxp
        obtain ⟨gk2, hg2⟩ : ∃ q, m = q := ⟨_, rfl⟩
        have hgk2 : gk = gk2 + 1 := by rw [hgk, hm]; omega
        subst hgk2
        have hsh := shr_K (ke := ke) (T := T) (K := K) (x := (xk, xz)) gk2 (by rw [hSK]; exact hc) hx
        obtain ⟨KD, hKD⟩ : ∃ L, K.dropLast = L := ⟨_, rfl⟩
        rw [hKD] at d2 hu2 hsm hsh
        rw [hsh] at hshr
        have HSH := Lib.hid hshr
        have HD2 := Lib.hid d2
        have HU2 := Lib.hid hu2
        have HPT2 : Hid (posE ((xk, xz) :: T)) := Lib.hid (fun y hy => by
          rcases List.mem_cons.1 hy with rfl | hy
          · exact hxp
          · exact hpT y hy)
        have HPK2 : Hid (posE KD) := Lib.hid (hKD ▸ hpK.dl)
        have HS2 : Hid (sumE ((xk, xz) :: T) + sumE KD ≤ 1073741824) := Lib.hid (by rw [sumE]; simp only; omega)
        have HKL : Hid (gk2 = KD.length) := Lib.hid (by rw [← hKD]; omega)
        have HDL := Lib.hid hdl
        have HYL : Hid (b < wr.heap.size ∧ g < wr.heap.size) := Lib.hid ⟨World.block_lt_of_cell? wr _ y0, r1.lt⟩
        clear hKD r1 r2 r3 r4 r5 r6 r7 hSK hlT hlK hu hpT hpK hch hot hgk hlm hsT hsK hc hshr hsh d2 d1 hu2 hsm hxp hmx hmd hm hxx hcp hx hg2 hdl
        go_wp2
        go_quiet ((go_at_call 24; (with_reducible exact Calls.quiet_of (HQ.out _))))
        obtain ⟨W0, hW0⟩ : ∃ W0, wr.drewN nq = W0 := ⟨_, rfl⟩
        have hb0 : Below wr.heap.size wr W0 := by rw [← hW0]; exact below_drewN _ _ _
        rw [hW0]
        have HB0 := Lib.hid hb0
        have q0 := (HBK.out.below hb0).cell 0
        have q1 := (HBK.out.below hb0).cell 1
        have y0 := (hb0.cell HYL.out.1).trans y0
        have y1 := (hb0.cell (p := ⟨b, off + m * 2 + 1, none⟩) HYL.out.1).trans y1
        have HY0 : Hid (b < W0.heap.size ∧ g < W0.heap.size) := Lib.hid ⟨Nat.lt_of_lt_of_le HYL.out.1 hb0.size, Nat.lt_of_lt_of_le HYL.out.2 hb0.size⟩
        clear hW0 hb0 HQ
        go_wp2_with fail
        refine wp_region_held_drew (S := (fun w' => Below W0.heap.size W0 w')) (by kernel_rfl) ?_ (fun hS => ?_)
        · exact (Below.refl _ _).drew
        refine tkY 0 ?_ rfl hS ?_ ?_
        rotate_left
        · intro wz hz
          have z1 := (hz.cell (p := ⟨g, 1, none⟩) HY0.out.2).trans q1
          have z2 := (hz.cell (p := ⟨b, off + m * 2, none⟩) HY0.out.1).trans y0
          have z3 := (hz.cell (p := ⟨b, off + m * 2 + 1, none⟩) HY0.out.1).trans y1
          go_simp
          all_goals first | with_reducible rfl | omega
        try simp only [Act.put, pu]
        refine tkY 1 ?_ rfl hS ?_ ?_
        rotate_left
        · intro wz hz
          have z1 := (hz.cell (p := ⟨g, 1, none⟩) HY0.out.2).trans q1
          have z2 := (hz.cell (p := ⟨b, off + m * 2, none⟩) HY0.out.1).trans y0
          have z3 := (hz.cell (p := ⟨b, off + m * 2 + 1, none⟩) HY0.out.1).trans y1
          go_simp
          all_goals first | with_reducible rfl | omega
        try simp only [Act.put, pu]
        refine tkY 2 ?_ rfl hS ?_ ?_
        rotate_left
        · intro wz hz
          have z1 := (hz.cell (p := ⟨g, 1, none⟩) HY0.out.2).trans q1
          have z2 := (hz.cell (p := ⟨b, off + m * 2, none⟩) HY0.out.1).trans y0
          have z3 := (hz.cell (p := ⟨b, off + m * 2 + 1, none⟩) HY0.out.1).trans y1
          go_simp
          all_goals first | with_reducible rfl | omega
        try simp only [Act.put, pu]
        refine tkY 3 ?_ rfl hS ?_ ?_
        rotate_left
        · intro wz hz
          have z1 := (hz.cell (p := ⟨g, 1, none⟩) HY0.out.2).trans q1
          have z2 := (hz.cell (p := ⟨b, off + m * 2, none⟩) HY0.out.1).trans y0
          have z3 := (hz.cell (p := ⟨b, off + m * 2 + 1, none⟩) HY0.out.1).trans y1
          go_simp
          all_goals first | with_reducible rfl | omega
        try simp only [Act.put, pu]
        refine tkY 4 ?_ rfl hS ?_ ?_
        rotate_left
        · intro wz hz
          have z1 := (hz.cell (p := ⟨g, 1, none⟩) HY0.out.2).trans q1
          have z2 := (hz.cell (p := ⟨b, off + m * 2, none⟩) HY0.out.1).trans y0
          have z3 := (hz.cell (p := ⟨b, off + m * 2 + 1, none⟩) HY0.out.1).trans y1
          go_simp
          all_goals first | with_reducible rfl | omega
        try simp only [Act.put, pu]
        refine tkY 5 ?_ rfl hS ?_ ?_
        rotate_left
        · intro wz hz
          have z1 := (hz.cell (p := ⟨g, 1, none⟩) HY0.out.2).trans q1
          have z2 := (hz.cell (p := ⟨b, off + m * 2, none⟩) HY0.out.1).trans y0
          have z3 := (hz.cell (p := ⟨b, off + m * 2 + 1, none⟩) HY0.out.1).trans y1
          go_simp
          all_goals first | with_reducible rfl | omega
        try simp only [Act.put, pu]
        refine tkY 6 ?_ rfl hS ?_ ?_
        rotate_left
        · intro wz hz
          have z1 := (hz.cell (p := ⟨g, 1, none⟩) HY0.out.2).trans q1
          have z2 := (hz.cell (p := ⟨b, off + m * 2, none⟩) HY0.out.1).trans y0
          have z3 := (hz.cell (p := ⟨b, off + m * 2 + 1, none⟩) HY0.out.1).trans y1
          go_simp
          all_goals first | with_reducible rfl | omega
        try simp only [Act.put, pu]
        refine tkY 7 ?_ rfl hS ?_ ?_
        rotate_left
        · intro wz hz
          have z1 := (hz.cell (p := ⟨g, 1, none⟩) HY0.out.2).trans q1
          have z2 := (hz.cell (p := ⟨b, off + m * 2, none⟩) HY0.out.1).trans y0
          have z3 := (hz.cell (p := ⟨b, off + m * 2 + 1, none⟩) HY0.out.1).trans y1
          go_simp
          all_goals first | with_reducible rfl | omega
        try simp only [Act.put, pu]
        refine tkY 8 ?_ rfl hS ?_ ?_
        rotate_left
        · intro wz hz
          have z1 := (hz.cell (p := ⟨g, 1, none⟩) HY0.out.2).trans q1
          have z2 := (hz.cell (p := ⟨b, off + m * 2, none⟩) HY0.out.1).trans y0
          have z3 := (hz.cell (p := ⟨b, off + m * 2 + 1, none⟩) HY0.out.1).trans y1
          go_simp
          all_goals first | with_reducible rfl | omega
        try simp only [Act.put, pu]
        refine tkY 9 ?_ rfl hS ?_ ?_
        rotate_left
        · intro wz hz
          have z1 := (hz.cell (p := ⟨g, 1, none⟩) HY0.out.2).trans q1
          have z2 := (hz.cell (p := ⟨b, off + m * 2, none⟩) HY0.out.1).trans y0
          have z3 := (hz.cell (p := ⟨b, off + m * 2 + 1, none⟩) HY0.out.1).trans y1
          go_simp
          all_goals first | with_reducible rfl | omega
        try simp only [Act.put, pu]
        refine tkY 10 ?_ rfl hS ?_ ?_
        rotate_left
        · intro wz hz
          have z1 := (hz.cell (p := ⟨g, 1, none⟩) HY0.out.2).trans q1
          have z2 := (hz.cell (p := ⟨b, off + m * 2, none⟩) HY0.out.1).trans y0
          have z3 := (hz.cell (p := ⟨b, off + m * 2 + 1, none⟩) HY0.out.1).trans y1
          go_simp
          all_goals first | with_reducible rfl | omega
        try simp only [Act.put, pu]
        refine tkY 11 ?_ rfl hS ?_ ?_
        rotate_left
        · intro wz hz
          have z1 := (hz.cell (p := ⟨g, 1, none⟩) HY0.out.2).trans q1
          have z2 := (hz.cell (p := ⟨b, off + m * 2, none⟩) HY0.out.1).trans y0
          have z3 := (hz.cell (p := ⟨b, off + m * 2 + 1, none⟩) HY0.out.1).trans y1
          go_simp
          all_goals first | with_reducible rfl | omega
        try simp only [Act.put, pu]
        refine wpAnyH_ready (rs := [12]) (by kernel_rfl) (by simp) (AllReadyH.cons rfl (fun K' hK' => ?_) AllReadyH.nil)
        go_simp
        refine hK'.out _ _ ?_ (fun hSn => ?_)
        · exact hS.alloc hS.size _
        clear hK' K' hS
        have hS := hSn
        clear hSn
        try simp only [Act.put, pu]
        refine wpAnyH_ready (rs := [13]) (by kernel_rfl) (by simp) (AllReadyH.cons rfl (fun K' hK' => ?_) AllReadyH.nil)
        go_simp
        refine hK'.out _ _ ?_ (fun hSn => ?_)
        · exact ((Below.refl _ _).alloc (Nat.le_refl _) _).drew
        clear hK' K' hS hSn
        refine wpAnyH_done (by kernel_rfl) ?_ _
        obtain ⟨W1, hW1⟩ : ∃ W1, (W0.alloc (.cells #[.string xk, .int .i64 xz] 88)).drew = W1 := ⟨_, rfl⟩
        obtain ⟨x2, hx2⟩ : ∃ b, W0.heap.size = b := ⟨_, rfl⟩
        have hb1 : Below wr.heap.size wr W1 := by rw [← hW1]; exact (HB0.out.alloc HB0.out.size _).drew
        have hk1 : Bk W1 x2 88 #[.string xk, .int .i64 xz] := by rw [← hW1, ← hx2]; exact (Bk.new W0 _ _).drew
        have HX2G : Hid (x2 ≠ g) := Lib.hid (by have := HY0.out; omega)
        rw [hW1, hx2]
        have HB1 := Lib.hid hb1
        have HX1 := Lib.hid hk1
        have x0 := hk1.cell 0
        have x1 := hk1.cell 1
        have HBK1 := Lib.hid (HBK.out.below hb1)
        have q1 := (HBK.out.below hb1).cell 1
        have q0 := (HBK.out.below hb1).cell 0
        have HRS1 := Lib.hid (HRS.out.below hb1)
        have HEK1 := Lib.hid (HEK.out.below hb1)
        have HET1 := Lib.hid (HET.out.below hb1)
        clear y0 y1 hW1 hx2 hb1 hk1 HB0 HY0 HYL q3
        go_wp2_with fail
        refine wp_region_held_drew (S := (fun w' => w'.cell? ⟨x2, 0, none⟩ = some (.string xk) ∧ w'.cell? ⟨x2, 1, none⟩ = some (.int .i64 xz))) (by kernel_rfl) ?_ (fun hS => ?_)
        · exact ⟨x0, x1⟩
        refine tkY 0 ?_ rfl hS ?_ ?_
        rotate_left
        · intro wz hz
          obtain ⟨z0, z1⟩ := hz
          go_simp
          all_goals first | with_reducible rfl | omega
        try simp only [Act.put, pu]
        refine tkY 1 ?_ rfl hS ?_ ?_
        rotate_left
        · intro wz hz
          obtain ⟨z0, z1⟩ := hz
          go_simp
          all_goals first | with_reducible rfl | omega
        try simp only [Act.put, pu]
        refine tkY 2 ?_ rfl hS ?_ ?_
        rotate_left
        · intro wz hz
          obtain ⟨z0, z1⟩ := hz
          go_simp
          all_goals first | with_reducible rfl | omega
        try simp only [Act.put, pu]
        refine tkY 3 ?_ rfl hS ?_ ?_
        rotate_left
        · intro wz hz
          obtain ⟨z0, z1⟩ := hz
          go_simp
          all_goals first | with_reducible rfl | omega
        try simp only [Act.put, pu]
        refine tkY 5 ?_ rfl hS ?_ ?_
        rotate_left
        · intro wz hz
          obtain ⟨z0, z1⟩ := hz
          go_simp
          all_goals first | with_reducible rfl | omega
        try simp only [Act.put, pu]
        refine tkY 6 ?_ rfl hS ?_ ?_
        rotate_left
        · intro wz hz
          obtain ⟨z0, z1⟩ := hz
          go_simp
          all_goals first | with_reducible rfl | omega
        try simp only [Act.put, pu]
        refine wpAnyH_ready (rs := [4]) (by kernel_rfl) (by simp) (AllReadyH.cons rfl (fun K' hK' => ?_) AllReadyH.nil)
        go_simp
        refine hK'.out _ _ ?_ (fun hSn => ?_)
        · exact hS
        clear hK' K' hS
        have hS := hSn
        clear hSn
        try simp only [Act.put, pu]
        refine wpAnyH_ready (rs := [7]) (by kernel_rfl) (by simp) (AllReadyH.cons rfl (fun K' hK' => ?_) AllReadyH.nil)
        go_simp
        refine (rwithout_to _ K xk _ (HEK1.out.er.below (show Below W1.heap.size W1 W1.drew from below_drewN _ _ 1)) HLN.out.2 _ HD2.out).mono ?_
        rintro e w4 ⟨v4, c4, rfl, o4, b4⟩
        have hb4 : Below W1.heap.size W1 w4 := (show Below W1.heap.size W1 W1.drew from below_drewN _ _ 1).trans b4
        have hk4 := HBK1.out.below hb4
        have f4 := hk4.frozen 1
        have s4 := hk4.cell 1
        have hSC := (show _ ∧ _ from ⟨(HX1.out.below hb4).cell 0, (HX1.out.below hb4).cell 1⟩)
        have HO4 := Lib.hid o4
        have HB4 := Lib.hid hb4
        clear hk4 o4 b4 hb4
        refine hK'.out _ _ ?_ (fun hSn => ?_)
        · exact hSC
        clear hK' K' hS
        have hS := hSn
        clear hSn
        try simp only [Act.put, pu]
        refine tkY 8 ?_ rfl hS ?_ ?_
        rotate_left
        · intro wz hz
          obtain ⟨z0, z1⟩ := hz
          go_simp
          all_goals first | with_reducible rfl | omega
        try simp only [Act.put, pu]
        refine tkY 9 ?_ rfl hS ?_ ?_
        rotate_left
        · intro wz hz
          obtain ⟨z0, z1⟩ := hz
          go_simp
          all_goals first | with_reducible rfl | omega
        try simp only [Act.put, pu]
        refine wpAnyH_ready (rs := [10]) (by kernel_rfl) (by simp) (AllReadyH.cons rfl (fun K' hK' => ?_) AllReadyH.nil)
        go_simp
        refine hK'.out _ _ ?_ (fun hSn => ?_)
        · have hk5 := (HX1.out.below HB4.out).far (p := ⟨g, 1, none⟩) HX2G.out (.slice v4 KD.length c4)
          exact ⟨hk5.cell 0, hk5.cell 1⟩
        clear hK' K' hS hSn
        refine wpAnyH_done (by kernel_rfl) ?_ _
        have hlb : (∀ q, (Value.slice v4 KD.length c4).ownBlock = some q → q ≠ g) := HO4.out.off (g := g) HBK1.out.lt
        obtain ⟨w5, hw5⟩ : ∃ w5, w4.setCell ⟨g, 1, none⟩ (.slice v4 KD.length c4) = w5 := ⟨_, rfl⟩
        have hr5 : RS w0 w5 g al ke mo T KD := by rw [← hw5]; exact (HRS1.out.below HB4.out).setK (HO4.out.mono HRS1.out.bel.size) hlb
        have hc5 : Chg (fun b => b = g) wr w5 := by rw [← hw5]; exact ((Chg.of_below (S := fun b => b = g) HB1.out).trans (Chg.of_below HB4.out)).setCell (p := ⟨g, 1, none⟩) rfl _
        have hx5 : Bk w5 x2 88 #[.string xk, .int .i64 xz] := by rw [← hw5]; exact (HX1.out.below HB4.out).far (p := ⟨g, 1, none⟩) HX2G.out _
        try rw [hw5]
        have HR5' := Lib.hid hr5
        have HC5' := Lib.hid hc5
        have HX5 := Lib.hid hx5
        clear HO4 HB4 hw5 hlb f4 s4 x0 x1 q0 q1 HBK1 HEK1 HX1 HRS1 HET1
        have x0 := hx5.cell 0
        have x1 := hx5.cell 1
        obtain ⟨aT5, cT5, aK5, cK5, r1, r2, r3, r4, r5, r6, r7⟩ := hr5
        have q0 := r1.cell 0
        have HBK5 := Lib.hid r1
        have HET5 := Lib.hid r2
        clear r1 r2 r3 r4 r5 r6 r7 hc5 hx5
        go_wp2_with fail
        refine wp_region_held_drew (S := (fun w' => w'.cell? ⟨x2, 0, none⟩ = some (.string xk) ∧ w'.cell? ⟨x2, 1, none⟩ = some (.int .i64 xz))) (by kernel_rfl) ?_ (fun hS => ?_)
        · exact ⟨x0, x1⟩
        refine tkY 0 ?_ rfl hS ?_ ?_
        rotate_left
        · intro wz hz
          obtain ⟨z0, z1⟩ := hz
          go_simp
          all_goals first | with_reducible rfl | omega
        try simp only [Act.put, pu]
        refine tkY 1 ?_ rfl hS ?_ ?_
        rotate_left
        · intro wz hz
          obtain ⟨z0, z1⟩ := hz
          go_simp
          all_goals first | with_reducible rfl | omega
        try simp only [Act.put, pu]
        refine tkY 2 ?_ rfl hS ?_ ?_
        rotate_left
        · intro wz hz
          obtain ⟨z0, z1⟩ := hz
          go_simp
          all_goals first | with_reducible rfl | omega
        try simp only [Act.put, pu]
        refine tkY 3 ?_ rfl hS ?_ ?_
        rotate_left
        · intro wz hz
          obtain ⟨z0, z1⟩ := hz
          go_simp
          all_goals first | with_reducible rfl | omega
        try simp only [Act.put, pu]
        refine tkY 5 ?_ rfl hS ?_ ?_
        rotate_left
        · intro wz hz
          obtain ⟨z0, z1⟩ := hz
          go_simp
          all_goals first | with_reducible rfl | omega
        try simp only [Act.put, pu]
        refine wpAnyH_ready (rs := [4]) (by kernel_rfl) (by simp) (AllReadyH.cons rfl (fun K' hK' => ?_) AllReadyH.nil)
        go_simp
        refine hK'.out _ _ ?_ (fun hSn => ?_)
        · exact hS
        clear hK' K' hS
        have hS := hSn
        clear hSn
        try simp only [Act.put, pu]
        refine wpAnyH_ready (rs := [6]) (by kernel_rfl) (by simp) (AllReadyH.cons rfl (fun K' hK' => ?_) AllReadyH.nil)
        go_simp
        refine (rahead_to _ T (xk, xz) _ (HET5.out.er.below (show Below w5.heap.size w5 w5.drew from below_drewN _ _ 1)) HLN.out.1 _ rfl).mono ?_
        rintro e w6 ⟨v6, c6, rfl, o6, b6⟩
        have hb6 : Below w5.heap.size w5 w6 := (show Below w5.heap.size w5 w5.drew from below_drewN _ _ 1).trans b6
        have hk6 := HBK5.out.below hb6
        have f6 := hk6.frozen 0
        have s6 := hk6.cell 0
        have hSC := (show _ ∧ _ from ⟨(HX5.out.below hb6).cell 0, (HX5.out.below hb6).cell 1⟩)
        have HO6 := Lib.hid o6
        have HB6 := Lib.hid hb6
        clear hk6 o6 b6 hb6
        refine hK'.out _ _ ?_ (fun hSn => ?_)
        · exact hSC
        clear hK' K' hS
        have hS := hSn
        clear hSn
        try simp only [Act.put, pu]
        refine tkY 7 ?_ rfl hS ?_ ?_
        rotate_left
        · intro wz hz
          obtain ⟨z0, z1⟩ := hz
          go_simp
          all_goals first | with_reducible rfl | omega
        try simp only [Act.put, pu]
        refine tkY 8 ?_ rfl hS ?_ ?_
        rotate_left
        · intro wz hz
          obtain ⟨z0, z1⟩ := hz
          go_simp
          all_goals first | with_reducible rfl | omega
        try simp only [Act.put, pu]
        refine wpAnyH_ready (rs := [9]) (by kernel_rfl) (by simp) (AllReadyH.cons rfl (fun K' hK' => ?_) AllReadyH.nil)
        go_simp
        refine hK'.out _ _ ?_ (fun hSn => ?_)
        · have hk7 := (HX5.out.below HB6.out).far (p := ⟨g, 0, none⟩) HX2G.out (.slice v6 ((xk, xz) :: T).length c6)
          exact ⟨hk7.cell 0, hk7.cell 1⟩
        clear hK' K' hS hSn
        refine wpAnyH_done (by kernel_rfl) ?_ _
        have hlb : (∀ q, (Value.slice v6 ((xk, xz) :: T).length c6).ownBlock = some q → q ≠ g) := HO6.out.off (g := g) HBK5.out.lt
        obtain ⟨w7, hw7⟩ : ∃ w7, w6.setCell ⟨g, 0, none⟩ (.slice v6 (T.length + 1) c6) = w7 := ⟨_, rfl⟩
        have hr7 : RS w0 w7 g al ke mo ((xk, xz) :: T) KD := by rw [← hw7]; exact (HR5'.out.below HB6.out).setT (HO6.out.mono HR5'.out.bel.size) hlb
        have hc7 : Chg (fun b => b = g) wr w7 := by rw [← hw7]; exact (HC5'.out.trans (Chg.of_below HB6.out)).setCell (p := ⟨g, 0, none⟩) rfl _
        have hx7 : Bk w7 x2 88 #[.string xk, .int .i64 xz] := by rw [← hw7]; exact (HX5.out.below HB6.out).far (p := ⟨g, 0, none⟩) HX2G.out _
        rw [hw7]
        have HO2 := Lib.hid (HO.out.chg hc7 (HO.out.ng HBK.out))
        have HR2' := Lib.hid hr7
        have HC2 := Lib.hid (HC.out.trans hc7)
        have hbx : Below w7.heap.size w7 (w7.alloc (.cells #[.string xk] 9)) := (Below.refl _ _).alloc (Nat.le_refl _) _
        have HBX := Lib.hid hbx
        clear HO6 HB6 hw7 hlb f6 s6 x0 x1 q0 HBK5 HET5 HX5 HR5' HC5' hr7 hc7 hbx
        have x0 := hx7.cell 0
        clear hx7
        go_wp2_with (at_builtin; refine wpList_app_text w.heap.size (.slice ua D.length uc) D xk w7.heap.size rfl _ _ rfl rfl (HO2.out.below HBX.out) rfl (Bk.new w7 _ _) (by have := HDL.out; have := HLK.out; omega) (by have := HC2.out.size; simp; omega) ?_; intro g9 cap9 w9 o9 gr9)
        have hty := (HO2.out.below HBX.out).ty
        have hr9 : RS w0 w9 g al ke mo ((xk, xz) :: T) KD := (HR2'.out.below HBX.out).chg ((Chg.refl (fun b => (Value.slice ua D.length uc).ownBlock = some b) _).grown gr9 fun q hq _ => hq) fun q hq => ⟨Nat.le_trans HRB.out (hty q hq).1, (hty q hq).2⟩
        have hc9 : Chg (fun b => b = g) w w9 := (HC2.out.alloc _).grown gr9 fun q hq hlt => by have := (hty q hq).1; omega
        have HR9 := Lib.hid hr9
        have HC9 := Lib.hid hc9
        have HO9 := Lib.hid o9
        clear hty hr9 hc9 o9 gr9 x0
        go_wp2
        go_roundg gk2
        case measure => exact Nat.lt_succ_self _
        case rel =>
          refine ⟨(xk, xz) :: T, KD, D ++ [xk], HKL.out, HU2.out, HPT2.out, HPK2.out, HS2.out, HR9.out, HC9.out, ⟨_, _, by rw [List.length_append]; rfl⟩, by have := HO9.out; simpa using this, by have := HDL.out; rw [List.length_append]; simp; omega, ?_⟩
          rw [HSH.out]
          simp
end Go.Proofs.Ytfilmbeoggmglaa.SL
