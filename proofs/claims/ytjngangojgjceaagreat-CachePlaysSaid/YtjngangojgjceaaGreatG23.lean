/- The document's cache: Bytes, Keys, Drop. Conditions: how many, how long keys are.
   The document's cache: Tick, Flush. Conditions: how many, how long keys are.
   The document's cache: Get. Conditions: how many, how long keys are.
   The document's cache: Put. Conditions: how many, how long keys and values are.
   The document's cache: New. Condition: the numbers are 64-bit ones. -/
import Derived.Test.YtjngangojgjceaaGreatG22
set_option linter.unusedSimpArgs false
set_option linter.unusedVariables false
namespace Go.Proofs.YtjngangojgjceaaGreat.CA
open Go.ChangeShapes Go.WideShapes Go.ChangeAt Go.RowKit Go.Maps Go.ChangeMaps
open Go.Proofs.YtjngangojgjceaaGreat.SL Go.Proofs.YtjngangojgjceaaGreat.EX Go.Proofs.YtjngangojgjceaaGreat.RW
set_option maxRecDepth 100000
set_option linter.unusedVariables false
set_option linter.unusedSimpArgs false

section
variable {w0 w w' : World} {R : Rb} {N : Nat} {σ : Sg}
/-- what a call reads of the document's cache -/
theorem RT.look (h : RT w0 w R N σ) : ∃ aT cT aK cK, w.cell? ⟨R.r, 0, none⟩ = some (ptr R.s) ∧ w.cell? ⟨R.r, 1, none⟩ = some (ptr R.q) ∧ w.cell? ⟨R.s, 0, none⟩ = some (.slice aT σ.T.length cT) ∧ w.cell? ⟨R.s, 1, none⟩ = some (.slice aK σ.K.length cK) ∧ ER w (.slice aT σ.T.length cT) σ.T ∧ ER w (.slice aK σ.K.length cK) σ.K := by
  obtain ⟨va, vc, L, hr, ⟨aT, cT, aK, cK, s1, s2, s3, _⟩, hq, hp, _⟩ := h
  exact ⟨aT, cT, aK, cK, hr.cell 0, hr.cell 1, s1.cell 0, s1.cell 1, s2.er, s3.er⟩
theorem RT.rlt (h : RT w0 w R N σ) : R.r < w.heap.size ∧ R.s < w.heap.size ∧ R.q < w.heap.size := by
  obtain ⟨va, vc, L, hr, hs, hq, _⟩ := h
  obtain ⟨scs, hsk⟩ := CA.RS.bk hs
  exact ⟨hr.lt, hsk.lt, hq.lt⟩
set_option maxHeartbeats 4000000 in
theorem rbytes_any (h : RT w0 w R N σ) (hT : posE σ.T) (hK : posE σ.K) (hs : sumE σ.T + sumE σ.K ≤ 1073741824) (z : Int) (hz : sumE σ.T + sumE σ.K = z) :
    Calls Tryz.prog 24 #[ptr R.r] w fun e w' => e = .returned (.int .i64 z) ∧ Below w.heap.size w w' := by
  have nT := sum_nonneg hT
  have nK := sum_nonneg hK
  have lk := h.look
  obtain ⟨rl, sl, _⟩ := h.rlt
  obtain ⟨aT, cT, aK, cK, a0, _, b0, b1, eT, eK⟩ := lk
  obtain ⟨p, hp⟩ : ∃ p, sumE σ.T = p := ⟨_, rfl⟩
  obtain ⟨q, hq⟩ : ∃ q, sumE σ.K = q := ⟨_, rfl⟩
  rw [hp] at hz nT hs
  rw [hq] at hz nK hs
  have wz : IntKind.i64.wrap (q + p) = z := by rw [← hz, show q + p = p + q by omega]; exact IntWalk.i64_in _ (by omega)
  have HTC := Lib.hid (fun W (hb : Below w.heap.size w W) => rsum_any _ σ.T W (eT.below hb) hT (by rw [hp]; omega))
  have HKC := Lib.hid (fun W (hb : Below w.heap.size w W) => rsum_any _ σ.K W (eK.below hb) hK (by rw [hq]; omega))
  rw [hp] at HTC
  rw [hq] at HKC
  have HA := Lib.hid a0
  have HB0 := Lib.hid b0
  have HB1 := Lib.hid b1
  have HRL := Lib.hid rl
  have HSL := Lib.hid sl
  clear h hT hK hs hz nT nK hp hq a0 b0 b1 rl sl eT eK
  go_enter Tryz.func24, Tryz.ntmps24
  go_wp2_with fail
  refine wp_region_held_drew (S := (fun w' => Below w.heap.size w w')) (by kernel_rfl) ?_ (fun hS => ?_)
  · exact (Below.refl _ _).drew
  refine tkY 0 ?_ rfl hS ?_ ?_
  rotate_left
  · intro wz hz
    have z0 := (hz.cell (p := ⟨R.r, 0, none⟩) HRL.out).trans HA.out
    have z1 := (hz.cell (p := ⟨R.s, 0, none⟩) HSL.out).trans HB0.out
    have z2 := (hz.cell (p := ⟨R.s, 1, none⟩) HSL.out).trans HB1.out
    go_simp
    all_goals first | with_reducible rfl | omega
  try simp only [Act.put, pu]
  refine tkY 1 ?_ rfl hS ?_ ?_
  rotate_left
  · intro wz hz
    have z0 := (hz.cell (p := ⟨R.r, 0, none⟩) HRL.out).trans HA.out
    have z1 := (hz.cell (p := ⟨R.s, 0, none⟩) HSL.out).trans HB0.out
    have z2 := (hz.cell (p := ⟨R.s, 1, none⟩) HSL.out).trans HB1.out
    go_simp
    all_goals first | with_reducible rfl | omega
  try simp only [Act.put, pu]
  refine tkY 2 ?_ rfl hS ?_ ?_
  rotate_left
  · intro wz hz
    have z0 := (hz.cell (p := ⟨R.r, 0, none⟩) HRL.out).trans HA.out
    have z1 := (hz.cell (p := ⟨R.s, 0, none⟩) HSL.out).trans HB0.out
    have z2 := (hz.cell (p := ⟨R.s, 1, none⟩) HSL.out).trans HB1.out
    go_simp
    all_goals first | with_reducible rfl | omega
  try simp only [Act.put, pu]
  refine tkY 3 ?_ rfl hS ?_ ?_
  rotate_left
  · intro wz hz
    have z0 := (hz.cell (p := ⟨R.r, 0, none⟩) HRL.out).trans HA.out
    have z1 := (hz.cell (p := ⟨R.s, 0, none⟩) HSL.out).trans HB0.out
    have z2 := (hz.cell (p := ⟨R.s, 1, none⟩) HSL.out).trans HB1.out
    go_simp
    all_goals first | with_reducible rfl | omega
  try simp only [Act.put, pu]
  refine tkY 4 ?_ rfl hS ?_ ?_
  rotate_left
  · intro wz hz
    have z0 := (hz.cell (p := ⟨R.r, 0, none⟩) HRL.out).trans HA.out
    have z1 := (hz.cell (p := ⟨R.s, 0, none⟩) HSL.out).trans HB0.out
    have z2 := (hz.cell (p := ⟨R.s, 1, none⟩) HSL.out).trans HB1.out
    go_simp
    all_goals first | with_reducible rfl | omega
  try simp only [Act.put, pu]
  refine tkY 5 ?_ rfl hS ?_ ?_
  rotate_left
  · intro wz hz
    have z0 := (hz.cell (p := ⟨R.r, 0, none⟩) HRL.out).trans HA.out
    have z1 := (hz.cell (p := ⟨R.s, 0, none⟩) HSL.out).trans HB0.out
    have z2 := (hz.cell (p := ⟨R.s, 1, none⟩) HSL.out).trans HB1.out
    go_simp
    all_goals first | with_reducible rfl | omega
  try simp only [Act.put, pu]
  refine tkY 6 ?_ rfl hS ?_ ?_
  rotate_left
  · intro wz hz
    have z0 := (hz.cell (p := ⟨R.r, 0, none⟩) HRL.out).trans HA.out
    have z1 := (hz.cell (p := ⟨R.s, 0, none⟩) HSL.out).trans HB0.out
    have z2 := (hz.cell (p := ⟨R.s, 1, none⟩) HSL.out).trans HB1.out
    go_simp
    all_goals first | with_reducible rfl | omega
  try simp only [Act.put, pu]
  refine tkY 8 ?_ rfl hS ?_ ?_
  rotate_left
  · intro wz hz
    have z0 := (hz.cell (p := ⟨R.r, 0, none⟩) HRL.out).trans HA.out
    have z1 := (hz.cell (p := ⟨R.s, 0, none⟩) HSL.out).trans HB0.out
    have z2 := (hz.cell (p := ⟨R.s, 1, none⟩) HSL.out).trans HB1.out
    go_simp
    all_goals first | with_reducible rfl | omega
  try simp only [Act.put, pu]
  refine tkY 9 ?_ rfl hS ?_ ?_
  rotate_left
  · intro wz hz
    have z0 := (hz.cell (p := ⟨R.r, 0, none⟩) HRL.out).trans HA.out
    have z1 := (hz.cell (p := ⟨R.s, 0, none⟩) HSL.out).trans HB0.out
    have z2 := (hz.cell (p := ⟨R.s, 1, none⟩) HSL.out).trans HB1.out
    go_simp
    all_goals first | with_reducible rfl | omega
  try simp only [Act.put, pu]
  refine tkY 10 ?_ rfl hS ?_ ?_
  rotate_left
  · intro wz hz
    have z0 := (hz.cell (p := ⟨R.r, 0, none⟩) HRL.out).trans HA.out
    have z1 := (hz.cell (p := ⟨R.s, 0, none⟩) HSL.out).trans HB0.out
    have z2 := (hz.cell (p := ⟨R.s, 1, none⟩) HSL.out).trans HB1.out
    go_simp
    all_goals first | with_reducible rfl | omega
  try simp only [Act.put, pu]
  refine tkY 11 ?_ rfl hS ?_ ?_
  rotate_left
  · intro wz hz
    have z0 := (hz.cell (p := ⟨R.r, 0, none⟩) HRL.out).trans HA.out
    have z1 := (hz.cell (p := ⟨R.s, 0, none⟩) HSL.out).trans HB0.out
    have z2 := (hz.cell (p := ⟨R.s, 1, none⟩) HSL.out).trans HB1.out
    go_simp
    all_goals first | with_reducible rfl | omega
  try simp only [Act.put, pu]
  refine tkY 12 ?_ rfl hS ?_ ?_
  rotate_left
  · intro wz hz
    have z0 := (hz.cell (p := ⟨R.r, 0, none⟩) HRL.out).trans HA.out
    have z1 := (hz.cell (p := ⟨R.s, 0, none⟩) HSL.out).trans HB0.out
    have z2 := (hz.cell (p := ⟨R.s, 1, none⟩) HSL.out).trans HB1.out
    go_simp
    all_goals first | with_reducible rfl | omega
  try simp only [Act.put, pu]
  refine tkY 13 ?_ rfl hS ?_ ?_
  rotate_left
  · intro wz hz
    have z0 := (hz.cell (p := ⟨R.r, 0, none⟩) HRL.out).trans HA.out
    have z1 := (hz.cell (p := ⟨R.s, 0, none⟩) HSL.out).trans HB0.out
    have z2 := (hz.cell (p := ⟨R.s, 1, none⟩) HSL.out).trans HB1.out
    go_simp
    all_goals first | with_reducible rfl | omega
  try simp only [Act.put, pu]
  refine tkY 14 ?_ rfl hS ?_ ?_
  rotate_left
  · intro wz hz
    have z0 := (hz.cell (p := ⟨R.r, 0, none⟩) HRL.out).trans HA.out
    have z1 := (hz.cell (p := ⟨R.s, 0, none⟩) HSL.out).trans HB0.out
    have z2 := (hz.cell (p := ⟨R.s, 1, none⟩) HSL.out).trans HB1.out
    go_simp
    all_goals first | with_reducible rfl | omega
  try simp only [Act.put, pu]
  refine wpAnyH_ready (rs := [7]) (by kernel_rfl) (by simp) (AllReadyH.cons rfl (fun K' hK' => ?_) AllReadyH.nil)
  go_simp
  have hbd : Below w.heap.size w w.drew := (Below.refl _ _).drew
  refine (HKC.out _ hbd).mono ?_
  rintro e w4 ⟨rfl, m4, hm4⟩
  have HB4 : Hid (Below w.heap.size w w4) := Lib.hid (by rw [hm4]; exact hbd.trans ((SL.below_drewN _ _ _).mono hbd.size))
  clear hm4 hbd
  refine hK'.out _ _ ?_ (fun hSn => ?_)
  · exact HB4.out
  clear hK' K' hS
  have hS := hSn
  clear hSn
  try simp only [Act.put, pu]
  refine wpAnyH_ready (rs := [15]) (by kernel_rfl) (by simp) (AllReadyH.cons rfl (fun K' hK' => ?_) AllReadyH.nil)
  go_simp
  refine (HTC.out _ HB4.out).mono ?_
  rintro e w5 ⟨rfl, m5, hm5⟩
  have HB5 : Hid (Below w.heap.size w w5) := Lib.hid (by rw [hm5]; exact HB4.out.trans ((SL.below_drewN _ _ _).mono HB4.out.size))
  clear hm5
  refine hK'.out _ _ ?_ (fun hSn => ?_)
  · exact HB5.out
  clear hK' K' hS
  have hS := hSn
  clear hSn
  try simp only [Act.put, pu]
  refine tkY 16 ?_ rfl hS ?_ ?_
  rotate_left
  · intro wz hz
    go_simp
    all_goals first | with_reducible rfl | omega
  try simp only [Act.put, pu]
  refine tkY 17 ?_ rfl hS ?_ ?_
  rotate_left
  · intro wz hz
    go_simp
    all_goals first | with_reducible rfl | omega
  try simp only [Act.put, pu]
  refine wpAnyH_done (by kernel_rfl) ?_ _
  clear hS
  go_wp2
  go_ret
  exact ⟨rfl, HB5.out⟩
set_option maxHeartbeats 4000000 in
theorem rkeysR_any (h : RT w0 w R N σ) (hl : okL σ) (D : List ByteArray) (hD : keysE σ.K ++ keysE σ.T = D) (hs : ∀ t ∈ D, t.size ≤ 4000) :
    Calls Tryz.prog 22 #[ptr R.r] w (RKeysC (D.map parK) w) := by
  obtain ⟨rl, sl, _⟩ := h.rlt
  obtain ⟨aT, cT, aK, cK, a0, _, b0, b1, eT, eK⟩ := h.look
  obtain ⟨dK, hdK⟩ : ∃ d, keysE σ.K = d := ⟨_, rfl⟩
  obtain ⟨dT, hdT⟩ : ∃ d, keysE σ.T = d := ⟨_, rfl⟩
  have lK : dK.length ≤ 1073741824 := by rw [← hdK]; unfold keysE; rw [List.length_map]; exact hl.2
  have lT : dT.length ≤ 1073741824 := by rw [← hdT]; unfold keysE; rw [List.length_map]; exact hl.1
  have HTC := Lib.hid (fun W (hb : Below w.heap.size w W) => SL.rkeys_any _ σ.T W (eT.below hb) hl.1)
  have HKC := Lib.hid (fun W (hb : Below w.heap.size w W) => SL.rkeys_any _ σ.K W (eK.below hb) hl.2)
  rw [hdT] at HTC
  rw [hdK] at HKC
  rw [hdK, hdT] at hD
  have HD := Lib.hid hD
  have HLD : Hid (D.length ≤ 2147483648) := Lib.hid (by rw [← hD, List.length_append]; omega)
  have HS : Hid (∀ t ∈ D, t.size ≤ 1099511627776) := Lib.hid (fun t ht => by have := hs t ht; omega)
  have HLK := Lib.hid lK
  have HLT := Lib.hid lT
  have HX : Hid (∀ W, Below w.heap.size w W → W.cell? ⟨R.r, 0, none⟩ = some (ptr R.s) ∧ W.cell? ⟨R.s, 0, none⟩ = some (.slice aT σ.T.length cT) ∧ W.cell? ⟨R.s, 1, none⟩ = some (.slice aK σ.K.length cK)) := Lib.hid fun W hb => ⟨(hb.cell (p := ⟨R.r, 0, none⟩) rl).trans a0, (hb.cell (p := ⟨R.s, 0, none⟩) sl).trans b0, (hb.cell (p := ⟨R.s, 1, none⟩) sl).trans b1⟩
  unfold RKeysC
  clear h hl hD hs hdK hdT lK lT rl sl b0 eT eK
  go_enter Tryz.func22, Tryz.ntmps22
  go_wp2_with fail
  refine (HKC.out _ (Below.refl _ _)).mono ?_
  rintro e w1 ⟨u, rfl, ou, hb1⟩
  obtain ⟨ua, uc, rfl⟩ := SL.OT.form ou
  have HU := Lib.hid ou
  have HB1 := Lib.hid hb1
  clear ou hb1 a0 b1
  go_wp2_with (at_builtin; refine wpList_app_texts w.heap.size (.slice none 0 0) [] (.slice ua dK.length uc) dK dK rfl rfl _ _ rfl rfl (SL.OT.nil _ _) rfl HU.out.ts (by have := HLK.out; simp; omega) HB1.out.size ?_; intro v2 c2 w2 o2 gr2; have HB2 : Hid (Below w.heap.size w w2) := Lib.hid (gr2.elim (fun g => HB1.out.grown g HB1.out.size fun k hk => by cases (show (none : Option Nat) = some k from hk)) fun e => e ▸ HB1.out); have HO2 := Lib.hid o2; obtain ⟨x0, x1, x2⟩ := HX.out _ HB2.out; clear o2 gr2)
  refine (HTC.out _ HB2.out).mono ?_
  rintro e w3 ⟨u, rfl, ou, hb3⟩
  obtain ⟨ta, tc, rfl⟩ := SL.OT.form ou
  have HU3 := Lib.hid ou
  have HO2 := Lib.hid (SL.OT.below HO2.out hb3)
  have HB3 := Lib.hid (HB2.out.trans (hb3.mono HB2.out.size))
  clear ou hb3 x0 x1 x2
  go_wp2_with (at_builtin; refine wpList_app_texts w.heap.size (.slice v2 dK.length c2) dK (.slice ta dT.length tc) dT D HD.out rfl _ _ rfl rfl HO2.out rfl HU3.out.ts (by have := HLK.out; have := HLT.out; omega) HB3.out.size ?_; intro v4 c4 w4 o4 gr4; have HB4 : Hid (Below w.heap.size w w4) := Lib.hid (gr4.elim (fun g => HB3.out.grown g HB3.out.size fun k hk => (World.ownsRow.lt HO2.out k hk).1) fun e => e ▸ HB3.out); have HO4 := Lib.hid o4; clear o4 gr4)
  refine (CA.rkeys_any _ D _ HO4.out.ts (by have := HLD.out; omega) HS.out).mono ?_
  rintro e w5 ⟨a5, c5, rfl, o5, hb5⟩
  have HO5 := Lib.hid (o5.mono HB4.out.size)
  have HB5 := Lib.hid (HB4.out.trans (hb5.mono HB4.out.size))
  clear o5 hb5
  go_wp2
  go_ret
  refine ⟨a5, c5, ?_, HO5.out, HB5.out⟩
  rw [List.length_map]; rfl
/-- a Drop by the document -/
theorem rdropS_any (h : RT w0 w R N σ) (hl : okL σ) (hN : N ≤ 1000000) (k : Ky) (hk : FitK k) (hi : ∀ t, (hasS t σ.T σ.K).isSome = (σ.V t).isSome) (Q : Bool × Sg) (hQ : dropR k σ = Q) (hV : (σ.V (textK k)) = none → dropS (textK k) σ = σ) :
    Calls Tryz.prog 15 #[ptr R.r, kyV k] w (RetR w0 R N Q.2 w (.bool Q.1)) := by
  obtain ⟨kb, hkb⟩ : ∃ g, w.heap.size = g := ⟨_, rfl⟩
  obtain ⟨W, hW⟩ : ∃ W, w.alloc (.cells (kC k) 42) = W := ⟨_, rfl⟩
  have hb : Below w.heap.size w W := by rw [← hW]; exact (Below.refl _ _).alloc (Nat.le_refl _) _
  have kk : Bk W kb 42 (kC k) := by rw [← hW, ← hkb]; exact Bk.new _ _ _
  have HKK := Lib.hid kk
  have HB := Lib.hid hb
  have HRR := Lib.hid (fun W => rright_any k hk W)
  have HRT := Lib.hid (fun W => rtext_any k hk W)
  have HH := Lib.hid (h.below hb)
  have HL := Lib.hid hl
  have HN := Lib.hid hN
  unfold RetR
  cases hr : rightK k with
  | false =>
    have hq : Q = (false, σ) := by rw [← hQ]; unfold dropR fV; rw [if_neg (by rw [hr]; decide)]
    subst hq
    rw [hr] at HRR
    obtain ⟨db, ro, fm, no⟩ := k
    have a0 : W.cell? ⟨kb, 0, none⟩ = some (.string db) := kk.cell 0
    have a1 : W.cell? ⟨kb, 1, none⟩ = some (.string ro) := kk.cell 1
    have a2 : W.cell? ⟨kb, 2, none⟩ = some (.int .i64 fm) := kk.cell 2
    have a3 : W.cell? ⟨kb, 3, none⟩ = some (.string no) := kk.cell 3
    clear h hl hN hk hi hQ hV hb kk hr HRT HKK
    go_enter Tryz.func15, Tryz.ntmps15
    go_wp2_with fail
    try rw [hW]
    try rw [hkb]
    refine (HRR.out _).mono ?_
    rintro e w2 ⟨rfl, b2⟩
    have HH := Lib.hid (HH.out.below b2)
    have HB := Lib.hid (HB.out.trans (b2.mono HB.out.size))
    clear b2 a0 a1 a2 a3
    go_wp2
    go_ret
    exact ⟨rfl, HH.out, Chg.of_below HB.out⟩
  | true =>
    have hg : ∃ b, (hasS (textK k) σ.T σ.K).isSome = b ∧ Q.1 = b ∧ Q.2 = dropS (textK k) σ := by
      refine ⟨_, rfl, ?_⟩
      rw [hi]
      rw [← hQ]
      unfold dropR fV
      rw [if_pos hr]
      cases hv : σ.V (textK k) with
      | none => exact ⟨rfl, (hV hv).symm⟩
      | some v => exact ⟨rfl, rfl⟩
    obtain ⟨b, hb1, hb2, hb3⟩ := hg
    rw [hb2, hb3]
    have HBB := Lib.hid hb1
    rw [hr] at HRR
    rw [txt_right hr] at HRT
    obtain ⟨t, ht⟩ : ∃ t, textK k = t := ⟨_, rfl⟩
    rw [ht] at HRT HBB ⊢
    obtain ⟨db, ro, fm, no⟩ := k
    have a0 : W.cell? ⟨kb, 0, none⟩ = some (.string db) := kk.cell 0
    have a1 : W.cell? ⟨kb, 1, none⟩ = some (.string ro) := kk.cell 1
    have a2 : W.cell? ⟨kb, 2, none⟩ = some (.int .i64 fm) := kk.cell 2
    have a3 : W.cell? ⟨kb, 3, none⟩ = some (.string no) := kk.cell 3
    clear h hl hN hk hi hQ hV hb kk hr hb1 hb2 hb3 ht
    go_enter Tryz.func15, Tryz.ntmps15
    go_wp2_with fail
    try rw [hW]
    try rw [hkb]
    refine (HRR.out _).mono ?_
    rintro e w2 ⟨rfl, b2⟩
    have HH := Lib.hid (HH.out.below b2)
    have HKK := Lib.hid (HKK.out.below b2)
    have HB := Lib.hid (HB.out.trans (b2.mono HB.out.size))
    clear b2 a0 a1 a2 a3
    have a0 : w2.cell? ⟨kb, 0, none⟩ = some (.string db) := HKK.out.cell 0
    have a1 : w2.cell? ⟨kb, 1, none⟩ = some (.string ro) := HKK.out.cell 1
    have a2 : w2.cell? ⟨kb, 2, none⟩ = some (.int .i64 fm) := HKK.out.cell 2
    have a3 : w2.cell? ⟨kb, 3, none⟩ = some (.string no) := HKK.out.cell 3
    go_wp2_with fail
    refine (HRT.out _).mono ?_
    rintro e w3 ⟨rfl, b3⟩
    have HH := Lib.hid (HH.out.below b3)
    have HB := Lib.hid (HB.out.trans (b3.mono HB.out.size))
    clear b3 a0 a1 a2 a3
    go_wp2_with fail
    refine (rgone_any HH.out HL.out HN.out t).mono ?_
    unfold RetR
    rw [HBB.out]
    rintro e w4 ⟨rfl, h4, hc4⟩
    have H4 := Lib.hid h4
    have HC4 := Lib.hid hc4
    clear h4 hc4
    go_wp2
    go_ret
    exact ⟨rfl, H4.out, (Chg.of_below HB.out).trans HC4.out⟩
end
end Go.Proofs.YtjngangojgjceaaGreat.CA
namespace Go.Proofs.YtjngangojgjceaaGreat.CA
open Go.ChangeShapes Go.WideShapes Go.ChangeAt Go.RowKit Go.Maps Go.ChangeMaps
open Go.Proofs.YtjngangojgjceaaGreat.SL Go.Proofs.YtjngangojgjceaaGreat.EX Go.Proofs.YtjngangojgjceaaGreat.RW
set_option maxRecDepth 100000
set_option linter.unusedVariables false
set_option linter.unusedSimpArgs false

section
variable {w0 w w' : World} {R : Rb} {N : Nat} {σ : Sg}
/-- the queue changed -/
theorem RT.queue (h : RT w0 w R N σ) {w1 : World} {I' : List It} (q1 : RQ w0.heap.size w1 R.q I') (hc : Chg (fun b => b = R.q) w w1) {N' : Nat} (hl : I'.length ≤ N') (hN : N ≤ N') : StR w0 R N' ⟨σ.T, σ.K, I', σ.V⟩ w w1 := by
  have hbel := h.bel
  obtain ⟨va, vc, L, hr, hs, hq, hp, hv, hn, hi, hb⟩ := h
  obtain ⟨qcs, hqk⟩ := CA.RQ.bk hq
  have hbe1 : Below w0.heap.size w0 w1 := below_chg hbel hc (fun b hb => by rw [hb]; obtain ⟨_, _, _, _, h⟩ := hq; exact h)
  exact ⟨⟨va, vc, L, (kt_one hqk hc (t := 78) (by decide)).bk hr, CA.RS.kt hs (kt_one hqk hc (by decide)) (kt_one hqk hc (by decide)) hbe1, q1, hp.kt (kt_one hqk hc (by decide)), hv, Nat.le_trans hn hN, hl, hb⟩, hc.mono fun b _ hb => .inr (.inr hb)⟩
/-- the store changed -/
theorem RT.store (h : RT w0 w R N σ) {w1 : World} {T' K' : List En} (s1 : RS w0 w1 R.s R.al R.ke R.mo T' K') (hc : Chg (fun b => b = R.s) w w1) : StR w0 R N ⟨T', K', σ.I, σ.V⟩ w w1 := by
  obtain ⟨va, vc, L, hr, hs, hq, hp, hv, hn, hi, hb⟩ := h
  obtain ⟨scs, hsk⟩ := CA.RS.bk hs
  exact ⟨⟨va, vc, L, (kt_one hsk hc (t := 78) (by decide)).bk hr, s1, CA.RQ.kt hq (kt_one hsk hc (by decide)) (kt_one hsk hc (by decide)), hp.kt (kt_one hsk hc (by decide)), hv, hn, hi, hb⟩, hc.mono fun b _ hb => .inr (.inl hb)⟩
theorem okL.drops (h : okL σ) (l : List ByteArray) : okL (dropsS l σ) := by
  unfold okL
  rw [dropsS_T, dropsS_K]
  exact ⟨Nat.le_trans (List.length_filter_le _ _) h.1, Nat.le_trans (List.length_filter_le _ _) h.2⟩
theorem drops_take {l : List ByteArray} {j : Nat} {t : ByteArray} (h : l[j]? = some t) (s : Sg) : dropsS (l.take (j + 1)) s = dropS t (dropsS (l.take j) s) := by
  rw [List.take_add_one, h]; unfold dropsS; rw [List.foldl_append]; rfl
theorem RT.own_lt (h : RT w0 w R N σ) {b : Nat} (hb : R.own b) : b < w.heap.size := by
  obtain ⟨h1, h2, h3⟩ := h.rlt
  rcases hb with rfl | rfl | rfl <;> assumption
/-- what tells of keys -/
def RForP (w0 : World) (R : Rb) (N : Nat) (σ : Sg) (D : List Ky) (w : World) (e : Ending) (w' : World) : Prop := ∃ a c, e = .returned (.slice a D.length c) ∧ KR w' (.slice a D.length c) D ∧ StR w0 R N σ w w'
set_option maxHeartbeats 4000000 in
theorem rtickS_any (h : RT w0 w R N σ) (hl : okL σ) (hN : N ≤ 1000000) (now : Int) (d : List ByteArray) (hd : keysI (leI now σ.I) = d) (hs : ∀ t ∈ d, t.size ≤ 4000) (σ' : Sg) (hσ : tickS now σ = σ') :
    Calls Tryz.prog 17 #[ptr R.r, .int .i64 now] w (RForP w0 R N σ' (d.map parK) w) := by
  have hx : ∃ s1, (⟨σ.T, σ.K, gtI now σ.I, σ.V⟩ : Sg) = s1 := ⟨_, rfl⟩
  obtain ⟨s1, hs1⟩ := hx
  have hσ' : dropsS d s1 = σ' := by rw [← hd, ← hs1]; exact hσ
  have hq0 : RQ w0.heap.size w R.q σ.I ∧ σ.I.length ≤ N := by obtain ⟨va, vc, L, hr, hs, hq, hp, hv, hn, hi, hb⟩ := h; exact ⟨hq, hi⟩
  have hdl : d.length ≤ N := by
    have : (leI now σ.I).length ≤ σ.I.length := List.length_filter_le _ _
    rw [← hd]; unfold keysI; rw [List.length_map]; have := hq0.2; omega
  have hgl : (gtI now σ.I).length ≤ N := Nat.le_trans (List.length_filter_le _ _) hq0.2
  have HDUE := Lib.hid (rdue_any hq0.1 (by have := hq0.2; omega) now _ rfl d hd)
  have HQ := Lib.hid (fun w1 (q1 : RQ w0.heap.size w1 R.q (gtI now σ.I)) hc => h.queue q1 hc hgl (Nat.le_refl _))
  rw [hs1] at HQ
  have HLK : Hid (okL s1) := Lib.hid (by rw [← hs1]; exact hl)
  obtain ⟨_, _, _, _, _, r1, _⟩ := h.look
  have HOL := Lib.hid (fun b hb => RT.own_lt h (b := b) hb)
  have HSG := Lib.hid hσ'
  have HDL := Lib.hid hdl
  have HN := Lib.hid hN
  have HS := Lib.hid hs
  unfold RForP
  clear h hl hN hd hs hσ hs1 hσ' hq0 hdl hgl
  go_enter Tryz.func17, Tryz.ntmps17
  go_wp2_with fail
  refine HDUE.out.mono ?_
  rintro e w1 ⟨dv, rfl, od, q1, hc1⟩
  obtain ⟨da, dc, rfl⟩ := SL.OT.form od
  have H1 := Lib.hid (HQ.out w1 q1 hc1)
  have HOD := Lib.hid od
  clear od q1 hc1 HQ HDUE r1
  go_wp2
  go_loopg [6] d.length (fun g u6 wx => ∃ j : Nat, u6 = .int .i64 (j : Int) ∧ j + g = d.length ∧ StR w0 R N (dropsS (d.take j) s1) w wx ∧ OT w.heap.size wx (.slice da d.length dc) d)
  case atStart => exact ⟨0, rfl, by omega, H1.out, HOD.out⟩
  case round =>
    obtain ⟨j, rfl, hj, hst, hot⟩ := hrel
    have HST := Lib.hid hst
    have HOT := Lib.hid hot
    cases gk with
    | zero =>
      have hjl : j = d.length := by omega
      have l1 : ¬ ((j : Int) < (d.length : Int)) := by omega
      have HF : Hid (StR w0 R N σ' w wr) := Lib.hid (by rw [hjl, List.take_length, HSG.out] at hst; exact hst)
      have hds : ∀ t ∈ d, t.size ≤ 1099511627776 := fun t ht => by have := HS.out t ht; omega
      have HDS := Lib.hid hds
      clear hj hst hot hjl hds
      go_wp2_with fail
      refine (CA.rkeys_any _ d _ HOT.out.ts (by have := HDL.out; have := HN.out; omega) HDS.out).mono ?_
      rintro e w5 ⟨a5, c5, rfl, o5, hb5⟩
      have HF := Lib.hid (HF.out.below hb5)
      have HO5 := Lib.hid o5
      clear o5 hb5
      go_wp2
      go_ret
      refine ⟨a5, c5, ?_, HO5.out.kr, HF.out⟩
      rw [List.length_map]; rfl
    | succ g =>
      have hlt : j < d.length := by omega
      obtain ⟨b, off, cap, he, hc, hx⟩ := hot.ts.inv (by omega)
      injection he with e1 _ e3
      subst e1 e3
      obtain ⟨y, hy⟩ : ∃ y, d[j] = y := ⟨_, rfl⟩
      have hyi : d[j]? = some y := by rw [List.getElem?_eq_getElem hlt, hy]
      have x0 := hx j y hyi
      have l0 : (0 : Int) ≤ (j : Int) := by omega
      have l1 : (j : Int) < (d.length : Int) := by omega
      obtain ⟨j1, hj1⟩ : ∃ j1, j + 1 = j1 := ⟨_, rfl⟩
      have wk : IntKind.i64.wrap ((j : Int) + 1) = (j1 : Int) := by rw [show (j : Int) + 1 = (j1 : Int) by omega]; exact IntWalk.i64_in _ (by have := HDL.out; have := HN.out; omega)
      have HJ : Hid (j1 + g = d.length) := Lib.hid (by omega)
      have hdt := drops_take hyi s1
      rw [hj1] at hdt
      have HDT := Lib.hid hdt
      clear hj hst hot hc hx hy hyi hj1 hlt hdt
      go_wp2_with fail
      refine (rgone_any HST.out.1 (HLK.out.drops _) HN.out y).mono ?_
      rintro e w4 ⟨rfl, h4⟩
      have H4 : Hid (StR w0 R N (dropsS (d.take j1) s1) w w4) := Lib.hid (by rw [HDT.out]; exact HST.out.trans h4)
      have HO4 := Lib.hid (SL.OT.chg HOT.out h4.2 (fun q hq ho => by have := HOL.out q ho; have := (World.ownsRow.lt HOT.out q hq).1; omega))
      clear h4
      go_wp2
      go_roundg g
      case measure => exact Nat.lt_succ_self _
      case rel => exact ⟨j1, rfl, HJ.out, H4.out, HO4.out⟩
set_option maxHeartbeats 4000000 in
theorem rflushS_any (h : RT w0 w R N σ) (hl : okL σ) (hN : N ≤ 1000000) (d : List ByteArray) (hd : allS σ = d) (hs : ∀ t ∈ d, okP t = true ∧ t.size ≤ 4000) (σ' : Sg) (hσ : flushS σ = σ') :
    Calls Tryz.prog 19 #[ptr R.r] w (RetR w0 R N σ' w (.int .i64 (d.length : Int))) := by
  have hσ' : dropsS d σ = σ' := by rw [← hd]; exact hσ
  have hdl : d.length ≤ 2147483648 := by
    have h1 := hl.1
    have h2 := hl.2
    rw [← hd]; unfold allS keysE; rw [List.length_append, List.length_map, List.length_map]; omega
  have HKEYS := Lib.hid (rkeysR_any h hl d hd fun t ht => (hs t ht).2)
  obtain ⟨Dm, hDm⟩ : ∃ D, d.map parK = D := ⟨_, rfl⟩
  have hml : Dm.length = d.length := by rw [← hDm, List.length_map]
  rw [hDm] at HKEYS
  have HDm := Lib.hid hDm
  have HML := Lib.hid hml
  have HLK := Lib.hid hl
  have HOL := Lib.hid (fun b hb => RT.own_lt h (b := b) hb)
  have HSG := Lib.hid hσ'
  have HDL := Lib.hid hdl
  have HN := Lib.hid hN
  have HS := Lib.hid hs
  have HH := Lib.hid h
  unfold RetR
  clear h hl hN hd hs hσ hσ' hdl hDm hml
  go_enter Tryz.func19, Tryz.ntmps19
  go_wp2_with fail
  refine HKEYS.out.mono ?_
  rintro e w1 ⟨da, dc, rfl, od, hb1⟩
  have HOD := Lib.hid od
  have H1 := Lib.hid (StR.below (StR.refl HH.out) hb1)
  clear od hb1 HKEYS
  go_wp2
  go_loopg [4] Dm.length (fun g u4 wx => ∃ j : Nat, u4 = .int .i64 (j : Int) ∧ j + g = Dm.length ∧ StR w0 R N (dropsS (d.take j) σ) w wx ∧ KO 42 w.heap.size wx (.slice da Dm.length dc) Dm)
  case atStart => exact ⟨0, rfl, by omega, H1.out, HOD.out⟩
  case round =>
    obtain ⟨j, rfl, hj, hst, hot⟩ := hrel
    have HST := Lib.hid hst
    have HOT := Lib.hid hot
    cases gk with
    | zero =>
      have hjl : j = d.length := by have := HML.out; omega
      have l1 : ¬ ((j : Int) < (Dm.length : Int)) := by omega
      have HF : Hid (StR w0 R N σ' w wr) := Lib.hid (by rw [hjl, List.take_length, HSG.out] at hst; exact hst)
      clear hj hst hot hjl
      go_wp2
      go_ret
      refine ⟨?_, HF.out⟩
      rw [← HML.out]; rfl
    | succ g =>
      have hlt : j < Dm.length := by omega
      obtain ⟨b, off, cap, he, hc, hx⟩ := hot.kr.inv (by omega)
      injection he with e1 _ e3
      subst e1 e3
      have hltd : j < d.length := by have := HML.out; omega
      obtain ⟨y, hy⟩ : ∃ y, d[j] = y := ⟨_, rfl⟩
      have hyi : d[j]? = some y := by rw [List.getElem?_eq_getElem hltd, hy]
      have hym : y ∈ d := List.mem_of_getElem? hyi
      obtain ⟨k, hk⟩ : ∃ k, parK y = k := ⟨_, rfl⟩
      have hki : Dm[j]? = some k := by rw [← HDm.out, List.getElem?_map, hyi, ← hk]; rfl
      have hfk : FitK k := by rw [← hk]; exact fit_par (HS.out y hym).1 (HS.out y hym).2
      have htk : txt k = y := by
        obtain ⟨p1, p2⟩ := par_ok (HS.out y hym).1
        rw [← hk, txt_right p1, p2]
      have HTX := Lib.hid (fun W => rtext_any k hfk W)
      rw [htk] at HTX
      obtain ⟨x0, x1, x2, x3⟩ := hx j k hki
      have l0 : (0 : Int) ≤ (j : Int) := by omega
      have l1 : (j : Int) < (Dm.length : Int) := by omega
      obtain ⟨j1, hj1⟩ : ∃ j1, j + 1 = j1 := ⟨_, rfl⟩
      have wk : IntKind.i64.wrap ((j : Int) + 1) = (j1 : Int) := by rw [show (j : Int) + 1 = (j1 : Int) by omega]; exact IntWalk.i64_in _ (by have := HDL.out; omega)
      have HJ : Hid (j1 + g = Dm.length) := Lib.hid (by omega)
      have hdt := drops_take hyi σ
      rw [hj1] at hdt
      have HDT := Lib.hid hdt
      obtain ⟨k1, k2, k3, k4⟩ := k
      simp only at x0 x1 x2 x3
      clear hj hst hot hc hx hy hyi hj1 hlt hltd hdt hym hk hki hfk htk
      go_wp2_with fail
      refine (HTX.out _).mono ?_
      rintro e w3 ⟨rfl, hb3⟩
      have HST := Lib.hid (HST.out.below hb3)
      have HOT := Lib.hid (HOT.out.keepB fun b hb => hb3.block b (World.ownsRow.lt HOT.out b hb).2)
      clear hb3 x0 x1 x2 x3
      go_wp2_with fail
      refine (rgone_any HST.out.1 (HLK.out.drops _) HN.out y).mono ?_
      rintro e w4 ⟨rfl, h4⟩
      have H4 : Hid (StR w0 R N (dropsS (d.take j1) σ) w w4) := Lib.hid (by rw [HDT.out]; exact HST.out.trans h4)
      have HO4 := Lib.hid (HOT.out.keepB fun q hq => h4.2.block q (World.ownsRow.lt HOT.out q hq).2 fun ho => by have := HOL.out q ho; have := (World.ownsRow.lt HOT.out q hq).1; omega)
      clear h4
      go_wp2
      go_roundg g
      case measure => exact Nat.lt_succ_self _
      case rel => exact ⟨j1, rfl, HJ.out, H4.out, HO4.out⟩
end
end Go.Proofs.YtjngangojgjceaaGreat.CA
namespace Go.Proofs.YtjngangojgjceaaGreat.CA
open Go.ChangeShapes Go.WideShapes Go.ChangeAt Go.RowKit Go.Maps Go.ChangeMaps
open Go.Proofs.YtjngangojgjceaaGreat.SL Go.Proofs.YtjngangojgjceaaGreat.EX Go.Proofs.YtjngangojgjceaaGreat.RW
set_option maxRecDepth 100000
set_option linter.unusedVariables false
set_option linter.unusedSimpArgs false

/-- what holds of the entries, the times and the values beside one another -/
structure Sts (al ke : Int) (s : Sg) : Prop where
  iv : InvS al ke s
  uk : UK s.T s.K
  pT : posE s.T
  pK : posE s.K
  nd : (keysI s.I).Nodup
  so : s.I.Pairwise (fun a b => a.2 ≤ b.2)
  su : sumE s.T + sumE s.K ≤ 1073741824
theorem Sts.okl {al ke : Int} {s : Sg} (h : Sts al ke s) : okL s := by
  have h1 := sum_pos h.pT
  have h2 := sum_pos h.pK
  have h3 := sum_nonneg h.pT
  have h4 := sum_nonneg h.pK
  have := h.su
  exact ⟨by omega, by omega⟩
theorem Sts.fok {al ke : Int} {s : Sg} (h : Sts al ke s) {k : Ky} {t v : ByteArray} (hf : fV s.V k = some (t, v)) : rightK k = true ∧ s.V (textK k) = some v ∧ (∃ u, atI (textK k) s.I = some u) ∧ ∃ z, hasS (textK k) s.T s.K = some z := by
  obtain ⟨hr, _, hV⟩ := fV_some hf
  have hs : (s.V (textK k)).isSome = true := by rw [hV]; rfl
  exact ⟨hr, hV, Option.isSome_iff_exists.1 (at_iff.2 ((h.iv.qu _).2 hs)), Option.isSome_iff_exists.1 (has_iff.2 ((h.iv.st _).2 hs))⟩
theorem Sts.fno {al ke : Int} {s : Sg} (h : Sts al ke s) {k : Ky} (hf : fV s.V k = none) : atI (txt k) s.I = none := by
  cases ha : atI (txt k) s.I with
  | none => rfl
  | some u =>
    have hv := (h.iv.qu _).1 (at_iff.1 (show (atI (txt k) s.I).isSome = true by rw [ha]; rfl))
    rcases fV_none hf with hr | hn
    · rw [txt_not hr] at hv
      exact absurd rfl (ok_ne (h.iv.ok _ hv).1)
    · by_cases hr : rightK k = true
      · rw [txt_right hr, hn] at hv; cases hv
      · rw [txt_not (by cases h : rightK k; rfl; exact absurd h hr)] at hv
        exact absurd rfl (ok_ne (h.iv.ok _ hv).1)
theorem lkp_drop {t : ByteArray} {L : List Pr} {i : Nat} {y : Pr} (h : L[i]? = some y) : lkp t (L.drop i) = if y.1 = t then some y.2 else lkp t (L.drop (i + 1)) := by
  rw [List.drop_eq_getElem_cons (List.getElem?_eq_some_iff.1 h).1, (List.getElem?_eq_some_iff.1 h).2]
  unfold lkp
  by_cases e : y.1 = t
  · rw [if_pos e, List.find?_cons_of_pos (by simpa using e)]; rfl
  · rw [if_neg e, List.find?_cons_of_neg (by simpa using e)]
section
variable {w0 w w' : World} {R : Rb} {N : Nat} {σ : Sg}
theorem RT.qu (h : RT w0 w R N σ) : RQ w0.heap.size w R.q σ.I ∧ σ.I.length ≤ N := by
  obtain ⟨va, vc, L, hr, hs, hq, hp, hv, hn, hi, hb⟩ := h; exact ⟨hq, hi⟩
set_option maxHeartbeats 4000000 in
theorem rget_no (h : RT w0 w R N σ) (hN : N ≤ 1000000) (k : Ky) (hk : FitK k) (now : Int) (ha : atI (txt k) σ.I = none) :
    Calls Tryz.prog 13 #[ptr R.r, kyV k, .int .i64 now] w (RetR w0 R N σ w (.tuple #[.string ⟨#[]⟩, .bool false])) := by
  obtain ⟨kb, hkb⟩ : ∃ g, w.heap.size = g := ⟨_, rfl⟩
  obtain ⟨W, hW⟩ : ∃ W, w.alloc (.cells (kC k) 42) = W := ⟨_, rfl⟩
  have hb : Below w.heap.size w W := by rw [← hW]; exact (Below.refl _ _).alloc (Nat.le_refl _) _
  have kk : Bk W kb 42 (kC k) := by rw [← hW, ← hkb]; exact Bk.new _ _ _
  have HKK := Lib.hid kk
  have HB := Lib.hid hb
  have HRT := Lib.hid (fun W => rtext_any k hk W)
  have HRR := Lib.hid (fun W => rright_any k hk W)
  have HH := Lib.hid (h.below hb)
  have HN := Lib.hid hN
  have HAT := Lib.hid (show AtI (atI (txt k) σ.I) = .tuple #[.int .i64 0, .bool false] by rw [ha]; rfl)
  obtain ⟨t, ht⟩ : ∃ t, txt k = t := ⟨_, rfl⟩
  rw [ht] at HAT HRT
  unfold RetR
  obtain ⟨db, ro, fm, no⟩ := k
  have a0 : W.cell? ⟨kb, 0, none⟩ = some (.string db) := HKK.out.cell 0
  have a1 : W.cell? ⟨kb, 1, none⟩ = some (.string ro) := HKK.out.cell 1
  have a2 : W.cell? ⟨kb, 2, none⟩ = some (.int .i64 fm) := HKK.out.cell 2
  have a3 : W.cell? ⟨kb, 3, none⟩ = some (.string no) := HKK.out.cell 3
  clear h hN hk ha ht hb kk
  go_enter Tryz.func13, Tryz.ntmps13
  go_wp2_with fail
  try rw [hW]
  try rw [hkb]
  refine (HRT.out _).mono ?_
  rintro e w2 ⟨rfl, b2⟩
  have HH := Lib.hid (HH.out.below b2)
  have HKK := Lib.hid (HKK.out.below b2)
  have HB := Lib.hid (HB.out.trans (b2.mono HB.out.size))
  clear b2 hW hkb
  clear a0 a1 a2 a3
  obtain ⟨_, _, _, _, r0, r1, _⟩ := HH.out.look
  go_wp2_with fail
  refine (rat_any HH.out.qu.1 (by have := HH.out.qu.2; have := HN.out; omega) t _ HAT.out).mono ?_
  rintro e w3 ⟨rfl, m3, hm3⟩
  have hb3 : Below w2.heap.size w2 w3 := by rw [hm3]; exact SL.below_drewN _ _ _
  have HH := Lib.hid (HH.out.below hb3)
  have HKK := Lib.hid (HKK.out.below hb3)
  have HB := Lib.hid (HB.out.trans (hb3.mono HB.out.size))
  clear hb3 hm3 r0 r1
  go_wp2
  go_ret2
  exact ⟨rfl, HH.out, Chg.of_below HB.out⟩
set_option maxHeartbeats 4000000 in
theorem rget_old (h : RT w0 w R N σ) (hl : okL σ) (hN : N ≤ 1000000) (k : Ky) (hk : FitK k) (now : Int) (hr : rightK k = true) (u : Int) (ha : atI (textK k) σ.I = some u) (hu : u ≤ now) :
    Calls Tryz.prog 13 #[ptr R.r, kyV k, .int .i64 now] w (RetR w0 R N (dropS (textK k) σ) w (.tuple #[.string ⟨#[]⟩, .bool false])) := by
  obtain ⟨kb, hkb⟩ : ∃ g, w.heap.size = g := ⟨_, rfl⟩
  obtain ⟨W, hW⟩ : ∃ W, w.alloc (.cells (kC k) 42) = W := ⟨_, rfl⟩
  have hb : Below w.heap.size w W := by rw [← hW]; exact (Below.refl _ _).alloc (Nat.le_refl _) _
  have kk : Bk W kb 42 (kC k) := by rw [← hW, ← hkb]; exact Bk.new _ _ _
  have HKK := Lib.hid kk
  have HB := Lib.hid hb
  have HRT := Lib.hid (fun W => rtext_any k hk W)
  have HRR := Lib.hid (fun W => rright_any k hk W)
  have HH := Lib.hid (h.below hb)
  have HN := Lib.hid hN
  have HAT := Lib.hid (show AtI (atI (textK k) σ.I) = .tuple #[.int .i64 u, .bool true] by rw [ha]; rfl)
  rw [txt_right hr] at HRT
  rw [hr] at HRR
  obtain ⟨t, ht⟩ : ∃ t, textK k = t := ⟨_, rfl⟩
  rw [ht] at HAT HRT ⊢
  have HL := Lib.hid hl
  unfold RetR
  obtain ⟨db, ro, fm, no⟩ := k
  have a0 : W.cell? ⟨kb, 0, none⟩ = some (.string db) := HKK.out.cell 0
  have a1 : W.cell? ⟨kb, 1, none⟩ = some (.string ro) := HKK.out.cell 1
  have a2 : W.cell? ⟨kb, 2, none⟩ = some (.int .i64 fm) := HKK.out.cell 2
  have a3 : W.cell? ⟨kb, 3, none⟩ = some (.string no) := HKK.out.cell 3
  clear h hl hN hk ha hr ht hb kk
  go_enter Tryz.func13, Tryz.ntmps13
  go_wp2_with fail
  try rw [hW]
  try rw [hkb]
  refine (HRT.out _).mono ?_
  rintro e w2 ⟨rfl, b2⟩
  have HH := Lib.hid (HH.out.below b2)
  have HKK := Lib.hid (HKK.out.below b2)
  have HB := Lib.hid (HB.out.trans (b2.mono HB.out.size))
  clear b2 hW hkb
  clear a0 a1 a2 a3
  obtain ⟨_, _, _, _, r0, r1, _⟩ := HH.out.look
  go_wp2_with fail
  refine (rat_any HH.out.qu.1 (by have := HH.out.qu.2; have := HN.out; omega) t _ HAT.out).mono ?_
  rintro e w3 ⟨rfl, m3, hm3⟩
  have hb3 : Below w2.heap.size w2 w3 := by rw [hm3]; exact SL.below_drewN _ _ _
  have HH := Lib.hid (HH.out.below hb3)
  have HKK := Lib.hid (HKK.out.below hb3)
  have HB := Lib.hid (HB.out.trans (hb3.mono HB.out.size))
  clear hb3 hm3 r0 r1
  have a0 : w3.cell? ⟨kb, 0, none⟩ = some (.string db) := HKK.out.cell 0
  have a1 : w3.cell? ⟨kb, 1, none⟩ = some (.string ro) := HKK.out.cell 1
  have a2 : w3.cell? ⟨kb, 2, none⟩ = some (.int .i64 fm) := HKK.out.cell 2
  have a3 : w3.cell? ⟨kb, 3, none⟩ = some (.string no) := HKK.out.cell 3
  go_wp2_with fail
  refine (HRR.out _).mono ?_
  rintro e w4 ⟨rfl, hb4⟩
  have HH := Lib.hid (HH.out.below hb4)
  have HB := Lib.hid (HB.out.trans (hb4.mono HB.out.size))
  clear hb4
  clear a0 a1 a2 a3
  go_wp2_with fail
  refine (rgone_any HH.out HL.out HN.out t).mono ?_
  rintro e w5 ⟨rfl, h5⟩
  have H5 := Lib.hid h5
  clear h5
  go_wp2
  go_ret2
  exact ⟨rfl, H5.out.1, (Chg.of_below HB.out).trans H5.out.2⟩
set_option maxHeartbeats 8000000 in
theorem rget_yes (h : RT w0 w R N σ) (al : Int) (st : Sts al R.ke σ) (hke : 0 ≤ R.ke) (hN : N ≤ 1000000) (k : Ky) (hk : FitK k) (now : Int) (hr : rightK k = true) (u : Int) (ha : atI (textK k) σ.I = some u) (hu : now < u) (v : ByteArray) (hv : σ.V (textK k) = some v) (z : Int) (hz : hasS (textK k) σ.T σ.K = some z) :
    Calls Tryz.prog 13 #[ptr R.r, kyV k, .int .i64 now] w (RetR w0 R N (touchS R.ke (textK k) z σ) w (.tuple #[.string v, .bool true])) := by
  have lu : ¬ (u ≤ now) := by omega
  obtain ⟨kb, hkb⟩ : ∃ g, w.heap.size = g := ⟨_, rfl⟩
  obtain ⟨W, hW⟩ : ∃ W, w.alloc (.cells (kC k) 42) = W := ⟨_, rfl⟩
  have hb : Below w.heap.size w W := by rw [← hW]; exact (Below.refl _ _).alloc (Nat.le_refl _) _
  have kk : Bk W kb 42 (kC k) := by rw [← hW, ← hkb]; exact Bk.new _ _ _
  have HKK := Lib.hid kk
  have HB := Lib.hid hb
  have HRT := Lib.hid (fun W => rtext_any k hk W)
  have HRR := Lib.hid (fun W => rright_any k hk W)
  have HH := Lib.hid (h.below hb)
  have HN := Lib.hid hN
  have HAT := Lib.hid (show AtI (atI (textK k) σ.I) = .tuple #[.int .i64 u, .bool true] by rw [ha]; rfl)
  rw [txt_right hr] at HRT
  rw [hr] at HRR
  obtain ⟨t, ht⟩ : ∃ t, textK k = t := ⟨_, rfl⟩
  rw [ht] at HAT HRT hz hv ⊢
  unfold touchS
  obtain ⟨T9, K9, G, hR⟩ : ∃ T9 K9 G, touchE R.ke t z σ.T σ.K = (T9, K9, G) := ⟨_, _, _, rfl⟩
  rw [hR]
  have HTO := Lib.hid (fun W (hh : RT w0 W R N σ) => show Calls Tryz.prog 49 #[ptr R.s, .string t] W (TchP w0 W R.s R.al R.ke R.mo T9 K9 G) by
    obtain ⟨va, vc, L, hr, hs, hq, hp, hv, hn, hi, hb⟩ := hh
    exact rtouch_to w0 W R.s R.al R.ke R.mo σ.T σ.K hs st.uk st.pT st.pK st.su hke st.iv.sk t z hz T9 K9 G hR)
  have HV := Lib.hid hv
  unfold TchP at HTO
  unfold RetR
  obtain ⟨db, ro, fm, no⟩ := k
  have a0 : W.cell? ⟨kb, 0, none⟩ = some (.string db) := HKK.out.cell 0
  have a1 : W.cell? ⟨kb, 1, none⟩ = some (.string ro) := HKK.out.cell 1
  have a2 : W.cell? ⟨kb, 2, none⟩ = some (.int .i64 fm) := HKK.out.cell 2
  have a3 : W.cell? ⟨kb, 3, none⟩ = some (.string no) := HKK.out.cell 3
  clear h st hke hN hk ha hr ht hb kk hv hz hR hu
  go_enter Tryz.func13, Tryz.ntmps13
  go_wp2_with fail
  try rw [hW]
  try rw [hkb]
  refine (HRT.out _).mono ?_
  rintro e w2 ⟨rfl, b2⟩
  have HH := Lib.hid (HH.out.below b2)
  have HKK := Lib.hid (HKK.out.below b2)
  have HB := Lib.hid (HB.out.trans (b2.mono HB.out.size))
  clear b2 hW hkb
  clear a0 a1 a2 a3
  obtain ⟨_, _, _, _, r0, r1, _⟩ := HH.out.look
  go_wp2_with fail
  refine (rat_any HH.out.qu.1 (by have := HH.out.qu.2; have := HN.out; omega) t _ HAT.out).mono ?_
  rintro e w3 ⟨rfl, m3, hm3⟩
  have hb3 : Below w2.heap.size w2 w3 := by rw [hm3]; exact SL.below_drewN _ _ _
  have HH := Lib.hid (HH.out.below hb3)
  have HKK := Lib.hid (HKK.out.below hb3)
  have HB := Lib.hid (HB.out.trans (hb3.mono HB.out.size))
  clear hb3 hm3 r0 r1
  have a0 : w3.cell? ⟨kb, 0, none⟩ = some (.string db) := HKK.out.cell 0
  have a1 : w3.cell? ⟨kb, 1, none⟩ = some (.string ro) := HKK.out.cell 1
  have a2 : w3.cell? ⟨kb, 2, none⟩ = some (.int .i64 fm) := HKK.out.cell 2
  have a3 : w3.cell? ⟨kb, 3, none⟩ = some (.string no) := HKK.out.cell 3
  go_wp2_with fail
  refine (HRR.out _).mono ?_
  rintro e w4 ⟨rfl, hb4⟩
  have HH := Lib.hid (HH.out.below hb4)
  have HB := Lib.hid (HB.out.trans (hb4.mono HB.out.size))
  clear hb4
  clear a0 a1 a2 a3
  obtain ⟨_, _, _, _, r0, r1, _⟩ := HH.out.look
  go_wp2_with fail
  refine (HTO.out _ HH.out).mono ?_
  rintro e w5 ⟨pv, pc, rfl, _, s5, hc5⟩
  have h5 := HH.out.store s5 hc5
  have H5 := Lib.hid h5
  clear r0 r1 s5 hc5
  obtain ⟨⟨va, vc, L, hr5, _, _, hp5, hv5, hn5, _⟩, _⟩ := h5
  have hlk : lkp t L = some v := (hv5 t).trans HV.out
  have HLK := Lib.hid hlk
  have HR5 := Lib.hid hr5
  have HP5 := Lib.hid hp5
  have HNL : Hid (L.length ≤ N) := Lib.hid hn5
  have y2 : w5.cell? ⟨R.r, 2, none⟩ = some (.slice va L.length vc) := hr5.cell 2
  clear hr5 hp5 hv5 hn5 hlk
  go_wp2
  go_loopg [11] L.length (fun g u11 wx => ∃ i : Nat, u11 = .int .i64 (i : Int) ∧ i + g = L.length ∧ lkp t (L.drop i) = some v ∧ Below w5.heap.size w5 wx)
  case atStart => exact ⟨0, rfl, by omega, by rw [List.drop_zero]; exact HLK.out, Below.refl _ _⟩
  case round =>
    obtain ⟨i, rfl, hi, hlk, hB⟩ := hrel
    have HB5 := Lib.hid hB
    have y2 := (hB.cell (p := ⟨R.r, 2, none⟩) HR5.out.lt).trans y2
    cases gk with
    | zero =>
      rw [show i = L.length by omega, List.drop_length] at hlk
      cases hlk
    | succ g =>
      have hlt : i < L.length := by omega
      obtain ⟨b, off, cap, he, hc, hx⟩ := (HP5.out.pr.below hB).inv (by omega)
      injection he with e1 _ e3
      subst e1 e3
      obtain ⟨y, hy⟩ : ∃ y, L[i] = y := ⟨_, rfl⟩
      have hyi : L[i]? = some y := by rw [List.getElem?_eq_getElem hlt, hy]
      obtain ⟨x0, x1⟩ := hx i y hyi
      have l0 : (0 : Int) ≤ (i : Int) := by omega
      have l1 : (i : Int) < (L.length : Int) := by omega
      obtain ⟨i1, hi1⟩ : ∃ i1, i + 1 = i1 := ⟨_, rfl⟩
      have wk : IntKind.i64.wrap ((i : Int) + 1) = (i1 : Int) := by rw [show (i : Int) + 1 = (i1 : Int) by omega]; exact IntWalk.i64_in _ (by have := HNL.out; have := HN.out; omega)
      have HI1 : Hid (i1 + g = L.length) := Lib.hid (by omega)
      rw [lkp_drop hyi, hi1] at hlk
      obtain ⟨yk, yv⟩ := y
      simp only at x0 x1 hlk
      by_cases hk : yk = t
      · rw [if_pos hk] at hlk
        injection hlk with hlk
        subst hlk
        have es : (yk.toList == t.toList) = true := by rw [tl_dec]; exact decide_eq_true hk
        clear hi hx hc hy hyi hi1 hlt hB hk
        go_wp2
        go_ret2
        exact ⟨rfl, (H5.out.below HB5.out).1, (Chg.of_below HB.out).trans (H5.out.below HB5.out).2⟩
      · rw [if_neg hk] at hlk
        have es : (yk.toList == t.toList) = false := by rw [tl_dec]; exact decide_eq_false hk
        have HLK1 := Lib.hid hlk
        clear hi hx hc hy hyi hi1 hlt hB hk hlk x1
        go_wp2
        go_roundg g
        case measure => exact Nat.lt_succ_self _
        case rel => exact ⟨i1, rfl, HI1.out, HLK1.out, HB5.out⟩
theorem rgetR_any (h : RT w0 w R N σ) (al : Int) (st : Sts al R.ke σ) (hke : 0 ≤ R.ke) (hN : N ≤ 1000000) (k : Ky) (hk : FitK k) (now : Int) (Q : Option ByteArray × Sg) (hQ : getR R.ke k now σ = Q) :
    Calls Tryz.prog 13 #[ptr R.r, kyV k, .int .i64 now] w (RetR w0 R N Q.2 w (getV Q.1)) := by
  subst hQ
  unfold getR
  cases hf : fV σ.V k with
  | none => exact rget_no h hN k hk now (st.fno hf)
  | some e =>
    obtain ⟨e1, e2⟩ := e
    obtain ⟨hr, hV, ⟨u, hu⟩, ⟨z, hz⟩⟩ := st.fok hf
    simp only
    rw [hu, hz]
    simp only [Option.getD_some]
    by_cases hc : u ≤ now
    · rw [if_pos hc]
      exact rget_old h st.okl hN k hk now hr u hu hc
    · rw [if_neg hc]
      exact rget_yes h al st hke hN k hk now hr u hu (by omega) e2 hV z hz
end
end Go.Proofs.YtjngangojgjceaaGreat.CA
namespace Go.Proofs.YtjngangojgjceaaGreat.CA
open Go.ChangeShapes Go.WideShapes Go.ChangeAt Go.RowKit Go.Maps Go.ChangeMaps
open Go.Proofs.YtjngangojgjceaaGreat.SL Go.Proofs.YtjngangojgjceaaGreat.EX Go.Proofs.YtjngangojgjceaaGreat.RW
set_option maxRecDepth 100000
set_option linter.unusedVariables false
set_option linter.unusedSimpArgs false

theorem room_mem {al z : Int} : ∀ (n : Nat) (T K : List En), (∀ y ∈ (roomE al z n T K).1, y ∈ T) ∧ ∀ y ∈ (roomE al z n T K).2.1, y ∈ K
  | 0, T, K => ⟨fun _ h => h, fun _ h => h⟩
  | n + 1, T, K => by
    unfold roomE
    split
    · split
      · have h := room_mem (al := al) (z := z) n T.dropLast K
        exact ⟨fun y hy => List.dropLast_subset _ (h.1 y hy), h.2⟩
      · split
        · have h := room_mem (al := al) (z := z) n T K.dropLast
          exact ⟨h.1, fun y hy => List.dropLast_subset _ (h.2 y hy)⟩
        · exact ⟨fun _ h => h, fun _ h => h⟩
    · exact ⟨fun _ h => h, fun _ h => h⟩
theorem put_pos {al z : Int} {k : ByteArray} {T K : List En} (hT : posE T) (hK : posE K) (hz : 1 ≤ z) {R : List En × List En × List ByteArray} (hR : putE al k z T K = R) : posE R.1 ∧ posE R.2.1 := by
  subst hR
  have h := room_mem (al := al) (z := z) ((delE k T).length + (delE k K).length) (delE k T) (delE k K)
  unfold putE
  refine ⟨fun y hy => ?_, fun y hy => hK.del k y (h.2 y hy)⟩
  rcases List.mem_cons.1 hy with rfl | hy
  · exact hz
  · exact hT.del k y (h.1 y hy)
theorem room_len {al z : Int} : ∀ (n : Nat) (T K : List En), (roomE al z n T K).2.2.length ≤ n
  | 0, T, K => Nat.le_refl _
  | n + 1, T, K => by
    unfold roomE
    split
    · split
      · have h := room_len (al := al) (z := z) n T.dropLast K
        simp only [List.length_cons]; omega
      · split
        · have h := room_len (al := al) (z := z) n T K.dropLast
          simp only [List.length_cons]; omega
        · exact Nat.zero_le _
    · exact Nat.zero_le _
theorem set_len_ (k : ByteArray) (t : Int) (I : List It) : (setI k t I).length ≤ I.length + 1 := by
  have h1 : (leI t (dropI k I)).length + (gtI t (dropI k I)).length = (dropI k I).length := by
    unfold leI gtI
    induction dropI k I with
    | nil => rfl
    | cons y l ih =>
      by_cases h : t < y.2
      · rw [List.filter_cons_of_neg (by simp [h]), List.filter_cons_of_pos (by simp [h])]
        simp only [List.length_cons]; omega
      · rw [List.filter_cons_of_pos (by simp [h]), List.filter_cons_of_neg (by simp [h])]
        simp only [List.length_cons]; omega
  have h2 : (dropI k I).length ≤ I.length := List.length_filter_le _ _
  unfold setI
  rw [List.length_append, List.length_cons]; omega
section
variable {w0 w w' : World} {R : Rb} {N : Nat} {σ : Sg}
def RPutP (w0 : World) (R : Rb) (N : Nat) (Q : (Int × List ByteArray) × Sg) (w : World) (e : Ending) (w' : World) : Prop :=
  ∃ a c, e = .returned (.tuple #[.slice a (Q.1.2.map parK).length c, .int .i64 Q.1.1]) ∧ KR w' (.slice a (Q.1.2.map parK).length c) (Q.1.2.map parK) ∧ StR w0 R (N + 1) Q.2 w w'
theorem KR.nil (w : World) : KR w (.slice none 0 0) [] := .inl ⟨_, _, rfl, rfl⟩
/-- the values changed -/
theorem RT.vals (h : RT w0 w R N σ) {va : Option Addr} {vc B : Nat} {L' : List Pr} (hp : PO B w (.slice va L'.length vc) L') (hB : w0.heap.size ≤ B) {W : World} (hW : w.setCell ⟨R.r, 2, none⟩ (.slice va L'.length vc) = W) {V' : Vm} (hV : ∀ x, lkp x L' = V' x) {N' : Nat} (hl : L'.length ≤ N') (hN : N ≤ N') : StR w0 R N' ⟨σ.T, σ.K, σ.I, V'⟩ w W := by
  have hbel := h.bel
  obtain ⟨_, _, L, hr, hs, hq, _, _, _, hi, hb⟩ := h
  have hc2 : Chg (fun b => b = R.r) w W := by rw [← hW]; exact (Chg.refl (fun b => b = R.r) w).setCell (p := ⟨R.r, 2, none⟩) rfl _
  have hbx := below_chg hbel hc2 (fun b hb2 => by rw [hb2]; exact hb)
  have kr2 : Bk W R.r 78 #[ptr R.s, ptr R.q, .slice va L'.length vc, .int .i64 R.ttl] := by rw [← hW]; exact hr.set_ 2 _
  exact ⟨⟨va, vc, L', kr2, CA.RS.kt hs (kt_one hr hc2 (by decide)) (kt_one hr hc2 (by decide)) hbx, CA.RQ.kt hq (kt_one hr hc2 (by decide)) (kt_one hr hc2 (by decide)), (hp.kt (kt_one hr hc2 (by decide))).mono hB, hV, hl, Nat.le_trans hi hN, hb⟩, hc2.mono fun b _ hb => .inl hb⟩
set_option maxHeartbeats 4000000 in
theorem rput_arg (h : RT w0 w R N σ) (k : Ky) (hk : FitK k) (v : ByteArray) (now : Int) (hp : ¬ putOk k now) :
    Calls Tryz.prog 9 #[ptr R.r, kyV k, .string v, .int .i64 now] w fun e w' => e = .returned (.tuple #[.slice none 0 0, .int .i64 1]) ∧ RT w0 w' R N σ ∧ Below w.heap.size w w' := by
  obtain ⟨kb, hkb⟩ : ∃ g, w.heap.size = g := ⟨_, rfl⟩
  obtain ⟨W, hW⟩ : ∃ W, w.alloc (.cells (kC k) 42) = W := ⟨_, rfl⟩
  have hb : Below w.heap.size w W := by rw [← hW]; exact (Below.refl _ _).alloc (Nat.le_refl _) _
  have kk : Bk W kb 42 (kC k) := by rw [← hW, ← hkb]; exact Bk.new _ _ _
  have HKK := Lib.hid kk
  have HB := Lib.hid hb
  have HRR := Lib.hid (fun W => rright_any k hk W)
  have HH := Lib.hid (h.below hb)
  unfold putOk at hp
  cases hr : rightK k with
  | false =>
    rw [hr] at HRR
    obtain ⟨db, ro, fm, no⟩ := k
    have a0 : W.cell? ⟨kb, 0, none⟩ = some (.string db) := HKK.out.cell 0
    have a1 : W.cell? ⟨kb, 1, none⟩ = some (.string ro) := HKK.out.cell 1
    have a2 : W.cell? ⟨kb, 2, none⟩ = some (.int .i64 fm) := HKK.out.cell 2
    have a3 : W.cell? ⟨kb, 3, none⟩ = some (.string no) := HKK.out.cell 3
    clear h hk hp hb kk hr
    go_enter Tryz.func9, Tryz.ntmps9
    go_wp2_with fail
    try rw [hW]
    try rw [hkb]
    refine (HRR.out _).mono ?_
    rintro e w2 ⟨rfl, b2⟩
    have HH := Lib.hid (HH.out.below b2)
    have HKK := Lib.hid (HKK.out.below b2)
    have HB := Lib.hid (HB.out.trans (b2.mono HB.out.size))
    clear b2 hW hkb
    clear a0 a1 a2 a3
    go_wp2
    go_ret2
    exact ⟨rfl, HH.out, HB.out⟩
  | true =>
    rw [hr] at HRR
    by_cases h1 : now < 0
    · have l1 := decide_eq_true h1
      obtain ⟨db, ro, fm, no⟩ := k
      have a0 : W.cell? ⟨kb, 0, none⟩ = some (.string db) := HKK.out.cell 0
      have a1 : W.cell? ⟨kb, 1, none⟩ = some (.string ro) := HKK.out.cell 1
      have a2 : W.cell? ⟨kb, 2, none⟩ = some (.int .i64 fm) := HKK.out.cell 2
      have a3 : W.cell? ⟨kb, 3, none⟩ = some (.string no) := HKK.out.cell 3
      clear h hk hp hb kk hr
      go_enter Tryz.func9, Tryz.ntmps9
      go_wp2_with fail
      try rw [hW]
      try rw [hkb]
      refine (HRR.out _).mono ?_
      rintro e w2 ⟨rfl, b2⟩
      have HH := Lib.hid (HH.out.below b2)
      have HKK := Lib.hid (HKK.out.below b2)
      have HB := Lib.hid (HB.out.trans (b2.mono HB.out.size))
      clear b2 hW hkb
      clear a0 a1 a2 a3
      go_wp2
      go_ret2
      exact ⟨rfl, HH.out, HB.out⟩
    · have l2 : (549755813888 : Int) < now := by
        by_cases h2 : now ≤ 549755813888
        · exact absurd ⟨hr, by omega, h2⟩ hp
        · omega
      obtain ⟨db, ro, fm, no⟩ := k
      have a0 : W.cell? ⟨kb, 0, none⟩ = some (.string db) := HKK.out.cell 0
      have a1 : W.cell? ⟨kb, 1, none⟩ = some (.string ro) := HKK.out.cell 1
      have a2 : W.cell? ⟨kb, 2, none⟩ = some (.int .i64 fm) := HKK.out.cell 2
      have a3 : W.cell? ⟨kb, 3, none⟩ = some (.string no) := HKK.out.cell 3
      clear h hk hp hb kk hr
      go_enter Tryz.func9, Tryz.ntmps9
      go_wp2_with fail
      try rw [hW]
      try rw [hkb]
      refine (HRR.out _).mono ?_
      rintro e w2 ⟨rfl, b2⟩
      have HH := Lib.hid (HH.out.below b2)
      have HKK := Lib.hid (HKK.out.below b2)
      have HB := Lib.hid (HB.out.trans (b2.mono HB.out.size))
      clear b2 hW hkb
      clear a0 a1 a2 a3
      go_wp2
      go_ret2
      exact ⟨rfl, HH.out, HB.out⟩
set_option maxHeartbeats 4000000 in
theorem rput_bigS (h : RT w0 w R N σ) (k : Ky) (hk : FitK k) (v : ByteArray) (hv : v.size ≤ 1099511627776) (now : Int) (hr : rightK k = true) (hw : 0 ≤ now ∧ now ≤ 549755813888) (hm : R.mo < szK k v) :
    Calls Tryz.prog 9 #[ptr R.r, kyV k, .string v, .int .i64 now] w fun e w' => e = .returned (.tuple #[.slice none 0 0, .int .i64 2]) ∧ RT w0 w' R N σ ∧ Below w.heap.size w w' := by
  obtain ⟨kb, hkb⟩ : ∃ g, w.heap.size = g := ⟨_, rfl⟩
  obtain ⟨W, hW⟩ : ∃ W, w.alloc (.cells (kC k) 42) = W := ⟨_, rfl⟩
  have hb : Below w.heap.size w W := by rw [← hW]; exact (Below.refl _ _).alloc (Nat.le_refl _) _
  have kk : Bk W kb 42 (kC k) := by rw [← hW, ← hkb]; exact Bk.new _ _ _
  have HKK := Lib.hid kk
  have HB := Lib.hid hb
  have HRR := Lib.hid (fun W => rright_any k hk W)
  have HH := Lib.hid (h.below hb)
  rw [hr] at HRR
  have HRT := Lib.hid (fun W => rtext_any k hk W)
  rw [txt_right hr] at HRT
  have HSZ := Lib.hid (fun W => rsize_any k v hk hv W)
  obtain ⟨t, ht⟩ : ∃ t, textK k = t := ⟨_, rfl⟩
  obtain ⟨z, hz⟩ : ∃ z, szK k v = z := ⟨_, rfl⟩
  have hz1 : 1 ≤ z := by rw [← hz]; unfold szK; rw [if_pos hr]; omega
  have l1 : ¬ (now < 0) := by omega
  have l2 : ¬ ((549755813888 : Int) < now) := by omega
  rw [ht] at HRT
  rw [hz] at HSZ
  have HPB := Lib.hid (fun W (hh : RT w0 W R N σ) => show Calls Tryz.prog 40 #[ptr R.s, .string t, .int .i64 z] W _ by
    obtain ⟨va, vc, L, hr, hs, _⟩ := hh
    exact SL.rput_big w0 W R.s R.al R.ke R.mo σ.T σ.K hs t z hz1 (by rw [← hz]; exact hm))
  obtain ⟨db, ro, fm, no⟩ := k
  have a0 : W.cell? ⟨kb, 0, none⟩ = some (.string db) := HKK.out.cell 0
  have a1 : W.cell? ⟨kb, 1, none⟩ = some (.string ro) := HKK.out.cell 1
  have a2 : W.cell? ⟨kb, 2, none⟩ = some (.int .i64 fm) := HKK.out.cell 2
  have a3 : W.cell? ⟨kb, 3, none⟩ = some (.string no) := HKK.out.cell 3
  clear h hk hv hw hb kk hr ht hz hz1 hm
  go_enter Tryz.func9, Tryz.ntmps9
  go_wp2_with fail
  try rw [hW]
  try rw [hkb]
  refine (HRR.out _).mono ?_
  rintro e w2 ⟨rfl, b2⟩
  have HH := Lib.hid (HH.out.below b2)
  have HKK := Lib.hid (HKK.out.below b2)
  have HB := Lib.hid (HB.out.trans (b2.mono HB.out.size))
  clear b2 hW hkb
  clear a0 a1 a2 a3
  have a0 : w2.cell? ⟨kb, 0, none⟩ = some (.string db) := HKK.out.cell 0
  have a1 : w2.cell? ⟨kb, 1, none⟩ = some (.string ro) := HKK.out.cell 1
  have a2 : w2.cell? ⟨kb, 2, none⟩ = some (.int .i64 fm) := HKK.out.cell 2
  have a3 : w2.cell? ⟨kb, 3, none⟩ = some (.string no) := HKK.out.cell 3
  go_wp2_with fail
  refine (HRT.out _).mono ?_
  rintro e w3 ⟨rfl, hb3⟩
  have HH := Lib.hid (HH.out.below hb3)
  have HKK := Lib.hid (HKK.out.below hb3)
  have HB := Lib.hid (HB.out.trans (hb3.mono HB.out.size))
  clear hb3
  clear a0 a1 a2 a3
  have HX : Hid (∀ w', Below w3.heap.size w3 w' → w'.cell? ⟨R.r, 0, none⟩ = some (ptr R.s) ∧ w'.cell? ⟨kb, 0, none⟩ = some (.string db) ∧ w'.cell? ⟨kb, 1, none⟩ = some (.string ro) ∧ w'.cell? ⟨kb, 2, none⟩ = some (.int .i64 fm) ∧ w'.cell? ⟨kb, 3, none⟩ = some (.string no)) := Lib.hid fun w' hb => by
    obtain ⟨_, _, _, _, r0, _, _⟩ := (HH.out.below hb).look
    have kk := HKK.out.below hb
    exact ⟨r0, kk.cell 0, kk.cell 1, kk.cell 2, kk.cell 3⟩
  go_wp2_with fail
  refine wp_region_held_drew (S := (fun w' => w'.cell? ⟨R.r, 0, none⟩ = some (ptr R.s) ∧ w'.cell? ⟨kb, 0, none⟩ = some (.string db) ∧ w'.cell? ⟨kb, 1, none⟩ = some (.string ro) ∧ w'.cell? ⟨kb, 2, none⟩ = some (.int .i64 fm) ∧ w'.cell? ⟨kb, 3, none⟩ = some (.string no))) (by kernel_rfl) ?_ (fun hS => ?_)
  · exact HX.out _ (Below.refl _ _).drew
  refine tkY 0 ?_ rfl hS ?_ ?_
  rotate_left
  · intro wz hz
    obtain ⟨z0, z1, z2, z3, z4⟩ := hz
    go_simp
    all_goals first | with_reducible rfl | omega
  try simp only [Act.put, pu]
  refine tkY 1 ?_ rfl hS ?_ ?_
  rotate_left
  · intro wz hz
    obtain ⟨z0, z1, z2, z3, z4⟩ := hz
    go_simp
    all_goals first | with_reducible rfl | omega
  try simp only [Act.put, pu]
  refine tkY 2 ?_ rfl hS ?_ ?_
  rotate_left
  · intro wz hz
    obtain ⟨z0, z1, z2, z3, z4⟩ := hz
    go_simp
    all_goals first | with_reducible rfl | omega
  try simp only [Act.put, pu]
  refine tkY 3 ?_ rfl hS ?_ ?_
  rotate_left
  · intro wz hz
    obtain ⟨z0, z1, z2, z3, z4⟩ := hz
    go_simp
    all_goals first | with_reducible rfl | omega
  try simp only [Act.put, pu]
  refine tkY 4 ?_ rfl hS ?_ ?_
  rotate_left
  · intro wz hz
    obtain ⟨z0, z1, z2, z3, z4⟩ := hz
    go_simp
    all_goals first | with_reducible rfl | omega
  try simp only [Act.put, pu]
  refine tkY 5 ?_ rfl hS ?_ ?_
  rotate_left
  · intro wz hz
    obtain ⟨z0, z1, z2, z3, z4⟩ := hz
    go_simp
    all_goals first | with_reducible rfl | omega
  try simp only [Act.put, pu]
  refine tkY 6 ?_ rfl hS ?_ ?_
  rotate_left
  · intro wz hz
    obtain ⟨z0, z1, z2, z3, z4⟩ := hz
    go_simp
    all_goals first | with_reducible rfl | omega
  try simp only [Act.put, pu]
  refine wpAnyH_ready (rs := [7]) (by kernel_rfl) (by simp) (AllReadyH.cons rfl (fun K' hK' => ?_) AllReadyH.nil)
  go_simp
  have hbd : Below w3.heap.size w3 w3.drew := (Below.refl _ _).drew
  refine (HSZ.out w3.drew).mono ?_
  rintro e w4 ⟨rfl, b4⟩
  have HB4 := Lib.hid (hbd.trans (b4.mono hbd.size))
  clear b4 hbd
  refine hK'.out _ _ ?_ (fun hSn => ?_)
  · exact HX.out _ HB4.out
  clear hK' K' hS
  have hS := hSn
  clear hSn
  try simp only [Act.put, pu]
  refine wpAnyH_ready (rs := [8]) (by kernel_rfl) (by simp) (AllReadyH.cons rfl (fun K' hK' => ?_) AllReadyH.nil)
  go_simp
  refine (HPB.out _ (HH.out.below HB4.out)).mono ?_
  rintro e w5 ⟨rfl, rfl⟩
  refine hK'.out _ _ ?_ (fun hSn => ?_)
  · exact HX.out _ HB4.out
  clear hK' K' hS
  have hS := hSn
  clear hSn
  try simp only [Act.put, pu]
  refine tkY 9 ?_ rfl hS ?_ ?_
  rotate_left
  · intro wz hz
    go_simp
    all_goals first | with_reducible rfl | omega
  try simp only [Act.put, pu]
  refine tkY 10 ?_ rfl hS ?_ ?_
  rotate_left
  · intro wz hz
    go_simp
    all_goals first | with_reducible rfl | omega
  try simp only [Act.put, pu]
  refine tkY 11 ?_ rfl hS ?_ ?_
  rotate_left
  · intro wz hz
    go_simp
    all_goals first | with_reducible rfl | omega
  try simp only [Act.put, pu]
  refine tkY 12 ?_ rfl hS ?_ ?_
  rotate_left
  · intro wz hz
    go_simp
    all_goals first | with_reducible rfl | omega
  try simp only [Act.put, pu]
  refine tkY 13 ?_ rfl hS ?_ ?_
  rotate_left
  · intro wz hz
    go_simp
    all_goals first | with_reducible rfl | omega
  try simp only [Act.put, pu]
  refine wpAnyH_done (by kernel_rfl) ?_ _
  clear hS
  go_wp2
  go_ret2
  exact ⟨rfl, HH.out.below HB4.out, HB.out.trans (HB4.out.mono HB.out.size)⟩
set_option maxHeartbeats 16000000 in
theorem rput_yes (h : RT w0 w R N σ) (st : Sts R.al R.ke σ) (hN : N ≤ 100000) (hal : R.mo ≤ R.al ∧ R.al ≤ 1073741824) (httl : 1 ≤ R.ttl ∧ R.ttl ≤ 549755813888) (k : Ky) (hk : FitK k) (v : ByteArray) (hv : v.size ≤ 1099511627776) (now : Int) (hr : rightK k = true) (hw : 0 ≤ now ∧ now ≤ 549755813888) (hm : szK k v ≤ R.mo) :
    Calls Tryz.prog 9 #[ptr R.r, kyV k, .string v, .int .i64 now] w (RPutP w0 R N ((0, (putS R.al (textK k) v (szK k v) (now + R.ttl) σ).2), (putS R.al (textK k) v (szK k v) (now + R.ttl) σ).1) w) := by
  obtain ⟨kb, hkb⟩ : ∃ g, w.heap.size = g := ⟨_, rfl⟩
  obtain ⟨W, hW⟩ : ∃ W, w.alloc (.cells (kC k) 42) = W := ⟨_, rfl⟩
  have hb : Below w.heap.size w W := by rw [← hW]; exact (Below.refl _ _).alloc (Nat.le_refl _) _
  have kk : Bk W kb 42 (kC k) := by rw [← hW, ← hkb]; exact Bk.new _ _ _
  have HKK := Lib.hid kk
  have HB := Lib.hid hb
  have HRR := Lib.hid (fun W => rright_any k hk W)
  have HH := Lib.hid (h.below hb)
  rw [hr] at HRR
  have HRT := Lib.hid (fun W => rtext_any k hk W)
  rw [txt_right hr] at HRT
  have HSZ := Lib.hid (fun W => rsize_any k v hk hv W)
  obtain ⟨t, ht⟩ : ∃ t, textK k = t := ⟨_, rfl⟩
  obtain ⟨z, hz⟩ : ∃ z, szK k v = z := ⟨_, rfl⟩
  have hz1 : 1 ≤ z := by rw [← hz]; unfold szK; rw [if_pos hr]; omega
  have l1 : ¬ (now < 0) := by omega
  have l2 : ¬ ((549755813888 : Int) < now) := by omega
  rw [ht] at HRT
  rw [hz] at HSZ
  unfold RPutP
  simp only
  unfold putS
  rw [ht, hz]
  obtain ⟨T9, K9, G, hR⟩ : ∃ T9 K9 G, putE R.al t z σ.T σ.K = (T9, K9, G) := ⟨_, _, _, rfl⟩
  rw [hR]
  simp only
  have HPB := Lib.hid (fun W (hh : RT w0 W R N σ) => show Calls Tryz.prog 40 #[ptr R.s, .string t, .int .i64 z] W _ by
    obtain ⟨va, vc, L, hr, hs, _⟩ := hh
    exact SL.rput_to w0 W R.s R.al R.ke R.mo σ.T σ.K hs st.uk st.pT st.pK st.su hal t z hz1 (by rw [← hz]; exact hm) T9 K9 G hR)
  obtain ⟨hth, _⟩ := put_there st.iv st.uk hR
  have hth : There G σ := hth
  have HS := Lib.hid (fun y hy => (hth.ok y hy).2)
  obtain ⟨pp1, pp2⟩ := put_pos st.pT st.pK hz1 hR
  obtain ⟨ss1, _⟩ := put_sums (ke := R.ke) st.pT st.pK (by rw [← hz]; omega) st.iv.sk hR
  have hokl : T9.length ≤ 1073741824 ∧ K9.length ≤ 1073741824 := by
    have h1 := sum_pos pp1
    have h2 := sum_pos pp2
    have h3 := sum_nonneg pp1
    have h4 := sum_nonneg pp2
    simp only at h1 h2 h3 h4 ss1
    omega
  have hgl : G.length ≤ 2147483648 := by
    have h1 := st.okl
    have h2 := room_len (al := R.al) (z := z) ((delE t σ.T).length + (delE t σ.K).length) (delE t σ.T) (delE t σ.K)
    have h3 : (delE t σ.T).length ≤ σ.T.length := List.length_filter_le _ _
    have h4 : (delE t σ.K).length ≤ σ.K.length := List.length_filter_le _ _
    have h5 : G = (putE R.al t z σ.T σ.K).2.2 := by rw [hR]
    have h6 := h1.1
    have h7 := h1.2
    rw [h5]; unfold putE
    simp only
    omega
  obtain ⟨s1, hs1⟩ : ∃ s1 : Sg, (⟨T9, K9, setI t (now + R.ttl) σ.I, setV t v σ.V⟩ : Sg) = s1 := ⟨_, rfl⟩
  have HLK : Hid (okL s1) := Lib.hid (by rw [← hs1]; exact hokl)
  have ha1 : 0 ≤ now + R.ttl ∧ now + R.ttl ≤ 1099511627776 := by omega
  have wtt : IntKind.i64.wrap (now + R.ttl) = now + R.ttl := IntWalk.i64_in _ (by omega)
  have HQ := Lib.hid (fun W V' (hh : RT w0 W R (N + 1) ⟨T9, K9, σ.I, V'⟩) => rset_any (RT.qu hh).1 (show σ.I.length ≤ 1000000 by have := (h.qu).2; omega) st.so t (now + R.ttl) ha1 _ rfl)
  have HSL : Hid ((setI t (now + R.ttl) σ.I).length ≤ N + 1) := Lib.hid (by have h1 := set_len_ t (now + R.ttl) σ.I; have h2 := (h.qu).2; omega)
  have HN := Lib.hid hN
  have HS1 := Lib.hid hs1
  rw [hs1]
  have HGL := Lib.hid hgl
  obtain ⟨db, ro, fm, no⟩ := k
  have a0 : W.cell? ⟨kb, 0, none⟩ = some (.string db) := HKK.out.cell 0
  have a1 : W.cell? ⟨kb, 1, none⟩ = some (.string ro) := HKK.out.cell 1
  have a2 : W.cell? ⟨kb, 2, none⟩ = some (.int .i64 fm) := HKK.out.cell 2
  have a3 : W.cell? ⟨kb, 3, none⟩ = some (.string no) := HKK.out.cell 3
  clear h st hal httl hk hv hb kk hr ht hz hz1 hm hR hth pp1 pp2 ss1 hokl hgl ha1 hs1 hN hw
  go_enter Tryz.func9, Tryz.ntmps9
  go_wp2_with fail
  try rw [hW]
  try rw [hkb]
  refine (HRR.out _).mono ?_
  rintro e w2 ⟨rfl, b2⟩
  have HH := Lib.hid (HH.out.below b2)
  have HKK := Lib.hid (HKK.out.below b2)
  have HB := Lib.hid (HB.out.trans (b2.mono HB.out.size))
  clear b2 hW hkb
  clear a0 a1 a2 a3
  have a0 : w2.cell? ⟨kb, 0, none⟩ = some (.string db) := HKK.out.cell 0
  have a1 : w2.cell? ⟨kb, 1, none⟩ = some (.string ro) := HKK.out.cell 1
  have a2 : w2.cell? ⟨kb, 2, none⟩ = some (.int .i64 fm) := HKK.out.cell 2
  have a3 : w2.cell? ⟨kb, 3, none⟩ = some (.string no) := HKK.out.cell 3
  go_wp2_with fail
  refine (HRT.out _).mono ?_
  rintro e w3 ⟨rfl, hb3⟩
  have HH := Lib.hid (HH.out.below hb3)
  have HKK := Lib.hid (HKK.out.below hb3)
  have HB := Lib.hid (HB.out.trans (hb3.mono HB.out.size))
  clear hb3
  clear a0 a1 a2 a3
  have HX : Hid (∀ w', Below w3.heap.size w3 w' → w'.cell? ⟨R.r, 0, none⟩ = some (ptr R.s) ∧ w'.cell? ⟨kb, 0, none⟩ = some (.string db) ∧ w'.cell? ⟨kb, 1, none⟩ = some (.string ro) ∧ w'.cell? ⟨kb, 2, none⟩ = some (.int .i64 fm) ∧ w'.cell? ⟨kb, 3, none⟩ = some (.string no)) := Lib.hid fun w' hb => by
    obtain ⟨_, _, _, _, r0, _, _⟩ := (HH.out.below hb).look
    have kk := HKK.out.below hb
    exact ⟨r0, kk.cell 0, kk.cell 1, kk.cell 2, kk.cell 3⟩
  go_wp2_with fail
  refine wp_region_held_drew (S := (fun w' => w'.cell? ⟨R.r, 0, none⟩ = some (ptr R.s) ∧ w'.cell? ⟨kb, 0, none⟩ = some (.string db) ∧ w'.cell? ⟨kb, 1, none⟩ = some (.string ro) ∧ w'.cell? ⟨kb, 2, none⟩ = some (.int .i64 fm) ∧ w'.cell? ⟨kb, 3, none⟩ = some (.string no))) (by kernel_rfl) ?_ (fun hS => ?_)
  · exact HX.out _ (Below.refl _ _).drew
  refine tkY 0 ?_ rfl hS ?_ ?_
  rotate_left
  · intro wz hz
    obtain ⟨z0, z1, z2, z3, z4⟩ := hz
    go_simp
    all_goals first | with_reducible rfl | omega
  try simp only [Act.put, pu]
  refine tkY 1 ?_ rfl hS ?_ ?_
  rotate_left
  · intro wz hz
    obtain ⟨z0, z1, z2, z3, z4⟩ := hz
    go_simp
    all_goals first | with_reducible rfl | omega
  try simp only [Act.put, pu]
  refine tkY 2 ?_ rfl hS ?_ ?_
  rotate_left
  · intro wz hz
    obtain ⟨z0, z1, z2, z3, z4⟩ := hz
    go_simp
    all_goals first | with_reducible rfl | omega
  try simp only [Act.put, pu]
  refine tkY 3 ?_ rfl hS ?_ ?_
  rotate_left
  · intro wz hz
    obtain ⟨z0, z1, z2, z3, z4⟩ := hz
    go_simp
    all_goals first | with_reducible rfl | omega
  try simp only [Act.put, pu]
  refine tkY 4 ?_ rfl hS ?_ ?_
  rotate_left
  · intro wz hz
    obtain ⟨z0, z1, z2, z3, z4⟩ := hz
    go_simp
    all_goals first | with_reducible rfl | omega
  try simp only [Act.put, pu]
  refine tkY 5 ?_ rfl hS ?_ ?_
  rotate_left
  · intro wz hz
    obtain ⟨z0, z1, z2, z3, z4⟩ := hz
    go_simp
    all_goals first | with_reducible rfl | omega
  try simp only [Act.put, pu]
  refine tkY 6 ?_ rfl hS ?_ ?_
  rotate_left
  · intro wz hz
    obtain ⟨z0, z1, z2, z3, z4⟩ := hz
    go_simp
    all_goals first | with_reducible rfl | omega
  try simp only [Act.put, pu]
  refine wpAnyH_ready (rs := [7]) (by kernel_rfl) (by simp) (AllReadyH.cons rfl (fun K' hK' => ?_) AllReadyH.nil)
  go_simp
  have hbd : Below w3.heap.size w3 w3.drew := (Below.refl _ _).drew
  refine (HSZ.out w3.drew).mono ?_
  rintro e w4 ⟨rfl, b4⟩
  have HB4 := Lib.hid (hbd.trans (b4.mono hbd.size))
  clear b4 hbd
  refine hK'.out _ _ ?_ (fun hSn => ?_)
  · exact HX.out _ HB4.out
  clear hK' K' hS
  have hS := hSn
  clear hSn
  try simp only [Act.put, pu]
  refine wpAnyH_ready (rs := [8]) (by kernel_rfl) (by simp) (AllReadyH.cons rfl (fun K' hK' => ?_) AllReadyH.nil)
  go_simp
  refine (HPB.out _ (HH.out.below HB4.out)).mono ?_
  rintro e w5 ⟨pa, pc, rfl, og, s5, hc5⟩
  have H5 := Lib.hid ((StR.below (StR.refl HH.out) HB4.out).trans ((HH.out.below HB4.out).store s5 hc5))
  have HOG := Lib.hid og
  clear og s5
  refine hK'.out _ _ ?_ (fun hSn => ?_)
  · have kr : Bk w4 R.r 78 _ := (HH.out.below HB4.out).choose_spec.choose_spec.choose_spec.1
    obtain ⟨scs, hsk⟩ := CA.RS.bk (HH.out.below HB4.out).choose_spec.choose_spec.choose_spec.2.1
    have k1 := (kt_one hsk hc5 (t := 78) (by decide)).bk kr
    have k2 := (kt_one hsk hc5 (t := 42) (by decide)).bk (HKK.out.below HB4.out)
    exact ⟨k1.cell 0, k2.cell 0, k2.cell 1, k2.cell 2, k2.cell 3⟩
  clear hK' K' hS
  have hS := hSn
  clear hSn
  try simp only [Act.put, pu]
  refine tkY 9 ?_ rfl hS ?_ ?_
  rotate_left
  · intro wz hz
    go_simp
    all_goals first | with_reducible rfl | omega
  try simp only [Act.put, pu]
  refine tkY 10 ?_ rfl hS ?_ ?_
  rotate_left
  · intro wz hz
    go_simp
    all_goals first | with_reducible rfl | omega
  try simp only [Act.put, pu]
  refine tkY 11 ?_ rfl hS ?_ ?_
  rotate_left
  · intro wz hz
    go_simp
    all_goals first | with_reducible rfl | omega
  try simp only [Act.put, pu]
  refine tkY 12 ?_ rfl hS ?_ ?_
  rotate_left
  · intro wz hz
    go_simp
    all_goals first | with_reducible rfl | omega
  try simp only [Act.put, pu]
  refine tkY 13 ?_ rfl hS ?_ ?_
  rotate_left
  · intro wz hz
    go_simp
    all_goals first | with_reducible rfl | omega
  try simp only [Act.put, pu]
  refine wpAnyH_done (by kernel_rfl) ?_ _
  clear hS
  clear hc5 HX
  have h5 := H5.out.1
  have HRT5 := Lib.hid h5
  obtain ⟨va, vc, L, hr5, _, _, hp5, hv5, hn5, _⟩ := h5
  have HR5 := Lib.hid hr5
  have HP5 := Lib.hid hp5
  have HV5 := Lib.hid hv5
  have HNL : Hid (L.length ≤ N) := Lib.hid hn5
  have y2 : w5.cell? ⟨R.r, 2, none⟩ = some (.slice va L.length vc) := hr5.cell 2
  clear hr5 hp5 hv5 hn5
  go_wp2
  go_loopg [13, 14] L.length (fun g u13 u14 wx => ∃ i : Nat, u14 = .int .i64 (i : Int) ∧ i + g = L.length ∧ PO w5.heap.size wx u13 (wot t (L.take i)) ∧ Below w5.heap.size w5 wx)
  case atStart => exact ⟨0, rfl, by omega, PO.nil _ _, Below.refl _ _⟩
  case round =>
    obtain ⟨i, rfl, hi, hO, hB⟩ := hrel
    obtain ⟨ua, uc, rfl⟩ := hO.pr.form
    have HO := Lib.hid hO
    have HB5 := Lib.hid hB
    have y2 := (hB.cell (p := ⟨R.r, 2, none⟩) HR5.out.lt).trans y2
    cases gk with
    | zero =>
      have hil : i = L.length := by omega
      have l3 : ¬ ((i : Int) < (L.length : Int)) := by omega
      have hD : wot t (L.take i) = wot t L := by rw [hil, List.take_length]
      rw [hD] at HO ⊢
      obtain ⟨D, hDD⟩ : ∃ D, wot t L = D := ⟨_, rfl⟩
      rw [hDD] at HO ⊢
      have HO := Lib.hid HO.out
      have HDL : Hid (D.length ≤ L.length) := Lib.hid (by rw [← hDD]; exact wot_len _ _)
      have HDD := Lib.hid hDD
      obtain ⟨W4, hW4⟩ : ∃ W, wr.alloc (.cells #[.string t, .string v] 94) = W := ⟨_, rfl⟩
      obtain ⟨nb, hnb⟩ : ∃ b, wr.heap.size = b := ⟨_, rfl⟩
      have hb4 : Below wr.heap.size wr W4 := by rw [← hW4]; exact (Below.refl _ _).alloc (Nat.le_refl _) _
      have kn : Bk W4 nb 94 #[.string t, .string v] := by rw [← hW4, ← hnb]; exact Bk.new _ _ _
      have HO := Lib.hid (HO.out.below hb4)
      have HB6 := Lib.hid (HB5.out.trans (hb4.mono HB5.out.size))
      have HKN := Lib.hid kn
      clear hi hil hO hB hD hb4 kn hDD
      go_wp2_with (at_builtin; (try rw [hW4]); (try rw [hnb]); refine wpList_app_pair w5.heap.size (.slice ua D.length uc) D (t, v) nb rfl _ _ rfl rfl HO.out rfl HKN.out (by have := HDL.out; have := HNL.out; have := HN.out; omega) HB6.out.size ?_; intro g9 cap9 w9 o9 gr9; have HB9 : Hid (Below w5.heap.size w5 w9) := Lib.hid (HB6.out.grown gr9 HB6.out.size fun k hk => (World.ownsRow.lt HO.out k hk).1); have HO9 := Lib.hid o9; have kr9 := HR5.out.below HB9.out; have fr := kr9.frozen 2; have e0 : w9.cell? ⟨R.r, 1, none⟩ = some (ptr R.q) := kr9.cell 1; have e2 := kr9.cell 2; clear o9 gr9 kr9)
      obtain ⟨W2, hW2⟩ : ∃ W, w9.setCell ⟨R.r, 2, none⟩ (.slice g9 (D.length + 1) cap9) = W := ⟨_, rfl⟩
      have hlen : (D ++ [(t, v)]).length = D.length + 1 := by rw [List.length_append]; rfl
      have hst : StR w0 R (N + 1) ⟨T9, K9, σ.I, setV t v σ.V⟩ w3 W2 := StR.trans (H5.out.below HB9.out) (RT.vals (HRT5.out.below HB9.out) HO9.out HRT5.out.bel.size (by rw [hlen]; exact hW2) (fun x => by rw [← HDD.out, lkp_put, HV5.out x]; rfl) (by rw [hlen]; have := HDL.out; have := HNL.out; omega) (Nat.le_succ N))
      have hog : OT w4.heap.size W2 (.slice pa G.length pc) G := by
        have h1 := SL.OT.below HOG.out HB9.out
        rw [← hW2]
        refine SL.OT.keep h1 fun b hb => ?_
        have hne : b ≠ R.r := fun e => by
          have h2 := (World.ownsRow.lt HOG.out b hb).1
          have h3 := HR5.out.lt
          have h4 := (HRT5.out.rlt).1
          have h6 := (HH.out.rlt).1
          have h7 := HB4.out.size
          omega
        exact Below.heap_setCell _ _ _ _ hne
      rw [hW2]
      have HST := Lib.hid hst
      have HOG := Lib.hid hog
      clear hst hog hlen hW2 fr e0 e2 HO9 HB9 HO HB6 HKN hW4 hnb y2
      have HY : Hid (∀ w', Below W2.heap.size W2 w' → w'.cell? ⟨R.r, 1, none⟩ = some (ptr R.q) ∧ w'.cell? ⟨R.r, 3, none⟩ = some (.int .i64 R.ttl)) := Lib.hid fun w' hb => by
        have kr : Bk W2 R.r 78 _ := HST.out.1.choose_spec.choose_spec.choose_spec.1
        have k1 := kr.below hb
        exact ⟨k1.cell 1, k1.cell 3⟩
      refine wp_region_held_drew (S := (fun w' => w'.cell? ⟨R.r, 1, none⟩ = some (ptr R.q) ∧ w'.cell? ⟨R.r, 3, none⟩ = some (.int .i64 R.ttl))) (by kernel_rfl) ?_ (fun hS => ?_)
      · exact HY.out _ (Below.refl _ _).drew
      refine tkY 0 ?_ rfl hS ?_ ?_
      rotate_left
      · intro wz hz
        obtain ⟨z0, z1⟩ := hz
        go_simp
        all_goals first | with_reducible rfl | omega
      try simp only [Act.put, pu]
      refine tkY 1 ?_ rfl hS ?_ ?_
      rotate_left
      · intro wz hz
        obtain ⟨z0, z1⟩ := hz
        go_simp
        all_goals first | with_reducible rfl | omega
      try simp only [Act.put, pu]
      refine tkY 2 ?_ rfl hS ?_ ?_
      rotate_left
      · intro wz hz
        obtain ⟨z0, z1⟩ := hz
        go_simp
        all_goals first | with_reducible rfl | omega
      try simp only [Act.put, pu]
      refine tkY 3 ?_ rfl hS ?_ ?_
      rotate_left
      · intro wz hz
        obtain ⟨z0, z1⟩ := hz
        go_simp
        all_goals first | with_reducible rfl | omega
      try simp only [Act.put, pu]
      refine tkY 4 ?_ rfl hS ?_ ?_
      rotate_left
      · intro wz hz
        obtain ⟨z0, z1⟩ := hz
        go_simp
        all_goals first | with_reducible rfl | omega
      try simp only [Act.put, pu]
      refine tkY 5 ?_ rfl hS ?_ ?_
      rotate_left
      · intro wz hz
        obtain ⟨z0, z1⟩ := hz
        go_simp
        all_goals first | with_reducible rfl | omega
      try simp only [Act.put, pu]
      refine tkY 6 ?_ rfl hS ?_ ?_
      rotate_left
      · intro wz hz
        obtain ⟨z0, z1⟩ := hz
        go_simp
        all_goals first | with_reducible rfl | omega
      try simp only [Act.put, pu]
      refine tkY 7 ?_ rfl hS ?_ ?_
      rotate_left
      · intro wz hz
        obtain ⟨z0, z1⟩ := hz
        go_simp
        all_goals first | with_reducible rfl | omega
      try simp only [Act.put, pu]
      refine tkY 8 ?_ rfl hS ?_ ?_
      rotate_left
      · intro wz hz
        obtain ⟨z0, z1⟩ := hz
        go_simp
        all_goals first | with_reducible rfl | omega
      try simp only [Act.put, pu]
      refine tkY 9 ?_ rfl hS ?_ ?_
      rotate_left
      · intro wz hz
        obtain ⟨z0, z1⟩ := hz
        go_simp
        all_goals first | with_reducible rfl | omega
      try simp only [Act.put, pu]
      refine tkY 10 ?_ rfl hS ?_ ?_
      rotate_left
      · intro wz hz
        obtain ⟨z0, z1⟩ := hz
        go_simp
        all_goals first | with_reducible rfl | omega
      try simp only [Act.put, pu]
      refine wpAnyH_ready (rs := [11]) (by kernel_rfl) (by simp) (AllReadyH.cons rfl (fun K' hK' => ?_) AllReadyH.nil)
      go_simp
      refine (HQ.out _ _ (HST.out.1.below (Below.refl _ _).drew)).mono ?_
      rintro e w6 ⟨rfl, q6, hc6⟩
      have hc6 : Chg (fun b => b = R.q) W2 w6 := (Chg.of_below (show Below W2.heap.size W2 W2.drew from (Below.refl _ _).drew)).trans hc6
      refine hK'.out _ _ ?_ (fun hSn => ?_)
      · have kr : Bk W2 R.r 78 _ := HST.out.1.choose_spec.choose_spec.choose_spec.1
        obtain ⟨qcs, hqk⟩ := CA.RQ.bk (RT.qu HST.out.1).1
        have k1 := (kt_one hqk hc6 (t := 78) (by decide)).bk kr
        exact ⟨k1.cell 1, k1.cell 3⟩
      clear hK' K' hS
      have hS := hSn
      clear hSn
      try simp only [Act.put, pu]
      refine wpAnyH_done (by kernel_rfl) ?_ _
      clear hS
      clear HY
      have HST : Hid (StR w0 R (N + 1) s1 w3 w6) := Lib.hid (by have h := HST.out.trans (HST.out.1.queue q6 hc6 HSL.out (Nat.le_refl _)); rw [← HS1.out]; exact h)
      have HOG := Lib.hid (SL.OT.chg HOG.out hc6 (fun q hq ho => by have h1 := HH.out.rlt.2.2; have h2 := (World.ownsRow.lt HOG.out q hq).1; have h3 := HB4.out.size; omega))
      clear q6 hc6
      go_wp2
      go_loopg [15] G.length (fun g u15 wx => ∃ j : Nat, u15 = .int .i64 (j : Int) ∧ j + g = G.length ∧ StR w0 R (N + 1) (dropsS (G.take j) s1) w3 wx ∧ OT w4.heap.size wx (.slice pa G.length pc) G)
      case atStart => exact ⟨0, rfl, by omega, HST.out, HOG.out⟩
      case round =>
        obtain ⟨j, rfl, hj, hst, hot⟩ := hrel
        have HST := Lib.hid hst
        have HOT := Lib.hid hot
        cases gk with
        | zero =>
          have hjl : j = G.length := by omega
          have l4 : ¬ ((j : Int) < (G.length : Int)) := by omega
          have HF : Hid (StR w0 R (N + 1) (dropsS G s1) w3 wr) := Lib.hid (by rw [hjl, List.take_length] at hst; exact hst)
          have hds : ∀ t ∈ G, t.size ≤ 1099511627776 := fun t ht => by have := HS.out t ht; omega
          have HDS := Lib.hid hds
          clear hj hst hot hjl hds
          go_wp2_with fail
          refine (CA.rkeys_any _ G _ HOT.out.ts (by have := HGL.out; omega) HDS.out).mono ?_
          rintro e w7 ⟨a5, c5, rfl, o5, hb5⟩
          have HF := Lib.hid (HF.out.below hb5)
          have HO5 := Lib.hid o5
          clear o5 hb5
          go_wp2
          go_ret2
          refine ⟨a5, c5, ?_, HO5.out.kr, HF.out.1, (Chg.of_below HB.out).trans HF.out.2⟩
          rw [List.length_map]; rfl
        | succ g =>
          have hlt : j < G.length := by omega
          obtain ⟨b, off, cap, he, hc, hx⟩ := hot.ts.inv (by omega)
          injection he with e1 _ e3
          subst e1 e3
          obtain ⟨y, hy⟩ : ∃ y, G[j] = y := ⟨_, rfl⟩
          have hyi : G[j]? = some y := by rw [List.getElem?_eq_getElem hlt, hy]
          have x0 := hx j y hyi
          have l0 : (0 : Int) ≤ (j : Int) := by omega
          have l4 : (j : Int) < (G.length : Int) := by omega
          obtain ⟨j1, hj1⟩ : ∃ j1, j + 1 = j1 := ⟨_, rfl⟩
          have wk : IntKind.i64.wrap ((j : Int) + 1) = (j1 : Int) := by rw [show (j : Int) + 1 = (j1 : Int) by omega]; exact IntWalk.i64_in _ (by have := HGL.out; omega)
          have HJ : Hid (j1 + g = G.length) := Lib.hid (by omega)
          have hdt := drops_take hyi s1
          rw [hj1] at hdt
          have HDT := Lib.hid hdt
          clear hj hst hot hc hx hy hyi hj1 hlt hdt
          go_wp2_with fail
          refine (rgone_any HST.out.1 (HLK.out.drops _) (by have := HN.out; omega) y).mono ?_
          rintro e w7 ⟨rfl, h4⟩
          have H4 : Hid (StR w0 R (N + 1) (dropsS (G.take j1) s1) w3 w7) := Lib.hid (by rw [HDT.out]; exact HST.out.trans h4)
          have HO4 := Lib.hid (SL.OT.chg HOT.out h4.2 (fun q hq ho => by have := HH.out.own_lt ho; have := (World.ownsRow.lt HOT.out q hq).1; have := HB4.out.size; omega))
          clear h4
          go_wp2
          go_roundg g
          case measure => exact Nat.lt_succ_self _
          case rel => exact ⟨j1, rfl, HJ.out, H4.out, HO4.out⟩
    | succ g =>
      have hlt : i < L.length := by omega
      obtain ⟨b, off, cap, he, hc, hx⟩ := (HP5.out.pr.below hB).inv (by omega)
      injection he with e1 _ e3
      subst e1 e3
      obtain ⟨y, hy⟩ : ∃ y, L[i] = y := ⟨_, rfl⟩
      have hyi : L[i]? = some y := by rw [List.getElem?_eq_getElem hlt, hy]
      obtain ⟨x0, x1⟩ := hx i y hyi
      have l0 : (0 : Int) ≤ (i : Int) := by omega
      have l3 : (i : Int) < (L.length : Int) := by omega
      obtain ⟨i1, hi1⟩ : ∃ i1, i + 1 = i1 := ⟨_, rfl⟩
      have wk : IntKind.i64.wrap ((i : Int) + 1) = (i1 : Int) := by rw [show (i : Int) + 1 = (i1 : Int) by omega]; exact IntWalk.i64_in _ (by have := HNL.out; have := HN.out; omega)
      have HI1 : Hid (i1 + g = L.length) := Lib.hid (by omega)
      have hwt := wot_take (t := t) hyi
      rw [hi1] at hwt
      obtain ⟨D, hD⟩ : ∃ D, wot t (L.take i) = D := ⟨_, rfl⟩
      have HDL : Hid (D.length ≤ 1099511627776) := Lib.hid (by rw [← hD]; have h1 := wot_len t (L.take i); have h2 := HNL.out; have h3 := HN.out; rw [List.length_take] at h1; omega)
      rw [hD] at hwt
      have HO := Lib.hid (show PO w5.heap.size wr (.slice ua D.length uc) D by rw [← hD]; exact hO)
      rw [hD]
      obtain ⟨yk, yv⟩ := y
      simp only at x0 x1 hwt
      by_cases hk : yk = t
      · rw [if_pos hk] at hwt
        have es : (yk.toList == t.toList) = true := by rw [tl_dec]; exact decide_eq_true hk
        have HW := Lib.hid hwt
        clear hi hx hc hy hyi hi1 hlt hwt hD hO hB hk x1
        go_wp2
        go_roundg g
        case measure => exact Nat.lt_succ_self _
        case rel => exact ⟨i1, rfl, HI1.out, by rw [HW.out]; exact HO.out, HB5.out⟩
      · rw [if_neg hk] at hwt
        have es : (yk.toList == t.toList) = false := by rw [tl_dec]; exact decide_eq_false hk
        have HW := Lib.hid hwt
        obtain ⟨W4, hW4⟩ : ∃ W, wr.alloc (.cells #[.string yk, .string yv] 94) = W := ⟨_, rfl⟩
        obtain ⟨nb, hnb⟩ : ∃ b, wr.heap.size = b := ⟨_, rfl⟩
        have hb4 : Below wr.heap.size wr W4 := by rw [← hW4]; exact (Below.refl _ _).alloc (Nat.le_refl _) _
        have kn : Bk W4 nb 94 #[.string yk, .string yv] := by rw [← hW4, ← hnb]; exact Bk.new _ _ _
        have HO := Lib.hid (HO.out.below hb4)
        have HB5 := Lib.hid (HB5.out.trans (hb4.mono HB5.out.size))
        have HKN := Lib.hid kn
        clear hi hx hc hy hyi hi1 hlt hwt hD hO hB hk hb4 kn
        go_wp2_with (at_builtin; (try rw [hW4]); (try rw [hnb]); refine wpList_app_pair w5.heap.size (.slice ua D.length uc) D (yk, yv) nb rfl _ _ rfl rfl HO.out rfl HKN.out HDL.out HB5.out.size ?_; intro g9 cap9 w9 o9 gr9)
        have HB9 : Hid (Below w5.heap.size w5 w9) := Lib.hid (HB5.out.grown gr9 HB5.out.size fun k hk => (World.ownsRow.lt HO.out k hk).1)
        have HO9 := Lib.hid o9
        clear o9 gr9
        go_wp2
        go_roundg g
        case measure => exact Nat.lt_succ_self _
        case rel =>
          refine ⟨i1, rfl, HI1.out, ?_, HB9.out⟩
          rw [HW.out]
          have := HO9.out
          rw [List.length_append] at this
          exact this
theorem rputR_any (h : RT w0 w R N σ) (st : Sts R.al R.ke σ) (hN : N ≤ 100000) (hal : R.mo ≤ R.al ∧ R.al ≤ 1073741824) (httl : 1 ≤ R.ttl ∧ R.ttl ≤ 549755813888) (k : Ky) (hk : FitK k) (v : ByteArray) (hv : v.size ≤ 1099511627776) (now : Int) (Q : (Int × List ByteArray) × Sg) (hQ : putR R.al R.mo R.ttl k v now σ = Q) :
    Calls Tryz.prog 9 #[ptr R.r, kyV k, .string v, .int .i64 now] w (RPutP w0 R N Q w) := by
  subst hQ
  unfold putR
  by_cases hp : putOk k now
  · rw [if_pos hp]
    obtain ⟨hr, hw⟩ := hp
    by_cases hm : szK k v ≤ R.mo
    · rw [if_pos hm]
      exact rput_yes h st hN hal httl k hk v hv now hr hw hm
    · rw [if_neg hm]
      refine (rput_bigS h k hk v hv now hr hw (by omega)).mono ?_
      rintro e w' ⟨rfl, h1, h2⟩
      exact ⟨none, 0, rfl, KR.nil _, h1.mono (Nat.le_succ N), Chg.of_below h2⟩
  · rw [if_neg hp]
    refine (rput_arg h k hk v now hp).mono ?_
    rintro e w' ⟨rfl, h1, h2⟩
    exact ⟨none, 0, rfl, KR.nil _, h1.mono (Nat.le_succ N), Chg.of_below h2⟩
end
end Go.Proofs.YtjngangojgjceaaGreat.CA
namespace Go.Proofs.YtjngangojgjceaaGreat.CA
open Go.ChangeShapes Go.WideShapes Go.ChangeAt Go.RowKit Go.Maps Go.ChangeMaps
open Go.Proofs.YtjngangojgjceaaGreat.SL Go.Proofs.YtjngangojgjceaaGreat.EX Go.Proofs.YtjngangojgjceaaGreat.RW
set_option maxRecDepth 100000
set_option linter.unusedVariables false
set_option linter.unusedSimpArgs false

set_option maxHeartbeats 4000000 in
theorem rnew12_yes (w0 w : World) (h0 : Below w0.heap.size w0 w) (al ke mo ttl : Int) (hb : okC al ke mo ttl) :
    Calls Tryz.prog 6 #[.int .i64 al, .int .i64 ke, .int .i64 mo, .int .i64 ttl] w fun e w' => ∃ R : Rb, e = .returned (.tuple #[ptr R.r, .int .i64 0]) ∧ R.al = al ∧ R.ke = ke ∧ R.mo = mo ∧ R.ttl = ttl ∧ RT w0 w' R 0 emS ∧ Below w.heap.size w w' ∧ w.heap.size ≤ R.r := by
  obtain ⟨hb1, hb2, hb3⟩ := hb
  have l1 : ¬ (ttl < 1) := by omega
  have l2 : ¬ ((549755813888 : Int) < ttl) := by omega
  have HNW := Lib.hid (SL.rnew_yes w0 w h0 al ke mo hb1)
  clear hb1 hb2 hb3 h0
  go_enter Tryz.func6, Tryz.ntmps6
  go_wp2_with fail
  refine HNW.out.mono ?_
  rintro e w2 ⟨g, rfl, hs, hb2⟩
  have HS := Lib.hid hs
  have HB := Lib.hid hb2
  obtain ⟨W3, hW3⟩ : ∃ W, w2.alloc (.cells #[.slice none 0 0] 75) = W := ⟨_, rfl⟩
  obtain ⟨qb, hqb⟩ : ∃ b, w2.heap.size = b := ⟨_, rfl⟩
  have hb3 : Below w2.heap.size w2 W3 := by rw [← hW3]; exact (Below.refl _ _).alloc (Nat.le_refl _) _
  have kq : Bk W3 qb 75 #[.slice none 0 0] := by rw [← hW3, ← hqb]; exact Bk.new _ _ _
  obtain ⟨W4, hW4⟩ : ∃ W, W3.alloc (.cells #[ptr g, ptr qb, .slice none 0 0, .int .i64 ttl] 78) = W := ⟨_, rfl⟩
  obtain ⟨rb, hrb⟩ : ∃ b, W3.heap.size = b := ⟨_, rfl⟩
  have hb4 : Below w2.heap.size w2 W4 := by rw [← hW4]; exact hb3.alloc hb3.size _
  have kr : Bk W4 rb 78 #[ptr g, ptr qb, .slice none 0 0, .int .i64 ttl] := by rw [← hW4, ← hrb]; exact Bk.new _ _ _
  have kq : Bk W4 qb 75 #[.slice none 0 0] := by rw [← hW4]; exact kq.alloc _
  have HKQ := Lib.hid kq
  have HKR := Lib.hid kr
  have HB4 := Lib.hid hb4
  have HGE : Hid (w.heap.size ≤ rb ∧ w2.heap.size ≤ qb ∧ w2.heap.size ≤ rb) := Lib.hid (by have h1 := hb2.size; have h2 := hb3.size; omega)
  clear hs hb2 hb3 hb4 kq kr HNW
  go_wp2
  try rw [hW3]
  try rw [hqb]
  try rw [hW4]
  try rw [hrb]
  go_ret2
  have hbel := HS.out.bel
  refine ⟨⟨rb, g, qb, al, ke, mo, ttl⟩, rfl, rfl, rfl, rfl, rfl, ⟨none, 0, [], HKR.out, HS.out.below HB4.out, ⟨none, 0, HKQ.out, EI.nil _ _, by have := hbel.size; have := HGE.out; show w0.heap.size ≤ qb; omega⟩, PO.nil _ _, fun t => rfl, Nat.le_refl _, Nat.le_refl _, by have := hbel.size; have := HGE.out; show w0.heap.size ≤ rb; omega⟩, HB.out.trans (HB4.out.mono HB.out.size), HGE.out.1⟩
set_option maxHeartbeats 4000000 in
theorem rnew12_no (al ke mo ttl : Int) (w : World) (hb : ¬ okC al ke mo ttl) :
    Calls Tryz.prog 6 #[.int .i64 al, .int .i64 ke, .int .i64 mo, .int .i64 ttl] w fun e w' => ∃ g, e = .returned (.tuple #[ptr g, .int .i64 1]) ∧ Below w.heap.size w w' := by
  by_cases h1 : okB al ke mo
  · by_cases l1 : ttl < 1
    · have HNW := Lib.hid (SL.rnew_yes w w (Below.refl _ _) al ke mo h1)
      have d1 : decide (ttl < 1) = true := decide_eq_true l1
      clear hb h1
      go_enter Tryz.func6, Tryz.ntmps6
      go_wp2_with fail
      refine HNW.out.mono ?_
      rintro e w2 ⟨g, rfl, hs, hb2⟩
      have HB := Lib.hid hb2
      clear hs hb2 HNW
      go_wp2
      go_ret2
      exact ⟨_, rfl, ((HB.out.alloc HB.out.size _).alloc (by have := HB.out.size; simp; omega) _).alloc (by have := HB.out.size; simp; omega) _⟩
    · have l2 : (549755813888 : Int) < ttl := by
        by_cases h : ttl ≤ 549755813888
        · exact absurd ⟨h1, by omega, h⟩ hb
        · omega
      have HNW := Lib.hid (SL.rnew_yes w w (Below.refl _ _) al ke mo h1)
      have d1 : decide (ttl < 1) = false := decide_eq_false l1
      have d2 : decide (549755813888 < ttl) = true := decide_eq_true l2
      clear hb h1
      go_enter Tryz.func6, Tryz.ntmps6
      go_wp2_with fail
      refine HNW.out.mono ?_
      rintro e w2 ⟨g, rfl, hs, hb2⟩
      have HB := Lib.hid hb2
      clear hs hb2 HNW
      go_wp2
      go_ret2
      exact ⟨_, rfl, ((HB.out.alloc HB.out.size _).alloc (by have := HB.out.size; simp; omega) _).alloc (by have := HB.out.size; simp; omega) _⟩
  · have HNW := Lib.hid (SL.rnew_no al ke mo w h1)
    clear hb h1
    go_enter Tryz.func6, Tryz.ntmps6
    go_wp2_with fail
    refine HNW.out.mono ?_
    rintro e w2 ⟨rfl, hb2⟩
    have HB := Lib.hid hb2
    clear hb2 HNW
    go_wp2
    go_ret2
    exact ⟨_, rfl, ((HB.out.alloc HB.out.size _).alloc (by have := HB.out.size; simp; omega) _).alloc (by have := HB.out.size; simp; omega) _⟩
end Go.Proofs.YtjngangojgjceaaGreat.CA
