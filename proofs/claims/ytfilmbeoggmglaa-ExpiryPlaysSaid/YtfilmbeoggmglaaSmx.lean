/- The document's store for slru: Put. Conditions: each key once, how large. -/
import Derived.Test.YtfilmbeoggmglaaSmw
namespace Go.Proofs.Ytfilmbeoggmglaa.SL
open Go.ChangeShapes Go.WideShapes Go.ChangeAt Go.RowKit Go.Maps Go.ChangeMaps
set_option maxRecDepth 100000
set_option linter.unusedVariables false
set_option linter.unusedSimpArgs false

theorem ty_es : (88 : TypeId) ≠ 9 := by decide
theorem ty_ss : (47 : TypeId) ≠ 9 := by decide
/-- a step that turns the blocks of lists of texts at most -/
theorem RS.chg {w0 w w' : World} {g : Nat} {al ke mo : Int} {T K : List En} {S : Nat → Prop} (h : RS w0 w g al ke mo T K) (hc : Chg S w w') (hs : ∀ b, S b → w0.heap.size ≤ b ∧ ∃ cur fz, w.heap[b]? = some (.cells cur 9 fz)) : RS w0 w' g al ke mo T K := by
  obtain ⟨aT, cT, aK, cK, h1, h2, h3, h4, h5, h6, h7⟩ := h
  have ent : ∀ {v : Value} {l : List En}, EO w0.heap.size w v l → EO w0.heap.size w' v l := by
    intro v l he
    refine ⟨he.1, ?_⟩
    rcases he.2 with h2 | ⟨q, cap, cur, rfl, hbb, hg, hr⟩
    · exact .inl h2
    · refine .inr ⟨q, cap, cur, rfl, hbb, (hc.block q (World.ownsRow.lt he q rfl).2 fun hq => ?_).trans hg, hr⟩
      obtain ⟨_, cur2, fz2, h9⟩ := hs q hq
      rw [hg] at h9
      injection h9 with h9
      injection h9 with _ h9
      exact ty_es h9
  refine ⟨aT, cT, aK, cK, h1.heap (hc.block g h1.lt fun hq => ?_), ent h2, ent h3, h4, h5, h6, below_chg h7 hc fun b hb => (hs b hb).1⟩
  obtain ⟨_, cur2, fz2, h9⟩ := hs g hq
  unfold Bk at h1
  rw [h1] at h9
  injection h9 with h9
  injection h9 with _ h9
  exact ty_ss h9
theorem OT.ty {B : Nat} {w : World} {v : Value} {d : List ByteArray} (h : OT B w v d) : ∀ b, v.ownBlock = some b → B ≤ b ∧ ∃ cur fz, w.heap[b]? = some (.cells cur 9 fz) := by
  intro b hb
  rcases h.2 with ⟨rfl, _⟩ | ⟨q, cap, cur, rfl, hbb, hg, hr⟩
  · cases hb
  · injection hb with hb
    subst hb
    exact ⟨hbb, cur, _, hg⟩
theorem OT.ng {B g : Nat} {w : World} {v : Value} {d : List ByteArray} {cs : Array Value} (h : OT B w v d) (hg : Bk w g 47 cs) : ∀ b, v.ownBlock = some b → b ≠ g := by
  rintro b hb rfl
  obtain ⟨_, cur, fz, h9⟩ := h.ty b hb
  unfold Bk at hg
  rw [hg] at h9
  injection h9 with h9
  injection h9 with _ h9
  exact ty_ss h9
theorem rsum_to (v : Value) (l : List En) (w : World) (h : ER w v l) (hp : posE l) (hs : sumE l ≤ 4611686018427387904) (S : Int) (hS : sumE l = S) :
    Calls Try.prog 24 #[v] w fun e w' => e = .returned (.int .i64 S) ∧ ∃ n, w' = w.drewN n := by subst hS; exact rsum_any v l w h hp hs
theorem sum_dl {l : List En} (h : posE l) : sumE l.dropLast ≤ sumE l := by
  cases hl : l.getLast? with
  | none => rw [List.getLast?_eq_none_iff.1 hl]; exact Int.le_refl _
  | some x =>
    have e := last_app hl
    have := congrArg sumE e
    rw [sum_app, sumE, sumE] at this
    have := h x (List.mem_of_getLast? hl)
    omega
theorem posE.dl {l : List En} (h : posE l) : posE l.dropLast := fun y hy => h y (List.dropLast_subset _ hy)
theorem last_at {l : List En} {x : En} (h : l.getLast? = some x) : ∃ m, l.length = m + 1 ∧ l[m]? = some x ∧ l.dropLast.length = m := by
  have e := last_app h
  refine ⟨l.dropLast.length, ?_, ?_, rfl⟩
  · have := congrArg List.length e
    rw [List.length_append] at this
    simpa using this
  · have : (l.dropLast ++ [x])[l.dropLast.length]? = some x := by simp
    rwa [← e] at this
theorem rahead_to (v : Value) (l : List En) (y : En) (w : World) (h : ER w v l) (hl : l.length ≤ 1073741824) (L : List En) (hL : y :: l = L) :
    Calls Try.prog 46 #[v, .agg #[.string y.1, .int .i64 y.2]] w (EnsP w.heap.size w L) := by subst hL; exact rahead_any v l y w h hl
set_option maxHeartbeats 8000000 in
theorem rput_to (w0 w : World) (g : Nat) (al ke mo : Int) (T0 K0 : List En) (h : RS w0 w g al ke mo T0 K0) (hu : UK T0 K0) (hpT : posE T0) (hpK : posE K0) (hlim : sumE T0 + sumE K0 ≤ 1073741824) (hal : mo ≤ al ∧ al ≤ 1073741824) (k : ByteArray) (z : Int) (hz : 1 ≤ z) (hm : z ≤ mo)
    (T9 K9 : List En) (G : List ByteArray) (hR : putE al k z T0 K0 = (T9, K9, G)) :
    Calls Try.prog 12 #[ptr g, .string k, .int .i64 z] w fun e w' => ∃ v c, e = .returned (.tuple #[.slice v G.length c, .int .i64 0]) ∧ OT w.heap.size w' (.slice v G.length c) G ∧ RS w0 w' g al ke mo T9 K9 ∧ Chg (fun b => b = g) w w' := by
  have HR := Lib.hid h
  have hlenT := sum_pos hpT
  have hlenK := sum_pos hpK
  have hsT := sum_nonneg hpT
  have hsK := sum_nonneg hpK
  obtain ⟨T1, hT1⟩ : ∃ L, delE k T0 = L := ⟨_, rfl⟩
  obtain ⟨K1, hK1⟩ : ∃ L, delE k K0 = L := ⟨_, rfl⟩
  obtain ⟨b1, hb1⟩ : ∃ b, (hasS k T0 K0).isSome = b := ⟨_, rfl⟩
  have hu1 := hu.del k
  have hp1 := hpT.del k
  have hp2 := hpK.del k
  have hd1 := (sum_del_has (k := k) hpT).2
  have hd2 := (sum_del_has (k := k) hpK).2
  unfold putE at hR
  rw [hT1, hK1] at hR hu1
  rw [hT1] at hp1 hd1
  rw [hK1] at hp2 hd2
  simp only [Prod.mk.injEq] at hR
  obtain ⟨hR1, hR2, hR3⟩ := hR
  have HL0 : Hid (T0.length ≤ 1073741824 ∧ K0.length ≤ 1073741824) := Lib.hid (by omega)
  have HT1 := Lib.hid hT1
  have HK1 := Lib.hid hK1
  have HB1 := Lib.hid hb1
  have HU1 := Lib.hid hu1
  have HP1 := Lib.hid hp1
  have HP2 := Lib.hid hp2
  have HL1 : Hid (sumE T1 + sumE K1 ≤ 1073741824) := Lib.hid (by omega)
  have HR1 := Lib.hid hR1
  have HR2 := Lib.hid hR2
  have HR3 := Lib.hid hR3
  have hlt1 := sum_pos hp1
  have hlk1 := sum_pos hp2
  have HN0 : Hid (T1.length + K1.length ≤ 1073741824) := Lib.hid (by omega)
  clear hlt1 hlk1
  have HAL : Hid (z ≤ al ∧ al ≤ 1073741824 ∧ 1 ≤ z) := Lib.hid (by omega)
  obtain ⟨aT, cT, aK, cK, h1, _⟩ := h
  have q4 := h1.cell 4
  have nz1 : ¬ (z < 1) := by omega
  have nz2 : ¬ (mo < z) := by omega
  clear hT1 hK1 hb1 hu1 hp1 hp2 hd1 hd2 hR1 hR2 hR3 hlenT hlenK hsT hsK hu hpT hpK hlim hal hz hm h1
  go_enter Try.func12, Try.ntmps12
  go_wp2_with fail
  refine (rdrop_to w0 w g al ke mo T0 K0 HR.out HL0.out k T1 K1 b1 HT1.out HK1.out HB1.out).mono ?_
  rintro e w1 ⟨rfl, hr1, hc1⟩
  have HRS := Lib.hid hr1
  have HC := Lib.hid hc1
  clear hr1 hc1 q4
  go_wp2
  go_loopg [8, 9, 10] (T1.length + K1.length) (fun gk u8 u9 u10 wx => ∃ (T K : List En) (D : List ByteArray), gk = T.length + K.length ∧ UK T K ∧ posE T ∧ posE K ∧ sumE T + sumE K ≤ 1073741824 ∧ RS w0 wx g al ke mo T K ∧ Chg (fun b => b = g) w wx ∧ (∃ a c, u8 = .slice a D.length c) ∧ OT w.heap.size wx u8 D ∧ D.length + gk = T1.length + K1.length ∧
      roomE al z (T1.length + K1.length) T1 K1 = ((roomE al z gk T K).1, (roomE al z gk T K).2.1, D ++ (roomE al z gk T K).2.2))
  case atStart => exact ⟨T1, K1, [], rfl, HU1.out, HP1.out, HP2.out, HL1.out, HRS.out, HC.out, ⟨_, _, rfl⟩, OT.nil _ _, by simp, rfl⟩
  case round =>
    obtain ⟨T, K, D, hgk, hu, hpT, hpK, hlm, hrs, hch, ⟨ua, uc, rfl⟩, hot, hdl, hroom⟩ := hrel
    have HRS := Lib.hid hrs
    have HC := Lib.hid hch
    have HO := Lib.hid hot
    have HU := Lib.hid hu
    have HPT := Lib.hid hpT
    have HPK := Lib.hid hpK
    have HLM0 := Lib.hid hlm
    have hsT := sum_nonneg hpT
    have hsK := sum_nonneg hpK
    have hlT := sum_pos hpT
    have hlK := sum_pos hpK
    obtain ⟨ST, hST⟩ : ∃ S, sumE T = S := ⟨_, rfl⟩
    obtain ⟨SK, hSK⟩ : ∃ S, sumE K = S := ⟨_, rfl⟩
    have HST := Lib.hid hST
    have HSK := Lib.hid hSK
    have HLM : Hid (sumE T ≤ 1073741824 ∧ sumE K ≤ 1073741824) := Lib.hid (by omega)
    have HLN : Hid (T.length ≤ 1073741824 ∧ K.length ≤ 1073741824) := Lib.hid (by omega)
    rw [hST, hSK] at hlm
    rw [hST] at hsT
    rw [hSK] at hsK
    obtain ⟨aT, cT, aK, cK, h1, h2, h3, _⟩ := hrs
    have HET := Lib.hid h2.er
    have HEK := Lib.hid h3.er
    have HBK := Lib.hid h1
    have q0 := h1.cell 0
    have q1 := h1.cell 1
    have q2 := h1.cell 2
    have wa1 : IntKind.i64.wrap (ST + SK) = ST + SK := IntWalk.i64_in _ (by omega)
    have wa2 : IntKind.i64.wrap (ST + SK + z) = ST + SK + z := IntWalk.i64_in _ (by have := HAL.out; omega)
    have wb1 : wrap64 (ST + SK) = ST + SK := IntWalk.wrap64_in _ (by omega)
    have wb2 : wrap64 (ST + SK + z) = ST + SK + z := IntWalk.wrap64_in _ (by have := HAL.out; omega)
    by_cases hc : al < ST + SK + z
    case neg =>
      have hno : roomE al z gk T K = (T, K, []) := room_no (by rw [hST, hSK]; omega) gk
      rw [hno] at hroom
      have HRM := Lib.hid hroom
      clear hroom hno h1 h2 h3 hST hSK hlT hlK hu hpT hpK hch hot hgk
      go_wp2_with fail
      refine wp_region_held_drew (S := (fun w' => ∃ nn, w' = wr.drewN nn)) (by kernel_rfl) ?_ (fun hS => ?_)
      · exact ⟨1, rfl⟩
      refine tkY 0 ?_ rfl hS ?_ ?_
      rotate_left
      · rintro wz ⟨nz, rfl⟩
        go_simp
        all_goals first | with_reducible rfl | omega
      try simp only [Act.put, pu]
      refine tkY 1 ?_ rfl hS ?_ ?_
      rotate_left
      · rintro wz ⟨nz, rfl⟩
        go_simp
        all_goals first | with_reducible rfl | omega
      try simp only [Act.put, pu]
      refine tkY 2 ?_ rfl hS ?_ ?_
      rotate_left
      · rintro wz ⟨nz, rfl⟩
        go_simp
        all_goals first | with_reducible rfl | omega
      try simp only [Act.put, pu]
      refine tkY 3 ?_ rfl hS ?_ ?_
      rotate_left
      · rintro wz ⟨nz, rfl⟩
        go_simp
        all_goals first | with_reducible rfl | omega
      try simp only [Act.put, pu]
      refine tkY 5 ?_ rfl hS ?_ ?_
      rotate_left
      · rintro wz ⟨nz, rfl⟩
        go_simp
        all_goals first | with_reducible rfl | omega
      try simp only [Act.put, pu]
      refine tkY 6 ?_ rfl hS ?_ ?_
      rotate_left
      · rintro wz ⟨nz, rfl⟩
        go_simp
        all_goals first | with_reducible rfl | omega
      try simp only [Act.put, pu]
      refine tkY 7 ?_ rfl hS ?_ ?_
      rotate_left
      · rintro wz ⟨nz, rfl⟩
        go_simp
        all_goals first | with_reducible rfl | omega
      try simp only [Act.put, pu]
      refine tkY 8 ?_ rfl hS ?_ ?_
      rotate_left
      · rintro wz ⟨nz, rfl⟩
        go_simp
        all_goals first | with_reducible rfl | omega
      try simp only [Act.put, pu]
      refine tkY 11 ?_ rfl hS ?_ ?_
      rotate_left
      · rintro wz ⟨nz, rfl⟩
        go_simp
        all_goals first | with_reducible rfl | omega
      try simp only [Act.put, pu]
      refine tkY 13 ?_ rfl hS ?_ ?_
      rotate_left
      · rintro wz ⟨nz, rfl⟩
        go_simp
        all_goals first | with_reducible rfl | omega
      try simp only [Act.put, pu]
      refine tkY 14 ?_ rfl hS ?_ ?_
      rotate_left
      · rintro wz ⟨nz, rfl⟩
        go_simp
        all_goals first | with_reducible rfl | omega
      try simp only [Act.put, pu]
      refine tkY 15 ?_ rfl hS ?_ ?_
      rotate_left
      · rintro wz ⟨nz, rfl⟩
        go_simp
        all_goals first | with_reducible rfl | omega
      try simp only [Act.put, pu]
      refine tkY 16 ?_ rfl hS ?_ ?_
      rotate_left
      · rintro wz ⟨nz, rfl⟩
        go_simp
        all_goals first | with_reducible rfl | omega
      try simp only [Act.put, pu]
      refine wpAnyH_ready (rs := [4]) (by kernel_rfl) (by simp) (AllReadyH.cons rfl (fun K' hK' => ?_) AllReadyH.nil)
      · go_simp
        refine (rsum_to _ T _ (HET.out.below (show Below wr.heap.size wr wr.drew from below_drewN _ _ 1)) HPT.out (by have := HLM.out; omega) ST HST.out).mono ?_
        rintro e waT ⟨rfl, naT, rfl⟩
        refine hK'.out _ _ ?_ (fun hSn => ?_)
        · first | exact ⟨_, rfl⟩ | exact ⟨_, World.drewN_drewN wr 1 _⟩ | exact ⟨_, World.drewN_drewN wr _ _⟩
        clear hK' K' hS
        have hS := hSn
        clear hSn
        try simp only [Act.put, pu]
        refine wpAnyH_ready (rs := [9]) (by kernel_rfl) (by simp) (AllReadyH.cons rfl (fun K' hK' => ?_) AllReadyH.nil)
        go_simp
        refine (rsum_to _ K _ (HEK.out.below (below_drewN _ _ _)) HPK.out (by have := HLM.out; omega) SK HSK.out).mono ?_
        rintro e waK ⟨rfl, naK, rfl⟩
        refine hK'.out _ _ ?_ (fun hSn => ?_)
        · first | exact ⟨_, rfl⟩ | exact ⟨_, World.drewN_drewN wr 1 _⟩ | exact ⟨_, World.drewN_drewN wr _ _⟩
        clear hK' K' hS
        have hS := hSn
        clear hSn
        try simp only [Act.put, pu]
        refine tkY 10 ?_ rfl hS ?_ ?_
        rotate_left
        · rintro wz ⟨nz, rfl⟩
          go_simp
          all_goals first | with_reducible rfl | omega
        try simp only [Act.put, pu]
        refine tkY 12 ?_ rfl hS ?_ ?_
        rotate_left
        · rintro wz ⟨nz, rfl⟩
          go_simp
          all_goals first | with_reducible rfl | omega
        try simp only [Act.put, pu]
        refine tkY 17 (.bool false) rfl hS ?_ ?_
        · rintro wz ⟨nz, rfl⟩
          go_simp
          all_goals first | with_reducible rfl | omega
        try simp only [Act.put, pu]
        refine wpAnyH_done (by kernel_rfl) ?_ _
        clear hS
        obtain ⟨W, hW⟩ : ∃ W, (wr.drewN (1 + naT)).drewN naK = W := ⟨_, rfl⟩
        have hbd : Below wr.heap.size wr W := by rw [← hW]; exact (below_drewN _ _ _).trans (below_drewN _ _ _)
        rw [hW]
        have HBD := Lib.hid hbd
        have hbk := HBK.out.below hbd
        have p0 := hbk.cell 0
        have p1 := hbk.cell 1
        clear hW hbd hbk q0 q1 q2
        obtain ⟨L9, hL9⟩ : ∃ L, (((k, z) : En) :: T) = L := ⟨_, rfl⟩
        have hG : G = D := by rw [← HR3.out, HRM.out, List.append_nil]
        have hT9 : T9 = L9 := by rw [← HR1.out, HRM.out, ← hL9]
        have hK9 : K9 = K := by rw [← HR2.out, HRM.out]
        subst hG hT9 hK9
        have HL9 := Lib.hid hL9
        clear hL9 HR1 HR2 HR3 HRM
        go_wp2_with fail
        refine (rahead_to _ T (k, z) _ (HET.out.below HBD.out) HLN.out.1 _ HL9.out).mono ?_
        rintro e w2 ⟨v2, c2, rfl, o2, b2⟩
        have hr2 := ((HRS.out.below HBD.out).below b2).setT (o2.mono (Nat.le_trans HRS.out.bel.size HBD.out.size)) (o2.off (g := g) (Nat.lt_of_lt_of_le HBK.out.lt HBD.out.size))
        have hk2 := (HBK.out.below HBD.out).below b2
        have f0 := hk2.frozen 0
        have s0 := hk2.cell 0
        have hc2 : Chg (fun b => b = g) wr (w2.setCell ⟨g, 0, none⟩ (.slice v2 T9.length c2)) := ((Chg.of_below (S := fun b => b = g) HBD.out).trans (Chg.of_below b2)).setCell (p := ⟨g, 0, none⟩) rfl _
        have HR9 := Lib.hid hr2
        have HC9 := Lib.hid hc2
        have HO9 := Lib.hid (HO.out.chg hc2 (HO.out.ng HBK.out))
        clear hr2 hk2 hc2 o2 b2 p0 p1
        go_wp2
        go_ret2
        exact ⟨_, _, rfl, HO9.out, HR9.out, HC.out.trans HC9.out⟩
    case pos =>
      cases hxT : T.getLast? with
      | some x =>
        have hx := hxT
        clear hxT
        obtain ⟨m, hm, hmx, hmd⟩ := last_at hx
        have wm : IntKind.i64.wrap ((T.length : Int) - 1) = (m : Int) := by rw [show (T.length : Int) - 1 = (m : Int) by omega]; exact IntWalk.i64_in _ (by have := HLN.out; omega)
        have wm' : wrap64 ((T.length : Int) - 1) = (m : Int) := by rw [show (T.length : Int) - 1 = (m : Int) by omega]; exact IntWalk.wrap64_in _ (by have := HLN.out; omega)
        have l0 : (0 : Int) ≤ (m : Int) := by omega
        have l1 : (m : Int) < (T.length : Int) := by omega
        have l2 : ¬ ((T.length : Int) = 0) := by omega
        have l3 : ((T.length : Int) == 0) = false := beq_eq_false_iff_ne.2 l2
        obtain ⟨b, off, cap, he, hcp, hxx⟩ := HET.out.inv (by omega)
        injection he with e1 _ e3
        subst e1 e3
        have x0 := (hxx m x hmx).1
        obtain ⟨xk, xz⟩ := x
        simp only at x0
        obtain ⟨d1, d2, hu2⟩ := hu.last hx
        have hrm := room_T (al := al) (z := z) (K := K) (m + K.length) (by rw [hST, hSK]; exact hc) hx
        have hgk2 : gk = m + K.length + 1 := by omega
        have hs2 : sumE T.dropLast + sumE K ≤ 1073741824 := by have := sum_dl hpT; have := HLM0.out; omega
        obtain ⟨gk2, hg2⟩ : ∃ q, m + K.length = q := ⟨_, rfl⟩
        rw [hg2] at hrm hgk2
        subst hgk2
        rw [hrm] at hroom
        have HRM := Lib.hid hroom
        have HD1 := Lib.hid d1
        have HD2 := Lib.hid d2
        have HU2 := Lib.hid hu2
        have HS2 := Lib.hid hs2
        have HLL : Hid (gk2 = T.dropLast.length + K.length) := Lib.hid (by omega)
        have HDL := Lib.hid hdl
        obtain ⟨bq, hbq⟩ : ∃ q, (hasS xk T K).isSome = q := ⟨_, rfl⟩
        have HBQ := Lib.hid hbq
        clear hroom d1 d2 hu2 hs2 hrm hmx hmd hm hxx hcp hx hg2 hbq hdl hgk h1 h2 h3 hST hSK hlT hlK hu hpT hpK hch hot
        go_wp2_with fail
        refine wp_region_held_drew (S := (fun w' => ∃ nn, w' = wr.drewN nn)) (by kernel_rfl) ?_ (fun hS => ?_)
        · exact ⟨1, rfl⟩
        refine tkY 0 ?_ rfl hS ?_ ?_
        rotate_left
        · rintro wz ⟨nz, rfl⟩
          go_simp
          all_goals first | with_reducible rfl | omega
        try simp only [Act.put, pu]
        refine tkY 1 ?_ rfl hS ?_ ?_
        rotate_left
        · rintro wz ⟨nz, rfl⟩
          go_simp
          all_goals first | with_reducible rfl | omega
        try simp only [Act.put, pu]
        refine tkY 2 ?_ rfl hS ?_ ?_
        rotate_left
        · rintro wz ⟨nz, rfl⟩
          go_simp
          all_goals first | with_reducible rfl | omega
        try simp only [Act.put, pu]
        refine tkY 3 ?_ rfl hS ?_ ?_
        rotate_left
        · rintro wz ⟨nz, rfl⟩
          go_simp
          all_goals first | with_reducible rfl | omega
        try simp only [Act.put, pu]
        refine tkY 5 ?_ rfl hS ?_ ?_
        rotate_left
        · rintro wz ⟨nz, rfl⟩
          go_simp
          all_goals first | with_reducible rfl | omega
        try simp only [Act.put, pu]
        refine tkY 6 ?_ rfl hS ?_ ?_
        rotate_left
        · rintro wz ⟨nz, rfl⟩
          go_simp
          all_goals first | with_reducible rfl | omega
        try simp only [Act.put, pu]
        refine tkY 7 ?_ rfl hS ?_ ?_
        rotate_left
        · rintro wz ⟨nz, rfl⟩
          go_simp
          all_goals first | with_reducible rfl | omega
        try simp only [Act.put, pu]
        refine tkY 8 ?_ rfl hS ?_ ?_
        rotate_left
        · rintro wz ⟨nz, rfl⟩
          go_simp
          all_goals first | with_reducible rfl | omega
        try simp only [Act.put, pu]
        refine tkY 11 ?_ rfl hS ?_ ?_
        rotate_left
        · rintro wz ⟨nz, rfl⟩
          go_simp
          all_goals first | with_reducible rfl | omega
        try simp only [Act.put, pu]
        refine tkY 13 ?_ rfl hS ?_ ?_
        rotate_left
        · rintro wz ⟨nz, rfl⟩
          go_simp
          all_goals first | with_reducible rfl | omega
        try simp only [Act.put, pu]
        refine tkY 14 ?_ rfl hS ?_ ?_
        rotate_left
        · rintro wz ⟨nz, rfl⟩
          go_simp
          all_goals first | with_reducible rfl | omega
        try simp only [Act.put, pu]
        refine tkY 15 ?_ rfl hS ?_ ?_
        rotate_left
        · rintro wz ⟨nz, rfl⟩
          go_simp
          all_goals first | with_reducible rfl | omega
        try simp only [Act.put, pu]
        refine tkY 16 ?_ rfl hS ?_ ?_
        rotate_left
        · rintro wz ⟨nz, rfl⟩
          go_simp
          all_goals first | with_reducible rfl | omega
        try simp only [Act.put, pu]
        refine wpAnyH_ready (rs := [4]) (by kernel_rfl) (by simp) (AllReadyH.cons rfl (fun K' hK' => ?_) AllReadyH.nil)
        · go_simp
          refine (rsum_to _ T _ (HET.out.below (show Below wr.heap.size wr wr.drew from below_drewN _ _ 1)) HPT.out (by have := HLM.out; omega) ST HST.out).mono ?_
          rintro e waT ⟨rfl, naT, rfl⟩
          refine hK'.out _ _ ?_ (fun hSn => ?_)
          · first | exact ⟨_, rfl⟩ | exact ⟨_, World.drewN_drewN wr 1 _⟩ | exact ⟨_, World.drewN_drewN wr _ _⟩
          clear hK' K' hS
          have hS := hSn
          clear hSn
          try simp only [Act.put, pu]
          refine wpAnyH_ready (rs := [9]) (by kernel_rfl) (by simp) (AllReadyH.cons rfl (fun K' hK' => ?_) AllReadyH.nil)
          go_simp
          refine (rsum_to _ K _ (HEK.out.below (below_drewN _ _ _)) HPK.out (by have := HLM.out; omega) SK HSK.out).mono ?_
          rintro e waK ⟨rfl, naK, rfl⟩
          refine hK'.out _ _ ?_ (fun hSn => ?_)
          · first | exact ⟨_, rfl⟩ | exact ⟨_, World.drewN_drewN wr 1 _⟩ | exact ⟨_, World.drewN_drewN wr _ _⟩
          clear hK' K' hS
          have hS := hSn
          clear hSn
          try simp only [Act.put, pu]
          refine tkY 10 ?_ rfl hS ?_ ?_
          rotate_left
          · rintro wz ⟨nz, rfl⟩
            go_simp
            all_goals first | with_reducible rfl | omega
          try simp only [Act.put, pu]
          refine tkY 12 ?_ rfl hS ?_ ?_
          rotate_left
          · rintro wz ⟨nz, rfl⟩
            go_simp
            all_goals first | with_reducible rfl | omega
          try simp only [Act.put, pu]
          refine tkY 17 (.bool true) rfl hS ?_ ?_
          · rintro wz ⟨nz, rfl⟩
            go_simp
            all_goals first | with_reducible rfl | omega
          try simp only [Act.put, pu]
          refine wpAnyH_done (by kernel_rfl) ?_ _
          clear hS
          obtain ⟨W, hW⟩ : ∃ W, (wr.drewN (1 + naT)).drewN naK = W := ⟨_, rfl⟩
          have hbd : Below wr.heap.size wr W := by rw [← hW]; exact (below_drewN _ _ _).trans (below_drewN _ _ _)
          rw [hW]
          have HBD := Lib.hid hbd
          have hbk := HBK.out.below hbd
          have p0 := hbk.cell 0
          have p1 := hbk.cell 1
          clear hW hbd hbk q0 q1 q2
          have x0W := (HBD.out.cell (World.block_lt_of_cell? _ _ x0)).trans x0
          clear x0
          go_wp2_with fail
          refine (rdrop_to w0 W g al ke mo T K (HRS.out.below HBD.out) HLN.out xk T.dropLast K bq HD1.out HD2.out HBQ.out).mono ?_
          rintro e w2 ⟨rfl, hr2, hc2⟩
          have hcw : Chg (fun b => b = g) wr w2 := (Chg.of_below HBD.out).trans hc2
          have HO2 := Lib.hid (HO.out.chg hcw (HO.out.ng HBK.out))
          have HR2' := Lib.hid hr2
          have HC2 := Lib.hid (HC.out.trans hcw)
          have hbx : Below w2.heap.size w2 (w2.alloc (.cells #[.string xk] 9)) := (Below.refl _ _).alloc (Nat.le_refl _) _
          have HBX := Lib.hid hbx
          clear hr2 hc2 hcw hbx p0 p1 x0W
          go_wp2_with (at_builtin; refine wpList_app_text w.heap.size (.slice ua D.length uc) D xk w2.heap.size rfl _ _ rfl rfl (HO2.out.below HBX.out) rfl (Bk.new w2 _ _) (by have := HDL.out; have := HN0.out; omega) (by have := HC2.out.size; simp; omega) ?_; intro g9 cap9 w9 o9 gr9)
          have hty := (HO2.out.below HBX.out).ty
          have hr9 : RS w0 w9 g al ke mo T.dropLast K := (HR2'.out.below HBX.out).chg ((Chg.refl (fun b => (Value.slice ua D.length uc).ownBlock = some b) _).grown gr9 fun q hq _ => hq) fun q hq => ⟨Nat.le_trans HR.out.bel.size (hty q hq).1, (hty q hq).2⟩
          have hc9 : Chg (fun b => b = g) w w9 := (HC2.out.alloc _).grown gr9 fun q hq hlt => by have := (hty q hq).1; omega
          have HR9 := Lib.hid hr9
          have HC9 := Lib.hid hc9
          have HO9 := Lib.hid o9
          clear hty hr9 hc9 o9 gr9
          go_wp2
          go_roundg gk2
          case measure => exact Nat.lt_succ_self _
          case rel =>
            refine ⟨T.dropLast, K, D ++ [xk], HLL.out, HU2.out, HPT.out.dl, HPK.out, HS2.out, HR9.out, HC9.out, ⟨_, _, by rw [List.length_append]; rfl⟩, by have := HO9.out; simpa using this, by have := HDL.out; rw [List.length_append]; simp; omega, ?_⟩
            rw [HRM.out]
            simp
      | none =>
        have hT0 := List.getLast?_eq_none_iff.1 hxT
        subst hT0
        clear hxT
        cases hxK : K.getLast? with
        | none =>
          exfalso
          have hK0 := List.getLast?_eq_none_iff.1 hxK
          subst hK0
          have e1 : ST = 0 := hST.symm
          have e2 : SK = 0 := hSK.symm
          have := HAL.out
          omega
        | some x =>
          have hx := hxK
          clear hxK
          obtain ⟨m, hm, hmx, hmd⟩ := last_at hx
          have wm : IntKind.i64.wrap ((K.length : Int) - 1) = (m : Int) := by rw [show (K.length : Int) - 1 = (m : Int) by omega]; exact IntWalk.i64_in _ (by have := HLN.out; omega)
          have wm' : wrap64 ((K.length : Int) - 1) = (m : Int) := by rw [show (K.length : Int) - 1 = (m : Int) by omega]; exact IntWalk.wrap64_in _ (by have := HLN.out; omega)
          have l0 : (0 : Int) ≤ (m : Int) := by omega
          have l1 : (m : Int) < (K.length : Int) := by omega
          have l2 : ¬ ((K.length : Int) = 0) := by omega
          have l3 : ((K.length : Int) == 0) = false := beq_eq_false_iff_ne.2 l2
          obtain ⟨b, off, cap, he, hcp, hxx⟩ := HEK.out.inv (by omega)
          injection he with e1 _ e3
          subst e1 e3
          have x0 := (hxx m x hmx).1
          obtain ⟨xk, xz⟩ := x
          simp only at x0
          obtain ⟨d2, d1, hu2⟩ := hu.lastK hx
          have hrm := room_K (al := al) (z := z) m (by rw [hST, hSK]; exact hc) hx
          have hgk2 : gk = m + 1 := by rw [hgk]; simp; omega
          have hs2 : sumE ([] : List En) + sumE K.dropLast ≤ 1073741824 := by have := sum_dl hpK; have := HLM0.out; omega
          obtain ⟨gk2, hg2⟩ : ∃ q, m = q := ⟨_, rfl⟩
          rw [hg2] at hrm hgk2
          subst hgk2
          rw [hrm] at hroom
          have HRM := Lib.hid hroom
          have HD1 := Lib.hid d1
          have HD2 := Lib.hid d2
          have HU2 := Lib.hid hu2
          have HS2 := Lib.hid hs2
          have HLL : Hid (gk2 = ([] : List En).length + K.dropLast.length) := Lib.hid (by simp; omega)
          have HDL := Lib.hid hdl
          obtain ⟨bq, hbq⟩ : ∃ q, (hasS xk ([] : List En) K).isSome = q := ⟨_, rfl⟩
          have HBQ := Lib.hid hbq
          clear hroom d1 d2 hu2 hs2 hrm hmx hmd hm hxx hcp hx hg2 hbq hdl hgk h1 h2 h3 hST hSK hlT hlK hu hpT hpK hch hot
          go_wp2_with fail
          refine wp_region_held_drew (S := (fun w' => ∃ nn, w' = wr.drewN nn)) (by kernel_rfl) ?_ (fun hS => ?_)
          · exact ⟨1, rfl⟩
          refine tkY 0 ?_ rfl hS ?_ ?_
          rotate_left
          · rintro wz ⟨nz, rfl⟩
            go_simp
            all_goals first | with_reducible rfl | omega
          try simp only [Act.put, pu]
          refine tkY 1 ?_ rfl hS ?_ ?_
          rotate_left
          · rintro wz ⟨nz, rfl⟩
            go_simp
            all_goals first | with_reducible rfl | omega
          try simp only [Act.put, pu]
          refine tkY 2 ?_ rfl hS ?_ ?_
          rotate_left
          · rintro wz ⟨nz, rfl⟩
            go_simp
            all_goals first | with_reducible rfl | omega
          try simp only [Act.put, pu]
          refine tkY 3 ?_ rfl hS ?_ ?_
          rotate_left
          · rintro wz ⟨nz, rfl⟩
            go_simp
            all_goals first | with_reducible rfl | omega
          try simp only [Act.put, pu]
          refine tkY 5 ?_ rfl hS ?_ ?_
          rotate_left
          · rintro wz ⟨nz, rfl⟩
            go_simp
            all_goals first | with_reducible rfl | omega
          try simp only [Act.put, pu]
          refine tkY 6 ?_ rfl hS ?_ ?_
          rotate_left
          · rintro wz ⟨nz, rfl⟩
            go_simp
            all_goals first | with_reducible rfl | omega
          try simp only [Act.put, pu]
          refine tkY 7 ?_ rfl hS ?_ ?_
          rotate_left
          · rintro wz ⟨nz, rfl⟩
            go_simp
            all_goals first | with_reducible rfl | omega
          try simp only [Act.put, pu]
          refine tkY 8 ?_ rfl hS ?_ ?_
          rotate_left
          · rintro wz ⟨nz, rfl⟩
            go_simp
            all_goals first | with_reducible rfl | omega
          try simp only [Act.put, pu]
          refine tkY 11 ?_ rfl hS ?_ ?_
          rotate_left
          · rintro wz ⟨nz, rfl⟩
            go_simp
            all_goals first | with_reducible rfl | omega
          try simp only [Act.put, pu]
          refine tkY 13 ?_ rfl hS ?_ ?_
          rotate_left
          · rintro wz ⟨nz, rfl⟩
            go_simp
            all_goals first | with_reducible rfl | omega
          try simp only [Act.put, pu]
          refine tkY 14 ?_ rfl hS ?_ ?_
          rotate_left
          · rintro wz ⟨nz, rfl⟩
            go_simp
            all_goals first | with_reducible rfl | omega
          try simp only [Act.put, pu]
          refine tkY 15 ?_ rfl hS ?_ ?_
          rotate_left
          · rintro wz ⟨nz, rfl⟩
            go_simp
            all_goals first | with_reducible rfl | omega
          try simp only [Act.put, pu]
          refine tkY 16 ?_ rfl hS ?_ ?_
          rotate_left
          · rintro wz ⟨nz, rfl⟩
            go_simp
            all_goals first | with_reducible rfl | omega
          try simp only [Act.put, pu]
          refine wpAnyH_ready (rs := [4]) (by kernel_rfl) (by simp) (AllReadyH.cons rfl (fun K' hK' => ?_) AllReadyH.nil)
          · go_simp
            refine (rsum_to _ ([] : List En) _ (HET.out.below (show Below wr.heap.size wr wr.drew from below_drewN _ _ 1)) HPT.out (by have := HLM.out; omega) ST HST.out).mono ?_
            rintro e waT ⟨rfl, naT, rfl⟩
            refine hK'.out _ _ ?_ (fun hSn => ?_)
            · first | exact ⟨_, rfl⟩ | exact ⟨_, World.drewN_drewN wr 1 _⟩ | exact ⟨_, World.drewN_drewN wr _ _⟩
            clear hK' K' hS
            have hS := hSn
            clear hSn
            try simp only [Act.put, pu]
            refine wpAnyH_ready (rs := [9]) (by kernel_rfl) (by simp) (AllReadyH.cons rfl (fun K' hK' => ?_) AllReadyH.nil)
            go_simp
            refine (rsum_to _ K _ (HEK.out.below (below_drewN _ _ _)) HPK.out (by have := HLM.out; omega) SK HSK.out).mono ?_
            rintro e waK ⟨rfl, naK, rfl⟩
            refine hK'.out _ _ ?_ (fun hSn => ?_)
            · first | exact ⟨_, rfl⟩ | exact ⟨_, World.drewN_drewN wr 1 _⟩ | exact ⟨_, World.drewN_drewN wr _ _⟩
            clear hK' K' hS
            have hS := hSn
            clear hSn
            try simp only [Act.put, pu]
            refine tkY 10 ?_ rfl hS ?_ ?_
            rotate_left
            · rintro wz ⟨nz, rfl⟩
              go_simp
              all_goals first | with_reducible rfl | omega
            try simp only [Act.put, pu]
            refine tkY 12 ?_ rfl hS ?_ ?_
            rotate_left
            · rintro wz ⟨nz, rfl⟩
              go_simp
              all_goals first | with_reducible rfl | omega
            try simp only [Act.put, pu]
            refine tkY 17 (.bool true) rfl hS ?_ ?_
            · rintro wz ⟨nz, rfl⟩
              go_simp
              all_goals first | with_reducible rfl | omega
            try simp only [Act.put, pu]
            refine wpAnyH_done (by kernel_rfl) ?_ _
            clear hS
            obtain ⟨W, hW⟩ : ∃ W, (wr.drewN (1 + naT)).drewN naK = W := ⟨_, rfl⟩
            have hbd : Below wr.heap.size wr W := by rw [← hW]; exact (below_drewN _ _ _).trans (below_drewN _ _ _)
            rw [hW]
            have HBD := Lib.hid hbd
            have hbk := HBK.out.below hbd
            have p0 := hbk.cell 0
            have p1 := hbk.cell 1
            clear hW hbd hbk q0 q1 q2
            have x0W := (HBD.out.cell (World.block_lt_of_cell? _ _ x0)).trans x0
            clear x0
            go_wp2_with fail
            refine (rdrop_to w0 W g al ke mo ([] : List En) K (HRS.out.below HBD.out) HLN.out xk ([] : List En) K.dropLast bq HD1.out HD2.out HBQ.out).mono ?_
            rintro e w2 ⟨rfl, hr2, hc2⟩
            have hcw : Chg (fun b => b = g) wr w2 := (Chg.of_below HBD.out).trans hc2
            have HO2 := Lib.hid (HO.out.chg hcw (HO.out.ng HBK.out))
            have HR2' := Lib.hid hr2
            have HC2 := Lib.hid (HC.out.trans hcw)
            have hbx : Below w2.heap.size w2 (w2.alloc (.cells #[.string xk] 9)) := (Below.refl _ _).alloc (Nat.le_refl _) _
            have HBX := Lib.hid hbx
            clear hr2 hc2 hcw hbx p0 p1 x0W
            go_wp2_with (at_builtin; refine wpList_app_text w.heap.size (.slice ua D.length uc) D xk w2.heap.size rfl _ _ rfl rfl (HO2.out.below HBX.out) rfl (Bk.new w2 _ _) (by have := HDL.out; have := HN0.out; omega) (by have := HC2.out.size; simp; omega) ?_; intro g9 cap9 w9 o9 gr9)
            have hty := (HO2.out.below HBX.out).ty
            have hr9 : RS w0 w9 g al ke mo ([] : List En) K.dropLast := (HR2'.out.below HBX.out).chg ((Chg.refl (fun b => (Value.slice ua D.length uc).ownBlock = some b) _).grown gr9 fun q hq _ => hq) fun q hq => ⟨Nat.le_trans HR.out.bel.size (hty q hq).1, (hty q hq).2⟩
            have hc9 : Chg (fun b => b = g) w w9 := (HC2.out.alloc _).grown gr9 fun q hq hlt => by have := (hty q hq).1; omega
            have HR9 := Lib.hid hr9
            have HC9 := Lib.hid hc9
            have HO9 := Lib.hid o9
            clear hty hr9 hc9 o9 gr9
            go_wp2
            go_roundg gk2
            case measure => exact Nat.lt_succ_self _
            case rel =>
              refine ⟨([] : List En), K.dropLast, D ++ [xk], HLL.out, HU2.out, HPT.out, HPK.out.dl, HS2.out, HR9.out, HC9.out, ⟨_, _, by rw [List.length_append]; rfl⟩, by have := HO9.out; simpa using this, by have := HDL.out; rw [List.length_append]; simp; omega, ?_⟩
              rw [HRM.out]
              simp
end Go.Proofs.Ytfilmbeoggmglaa.SL
