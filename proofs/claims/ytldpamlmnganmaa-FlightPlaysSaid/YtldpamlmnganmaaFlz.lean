/- FlightPlays' walk. No condition. -/
import Derived.Test.YtldpamlmnganmaaFpj
namespace Go.Proofs.Ytldpamlmnganmaa.FL
open Go.ChangeShapes Go.WideShapes Go.ChangeAt Go.RowKit Go.Maps Go.ChangeMaps
open Go.Proofs.Ytldpamlmnganmaa.SL
set_option maxRecDepth 100000
set_option linter.unusedVariables false
set_option linter.unusedSimpArgs false

set_option maxHeartbeats 64000000 in
theorem plays_any (v : Value) (l : List Opc) (w : World) (hv : OpP w v l) :
    Calls Try.prog 3 #[v] w fun e w' => e = .returned (.bool true) ∧ Below w.heap.size w w' := by
  have HV := Lib.hid hv
  obtain ⟨va, vc, rfl⟩ := hv.form
  clear hv
  go_enter Try.func3, Try.ntmps3
  go_wp2_with fail
  refine (lb_new w).mono ?_
  rintro e w1 ⟨a, rfl, hlb, hb⟩
  obtain ⟨W2, hW2⟩ : ∃ W, w1.alloc (.cells #[.slice none 0 0] 28) = W := ⟨_, rfl⟩
  obtain ⟨r, hr⟩ : ∃ b, w1.heap.size = b := ⟨_, rfl⟩
  have b2 : Below w1.heap.size w1 W2 := by rw [← hW2]; exact (Below.refl _ _).alloc (Nat.le_refl _) _
  have hrb : RB w.heap.size W2 r [] := by
    have := RB.zero w1
    rw [hW2, hr] at this
    exact this.mono (by rw [← hr]; exact hb.size)
  have HL := Lib.hid (hlb.below b2)
  have HR := Lib.hid hrb
  have HB := Lib.hid (hb.trans (b2.mono hb.size))
  clear hlb hb b2 hrb
  go_wp2_with fail
  try rw [hW2]
  try rw [hr]
  clear hW2 hr
  go_wp2
  go_loopg [3, 5] (min l.length 60) (fun gk u3 u5 wx => ∃ (i a N : Nat) (S : List Fl), u3 = ptr a ∧ u5 = .int .i64 (i : Int) ∧ i + gk = min l.length 60 ∧ N ≤ i ∧ tot S ≤ i ∧ LB w.heap.size wx a N S ∧ RB w.heap.size wx r S ∧ Below w.heap.size w wx)
  case atStart => exact ⟨0, a, 0, [], rfl, rfl, by omega, Nat.le_refl _, Nat.le_refl _, HL.out, HR.out, HB.out⟩
  case round =>
    obtain ⟨i, a, N, S, rfl, rfl, hi, hN, hT, hlb, hrb, hb⟩ := hrel
    clear HL HR HB
    have HL := Lib.hid hlb
    have HR := Lib.hid hrb
    have HB := Lib.hid hb
    cases gk with
    | zero =>
      by_cases hlt : i < l.length
      · have l1 : (i : Int) < (l.length : Int) := by omega
        have l2 : ¬ ((i : Int) < 60) := by omega
        clear hi hN hT hlb hrb hb hlt
        go_wp2_with fail
        refine (known_any _).mono ?_
        rintro e wz ⟨rfl, hb⟩
        have HB := Lib.hid (HB.out.trans (hb.mono HB.out.size))
        clear hb
        go_wp2
        go_ret
        exact ⟨rfl, HB.out⟩
      · have l1 : ¬ ((i : Int) < (l.length : Int)) := by omega
        clear hi hN hT hlb hrb hb hlt
        go_wp2_with fail
        refine (known_any _).mono ?_
        rintro e wz ⟨rfl, hb⟩
        have HB := Lib.hid (HB.out.trans (hb.mono HB.out.size))
        clear hb
        go_wp2
        go_ret
        exact ⟨rfl, HB.out⟩
    | succ gk1 =>
      have hlt : i < l.length := by omega
      have l0 : (0 : Int) ≤ (i : Int) := by omega
      have l1 : (i : Int) < (l.length : Int) := by omega
      have l2 : (i : Int) < 60 := by omega
      obtain ⟨i1, hi1⟩ : ∃ i1, i + 1 = i1 := ⟨_, rfl⟩
      have wk : IntKind.i64.wrap ((i : Int) + 1) = (i1 : Int) := by rw [show (i : Int) + 1 = (i1 : Int) by omega]; exact IntWalk.i64_in _ (by omega)
      have HI1 : Hid (i1 + gk1 = min l.length 60 ∧ i + 1 = i1 ∧ i1 ≤ 60 ∧ N ≤ i ∧ tot S ≤ i) := Lib.hid (by omega)
      have HSM := Lib.hid (hlb.sm (by omega))
      obtain ⟨bb, off, cap, he, hcp, hx⟩ := (HV.out.below hb).inv (by omega)
      injection he with e1 _ e3
      subst e1 e3
      obtain ⟨op, hop⟩ : ∃ o, l[i] = o := ⟨_, rfl⟩
      have hyi : l[i]? = some op := by rw [List.getElem?_eq_getElem hlt, hop]
      obtain ⟨hob, hxx⟩ := hx i op hyi
      obtain ⟨kd, k, c⟩ := op
      obtain ⟨hb1, hbk, hb3⟩ := hob
      have HSH := Lib.hid (fun W => short_any k hbk W)
      have hfit := fun h => hbk.fit h
      have HC9 : Hid (I9 c) := Lib.hid hb3
      obtain ⟨o1, o2, o3, o4⟩ := k
      have x0 := hxx 0 _ rfl
      have x1 := hxx 1 _ rfl
      have x2 := hxx 2 _ rfl
      have x3 := hxx 3 _ rfl
      have x4 := hxx 4 _ rfl
      have x5 := hxx 5 _ rfl
      rw [Nat.add_zero] at x0
      obtain ⟨W7, hW7⟩ : ∃ W, wr.alloc (.cells #[.int .i64 kd, .string o1, .string o2, .int .i64 o3, .string o4, .int .i64 c] 32) = W := ⟨_, rfl⟩
      obtain ⟨ob, hob⟩ : ∃ b, wr.heap.size = b := ⟨_, rfl⟩
      have hb7 : Below wr.heap.size wr W7 := by rw [← hW7]; exact (Below.refl _ _).alloc (Nat.le_refl _) _
      have HOP := Lib.hid (show Bk W7 ob 32 #[.int .i64 kd, .string o1, .string o2, .int .i64 o3, .string o4, .int .i64 c] by rw [← hW7, ← hob]; exact Bk.new _ _ _)
      have HL := Lib.hid (HL.out.below hb7)
      have HR := Lib.hid (HR.out.below hb7)
      have HB := Lib.hid (HB.out.trans (hb7.mono HB.out.size))
      clear hi hN hT hlb hrb hb hlt hi1 hcp hx hop hyi hxx hb1 hbk hb3 hb7
      cases hsk : shK (o1, o2, o3, o4) with
      | false =>
        rw [hsk] at HSH
        clear hsk hfit
        have y0 : W7.cell? ⟨ob, 0, none⟩ = some (.int .i64 kd) := HOP.out.cell 0
        have y1 : W7.cell? ⟨ob, 1, none⟩ = some (.string o1) := HOP.out.cell 1
        have y2 : W7.cell? ⟨ob, 2, none⟩ = some (.string o2) := HOP.out.cell 2
        have y3 : W7.cell? ⟨ob, 3, none⟩ = some (.int .i64 o3) := HOP.out.cell 3
        have y4 : W7.cell? ⟨ob, 4, none⟩ = some (.string o4) := HOP.out.cell 4
        have y5 : W7.cell? ⟨ob, 5, none⟩ = some (.int .i64 c) := HOP.out.cell 5
        go_wp2_with fail
        try rw [hW7]
        try rw [hob]
        refine (HSH.out _).mono ?_
        rintro e w3 ⟨rfl, hb⟩
        have HOP := Lib.hid ((Kf.below hb).bk (show Bk _ ob 32 _ from HOP.out))
        have HL := Lib.hid (HL.out.below hb)
        have HR := Lib.hid (HR.out.below hb)
        have HB := Lib.hid (HB.out.trans (hb.mono HB.out.size))
        clear hb hW7 hob HSH
        clear x0 x1 x2 x3 x4 x5
        clear y0 y1 y2 y3 y4 y5
        go_wp2
        go_roundg gk1
        case measure => exact Nat.lt_succ_self _
        case rel => exact ⟨i1, a, N, S, rfl, rfl, HI1.out.1, by have := HI1.out; omega, by have := HI1.out; omega, HL.out, HR.out, HB.out⟩
      | true =>
        rw [hsk] at HSH
        have HFI := Lib.hid (hfit hsk)
        clear hsk hfit
        by_cases k0 : kd = 0
        · subst k0
          as_aux_lemma =>
            have y0 : W7.cell? ⟨ob, 0, none⟩ = some (.int .i64 0) := HOP.out.cell 0
            have y1 : W7.cell? ⟨ob, 1, none⟩ = some (.string o1) := HOP.out.cell 1
            have y2 : W7.cell? ⟨ob, 2, none⟩ = some (.string o2) := HOP.out.cell 2
            have y3 : W7.cell? ⟨ob, 3, none⟩ = some (.int .i64 o3) := HOP.out.cell 3
            have y4 : W7.cell? ⟨ob, 4, none⟩ = some (.string o4) := HOP.out.cell 4
            have y5 : W7.cell? ⟨ob, 5, none⟩ = some (.int .i64 c) := HOP.out.cell 5
            go_wp2_with fail
            try rw [hW7]
            try rw [hob]
            refine (HSH.out _).mono ?_
            rintro e w3 ⟨rfl, hb⟩
            have HOP := Lib.hid ((Kf.below hb).bk (show Bk _ ob 32 _ from HOP.out))
            have HL := Lib.hid (HL.out.below hb)
            have HR := Lib.hid (HR.out.below hb)
            have HB := Lib.hid (HB.out.trans (hb.mono HB.out.size))
            clear hb hW7 hob HSH
            clear x0 x1 x2 x3 x4 x5
            clear y0 y1 y2 y3 y4 y5
            obtain ⟨S1, xx, er, has⟩ : ∃ x y z, askS S (o1, o2, o3, o4) c = (x, y, z) := ⟨_, _, _, rfl⟩
            have HAS := Lib.hid has
            have htk := tot_ask HSM.out.wf.keys (o1, o2, o3, o4) c
            rw [has] at htk
            have HTK : Hid (tot S1 ≤ tot S + 1) := Lib.hid htk
            clear has htk
            have HC := Lib.hid (lb_ask HL.out (by have := HI1.out; omega) (o1, o2, o3, o4) HFI.out c HC9.out)
            rw [HAS.out] at HC
            have y0 : w3.cell? ⟨ob, 0, none⟩ = some (.int .i64 0) := HOP.out.cell 0
            have y1 : w3.cell? ⟨ob, 1, none⟩ = some (.string o1) := HOP.out.cell 1
            have y2 : w3.cell? ⟨ob, 2, none⟩ = some (.string o2) := HOP.out.cell 2
            have y3 : w3.cell? ⟨ob, 3, none⟩ = some (.int .i64 o3) := HOP.out.cell 3
            have y4 : w3.cell? ⟨ob, 4, none⟩ = some (.string o4) := HOP.out.cell 4
            have y5 : w3.cell? ⟨ob, 5, none⟩ = some (.int .i64 c) := HOP.out.cell 5
            go_wp2_with fail
            refine HC.out.mono ?_
            clear HC
            clear y0 y1 y2 y3 y4 y5
            rintro e v1 ⟨rfl, hs⟩
            have HOP := Lib.hid (hs.kf.bk (show Bk _ ob 32 _ from HOP.out))
            have HL := Lib.hid hs.lb
            have HR := Lib.hid (HR.out.kf hs.kf)
            have HB := Lib.hid (HB.out.trans hs.bel)
            clear hs
            have HSM9 := Lib.hid (HL.out.sm (by have := HI1.out; have := HTK.out; omega))
            have y0 : v1.cell? ⟨ob, 0, none⟩ = some (.int .i64 0) := HOP.out.cell 0
            have y1 : v1.cell? ⟨ob, 1, none⟩ = some (.string o1) := HOP.out.cell 1
            have y2 : v1.cell? ⟨ob, 2, none⟩ = some (.string o2) := HOP.out.cell 2
            have y3 : v1.cell? ⟨ob, 3, none⟩ = some (.int .i64 o3) := HOP.out.cell 3
            have y4 : v1.cell? ⟨ob, 4, none⟩ = some (.string o4) := HOP.out.cell 4
            have y5 : v1.cell? ⟨ob, 5, none⟩ = some (.int .i64 c) := HOP.out.cell 5
            go_wp2_with fail
            refine wp_region_held_drew (S := (fun w' => w'.cell? ⟨ob, 0, none⟩ = some (.int .i64 0) ∧ w'.cell? ⟨ob, 1, none⟩ = some (.string o1) ∧ w'.cell? ⟨ob, 2, none⟩ = some (.string o2) ∧ w'.cell? ⟨ob, 3, none⟩ = some (.int .i64 o3) ∧ w'.cell? ⟨ob, 4, none⟩ = some (.string o4) ∧ w'.cell? ⟨ob, 5, none⟩ = some (.int .i64 c))) (by kernel_rfl) ?_ (fun hS => ?_)
            · exact ⟨y0, y1, y2, y3, y4, y5⟩
            clear y0 y1 y2 y3 y4 y5
            have hb : Below v1.heap.size v1 v1.drew := (Below.refl _ _).drew
            have HOP := Lib.hid ((Kf.below hb).bk (show Bk _ ob 32 _ from HOP.out))
            have HL := Lib.hid (HL.out.below hb)
            have HR := Lib.hid (HR.out.below hb)
            have HB := Lib.hid (HB.out.trans (hb.mono HB.out.size))
            clear hb
            refine tkY 0 ?_ rfl hS ?_ ?_
            rotate_left
            · intro wz hz
              go_simp
              all_goals first | with_reducible rfl | omega
            try simp only [Act.put, pu]
            refine tkY 1 ?_ rfl hS ?_ ?_
            rotate_left
            · intro wz hz
              go_simp
              all_goals first | with_reducible rfl | omega
            try simp only [Act.put, pu]
            refine tkY 2 ?_ rfl hS ?_ ?_
            rotate_left
            · intro wz hz
              obtain ⟨z0, z1, z2, z3, z4, z5⟩ := hz
              go_simp
              all_goals first | with_reducible rfl | omega
            try simp only [Act.put, pu]
            refine tkY 4 ?_ rfl hS ?_ ?_
            rotate_left
            · intro wz hz
              go_simp
              all_goals first | with_reducible rfl | omega
            try simp only [Act.put, pu]
            refine tkY 5 ?_ rfl hS ?_ ?_
            rotate_left
            · intro wz hz
              obtain ⟨z0, z1, z2, z3, z4, z5⟩ := hz
              go_simp
              all_goals first | with_reducible rfl | omega
            try simp only [Act.put, pu]
            refine wpAnyH_ready (rs := [3]) (by kernel_rfl) (by simp) (AllReadyH.cons rfl (fun K' hK' => ?_) AllReadyH.nil)
            go_simp
            refine (plain_any (o1, o2, o3, o4) _).mono ?_
            rintro e v2 ⟨rfl, hb⟩
            have HOP := Lib.hid ((Kf.below hb).bk (show Bk _ ob 32 _ from HOP.out))
            have HL := Lib.hid (HL.out.below hb)
            have HR := Lib.hid (HR.out.below hb)
            have HB := Lib.hid (HB.out.trans (hb.mono HB.out.size))
            clear hb
            have hS2 : (fun w' => w'.cell? ⟨ob, 0, none⟩ = some (.int .i64 0) ∧ w'.cell? ⟨ob, 1, none⟩ = some (.string o1) ∧ w'.cell? ⟨ob, 2, none⟩ = some (.string o2) ∧ w'.cell? ⟨ob, 3, none⟩ = some (.int .i64 o3) ∧ w'.cell? ⟨ob, 4, none⟩ = some (.string o4) ∧ w'.cell? ⟨ob, 5, none⟩ = some (.int .i64 c)) v2 := ⟨HOP.out.cell 0, HOP.out.cell 1, HOP.out.cell 2, HOP.out.cell 3, HOP.out.cell 4, HOP.out.cell 5⟩
            refine hK'.out _ _ ?_ (fun hSn => ?_)
            · exact hS2
            clear hK' K' hS
            have hS := hSn
            clear hSn hS2
            try simp only [Act.put, pu]
            have HC := Lib.hid (rask_any HR.out HSM.out (o1, o2, o3, o4) c)
            rw [HAS.out] at HC
            refine wpAnyH_ready (rs := [6]) (by kernel_rfl) (by simp) (AllReadyH.cons rfl (fun K' hK' => ?_) AllReadyH.nil)
            go_simp
            refine HC.out.mono ?_
            clear HC
            rintro e v3 ⟨rfl, hs⟩
            have HOP := Lib.hid (hs.kr.bk (show Bk _ ob 32 _ from HOP.out))
            have HL := Lib.hid (HL.out.kr hs.kr)
            have HR := Lib.hid hs.rb
            have HB := Lib.hid (HB.out.trans hs.bel)
            clear hs
            have hS2 : (fun w' => w'.cell? ⟨ob, 0, none⟩ = some (.int .i64 0) ∧ w'.cell? ⟨ob, 1, none⟩ = some (.string o1) ∧ w'.cell? ⟨ob, 2, none⟩ = some (.string o2) ∧ w'.cell? ⟨ob, 3, none⟩ = some (.int .i64 o3) ∧ w'.cell? ⟨ob, 4, none⟩ = some (.string o4) ∧ w'.cell? ⟨ob, 5, none⟩ = some (.int .i64 c)) v3 := ⟨HOP.out.cell 0, HOP.out.cell 1, HOP.out.cell 2, HOP.out.cell 3, HOP.out.cell 4, HOP.out.cell 5⟩
            refine hK'.out _ _ ?_ (fun hSn => ?_)
            · exact hS2
            clear hK' K' hS
            have hS := hSn
            clear hSn hS2
            try simp only [Act.put, pu]
            refine tkY 7 ?_ rfl hS ?_ ?_
            rotate_left
            · intro wz hz
              go_simp
              all_goals first | with_reducible rfl | omega
            try simp only [Act.put, pu]
            refine tkY 8 ?_ rfl hS ?_ ?_
            rotate_left
            · intro wz hz
              go_simp
              all_goals first | with_reducible rfl | omega
            try simp only [Act.put, pu]
            refine tkY 9 ?_ rfl hS ?_ ?_
            rotate_left
            · intro wz hz
              go_simp
              all_goals first | with_reducible rfl | omega
            try simp only [Act.put, pu]
            refine tkY 10 ?_ rfl hS ?_ ?_
            rotate_left
            · intro wz hz
              go_simp
              all_goals first | with_reducible rfl | omega
            try simp only [Act.put, pu]
            refine tkY 11 ?_ rfl hS ?_ ?_
            rotate_left
            · intro wz hz
              go_simp
              all_goals first | with_reducible rfl | omega
            try simp only [Act.put, pu]
            refine wpAnyH_done (by kernel_rfl) ?_ _
            clear hS
            obtain ⟨hd, bo, hlds⟩ : ∃ x y, leadS S1 (o1, o2, o3, o4) = (x, y) := ⟨_, _, rfl⟩
            obtain ⟨zk, bw, hws⟩ : ∃ x y, waitS S1 c = (x, y) := ⟨_, _, rfl⟩
            obtain ⟨z1, z2, z3, z4⟩ := zk
            have HLDS := Lib.hid hlds
            have HWS := Lib.hid hws
            clear hlds hws
            have HC := Lib.hid (lb_lead HL.out (o1, o2, o3, o4) HFI.out)
            rw [HLDS.out] at HC
            have y0 : v3.cell? ⟨ob, 0, none⟩ = some (.int .i64 0) := HOP.out.cell 0
            have y1 : v3.cell? ⟨ob, 1, none⟩ = some (.string o1) := HOP.out.cell 1
            have y2 : v3.cell? ⟨ob, 2, none⟩ = some (.string o2) := HOP.out.cell 2
            have y3 : v3.cell? ⟨ob, 3, none⟩ = some (.int .i64 o3) := HOP.out.cell 3
            have y4 : v3.cell? ⟨ob, 4, none⟩ = some (.string o4) := HOP.out.cell 4
            have y5 : v3.cell? ⟨ob, 5, none⟩ = some (.int .i64 c) := HOP.out.cell 5
            go_wp2_with fail
            refine HC.out.mono ?_
            clear HC
            clear y0 y1 y2 y3 y4 y5
            rintro e t1 ⟨rfl, hb⟩
            have HOP := Lib.hid ((Kf.below hb).bk (show Bk _ ob 32 _ from HOP.out))
            have HL := Lib.hid (HL.out.below hb)
            have HR := Lib.hid (HR.out.below hb)
            have HB := Lib.hid (HB.out.trans (hb.mono HB.out.size))
            clear hb
            have HC := Lib.hid (plain_any (o1, o2, o3, o4) t1)
            have y0 : t1.cell? ⟨ob, 0, none⟩ = some (.int .i64 0) := HOP.out.cell 0
            have y1 : t1.cell? ⟨ob, 1, none⟩ = some (.string o1) := HOP.out.cell 1
            have y2 : t1.cell? ⟨ob, 2, none⟩ = some (.string o2) := HOP.out.cell 2
            have y3 : t1.cell? ⟨ob, 3, none⟩ = some (.int .i64 o3) := HOP.out.cell 3
            have y4 : t1.cell? ⟨ob, 4, none⟩ = some (.string o4) := HOP.out.cell 4
            have y5 : t1.cell? ⟨ob, 5, none⟩ = some (.int .i64 c) := HOP.out.cell 5
            go_wp2_with fail
            refine HC.out.mono ?_
            clear HC
            clear y0 y1 y2 y3 y4 y5
            rintro e t2 ⟨rfl, hb⟩
            have HOP := Lib.hid ((Kf.below hb).bk (show Bk _ ob 32 _ from HOP.out))
            have HL := Lib.hid (HL.out.below hb)
            have HR := Lib.hid (HR.out.below hb)
            have HB := Lib.hid (HB.out.trans (hb.mono HB.out.size))
            clear hb
            have HC := Lib.hid (rlead_all HR.out HSM9.out (o1, o2, o3, o4))
            rw [HLDS.out] at HC
            have y0 : t2.cell? ⟨ob, 0, none⟩ = some (.int .i64 0) := HOP.out.cell 0
            have y1 : t2.cell? ⟨ob, 1, none⟩ = some (.string o1) := HOP.out.cell 1
            have y2 : t2.cell? ⟨ob, 2, none⟩ = some (.string o2) := HOP.out.cell 2
            have y3 : t2.cell? ⟨ob, 3, none⟩ = some (.int .i64 o3) := HOP.out.cell 3
            have y4 : t2.cell? ⟨ob, 4, none⟩ = some (.string o4) := HOP.out.cell 4
            have y5 : t2.cell? ⟨ob, 5, none⟩ = some (.int .i64 c) := HOP.out.cell 5
            go_wp2_with fail
            refine HC.out.mono ?_
            clear HC
            clear y0 y1 y2 y3 y4 y5
            rintro e t3 ⟨rfl, hb⟩
            have HOP := Lib.hid ((Kf.below hb).bk (show Bk _ ob 32 _ from HOP.out))
            have HL := Lib.hid (HL.out.below hb)
            have HR := Lib.hid (HR.out.below hb)
            have HB := Lib.hid (HB.out.trans (hb.mono HB.out.size))
            clear hb
            have HC := Lib.hid (lb_waits HL.out c HC9.out)
            rw [HWS.out] at HC
            have y0 : t3.cell? ⟨ob, 0, none⟩ = some (.int .i64 0) := HOP.out.cell 0
            have y1 : t3.cell? ⟨ob, 1, none⟩ = some (.string o1) := HOP.out.cell 1
            have y2 : t3.cell? ⟨ob, 2, none⟩ = some (.string o2) := HOP.out.cell 2
            have y3 : t3.cell? ⟨ob, 3, none⟩ = some (.int .i64 o3) := HOP.out.cell 3
            have y4 : t3.cell? ⟨ob, 4, none⟩ = some (.string o4) := HOP.out.cell 4
            have y5 : t3.cell? ⟨ob, 5, none⟩ = some (.int .i64 c) := HOP.out.cell 5
            go_wp2_with fail
            refine HC.out.mono ?_
            clear HC
            clear y0 y1 y2 y3 y4 y5
            rintro e t4 ⟨rfl, hb⟩
            have HOP := Lib.hid ((Kf.below hb).bk (show Bk _ ob 32 _ from HOP.out))
            have HL := Lib.hid (HL.out.below hb)
            have HR := Lib.hid (HR.out.below hb)
            have HB := Lib.hid (HB.out.trans (hb.mono HB.out.size))
            clear hb
            obtain ⟨T5, hT5⟩ : ∃ W, t4.alloc (.cells #[.string z1, .string z2, .int .i64 z3, .string z4] 30) = W := ⟨_, rfl⟩
            obtain ⟨xb, hxb⟩ : ∃ b, t4.heap.size = b := ⟨_, rfl⟩
            have hb : Below t4.heap.size t4 T5 := by rw [← hT5]; exact (Below.refl _ _).alloc (Nat.le_refl _) _
            have HXB := Lib.hid (show Bk T5 xb 30 #[.string z1, .string z2, .int .i64 z3, .string z4] by rw [← hT5, ← hxb]; exact Bk.new _ _ _)
            have HOP := Lib.hid ((Kf.below hb).bk (show Bk _ ob 32 _ from HOP.out))
            have HL := Lib.hid (HL.out.below hb)
            have HR := Lib.hid (HR.out.below hb)
            have HB := Lib.hid (HB.out.trans (hb.mono HB.out.size))
            clear hb
            have HC := Lib.hid (rwaits_all HR.out HSM9.out c)
            rw [HWS.out] at HC
            have y0 : T5.cell? ⟨ob, 0, none⟩ = some (.int .i64 0) := HOP.out.cell 0
            have y1 : T5.cell? ⟨ob, 1, none⟩ = some (.string o1) := HOP.out.cell 1
            have y2 : T5.cell? ⟨ob, 2, none⟩ = some (.string o2) := HOP.out.cell 2
            have y3 : T5.cell? ⟨ob, 3, none⟩ = some (.int .i64 o3) := HOP.out.cell 3
            have y4 : T5.cell? ⟨ob, 4, none⟩ = some (.string o4) := HOP.out.cell 4
            have y5 : T5.cell? ⟨ob, 5, none⟩ = some (.int .i64 c) := HOP.out.cell 5
            go_wp2_with fail
            try rw [hT5]
            try rw [hxb]
            refine HC.out.mono ?_
            clear HC hT5 hxb
            clear y0 y1 y2 y3 y4 y5
            rintro e t6 ⟨rfl, hb⟩
            have HXB := Lib.hid ((Kf.below hb).bk HXB.out)
            have HOP := Lib.hid ((Kf.below hb).bk (show Bk _ ob 32 _ from HOP.out))
            have HL := Lib.hid (HL.out.below hb)
            have HR := Lib.hid (HR.out.below hb)
            have HB := Lib.hid (HB.out.trans (hb.mono HB.out.size))
            clear hb
            obtain ⟨T7, hT7⟩ : ∃ W, t6.alloc (.cells #[.string z1, .string z2, .int .i64 z3, .string z4] 38) = W := ⟨_, rfl⟩
            obtain ⟨yb, hyb⟩ : ∃ b, t6.heap.size = b := ⟨_, rfl⟩
            have hb : Below t6.heap.size t6 T7 := by rw [← hT7]; exact (Below.refl _ _).alloc (Nat.le_refl _) _
            have HYB := Lib.hid (show Bk T7 yb 38 #[.string z1, .string z2, .int .i64 z3, .string z4] by rw [← hT7, ← hyb]; exact Bk.new _ _ _)
            have HXB := Lib.hid ((Kf.below hb).bk HXB.out)
            have HOP := Lib.hid ((Kf.below hb).bk (show Bk _ ob 32 _ from HOP.out))
            have HL := Lib.hid (HL.out.below hb)
            have HR := Lib.hid (HR.out.below hb)
            have HB := Lib.hid (HB.out.trans (hb.mono HB.out.size))
            clear hb
            obtain ⟨la, lc, hlen⟩ := HR.out.len
            have q0 : T7.cell? ⟨xb, 0, none⟩ = some (.string z1) := HXB.out.cell 0
            have q1 : T7.cell? ⟨xb, 1, none⟩ = some (.string z2) := HXB.out.cell 1
            have q2 : T7.cell? ⟨xb, 2, none⟩ = some (.int .i64 z3) := HXB.out.cell 2
            have q3 : T7.cell? ⟨xb, 3, none⟩ = some (.string z4) := HXB.out.cell 3
            have p0 : T7.cell? ⟨yb, 0, none⟩ = some (.string z1) := HYB.out.cell 0
            have p1 : T7.cell? ⟨yb, 1, none⟩ = some (.string z2) := HYB.out.cell 1
            have p2 : T7.cell? ⟨yb, 2, none⟩ = some (.int .i64 z3) := HYB.out.cell 2
            have p3 : T7.cell? ⟨yb, 3, none⟩ = some (.string z4) := HYB.out.cell 3
            have HNE := Lib.hid (fun W => neq_rk (z1, z2, z3, z4) (z1, z2, z3, z4) W)
            rw [eqK_iff.2 rfl] at HNE
            obtain ⟨ns, hns⟩ : ∃ n, (S1).length = n := ⟨_, rfl⟩
            rw [hns] at hlen
            have HNS := Lib.hid hns
            clear hns
            go_wp2_with fail
            try rw [hT7]
            try rw [hyb]
            clear hT7 hyb
            refine wp_region_held_drew (S := (fun w' => w'.cell? ⟨xb, 0, none⟩ = some (.string z1) ∧ w'.cell? ⟨xb, 1, none⟩ = some (.string z2) ∧ w'.cell? ⟨xb, 2, none⟩ = some (.int .i64 z3) ∧ w'.cell? ⟨xb, 3, none⟩ = some (.string z4) ∧ w'.cell? ⟨yb, 0, none⟩ = some (.string z1) ∧ w'.cell? ⟨yb, 1, none⟩ = some (.string z2) ∧ w'.cell? ⟨yb, 2, none⟩ = some (.int .i64 z3) ∧ w'.cell? ⟨yb, 3, none⟩ = some (.string z4) ∧ w'.cell? ⟨r, 0, none⟩ = some (.slice la ns lc))) (by kernel_rfl) ?_ (fun hS => ?_)
            · exact ⟨q0, q1, q2, q3, p0, p1, p2, p3, hlen⟩
            have hbd : Below T7.heap.size T7 T7.drew := (Below.refl _ _).drew
            have HL := Lib.hid (HL.out.below hbd)
            have HR := Lib.hid (HR.out.below hbd)
            have HB := Lib.hid (HB.out.trans (hbd.mono HB.out.size))
            clear hbd q0 q1 q2 q3 p0 p1 p2 p3 hlen
            refine tkY 0 ?_ rfl hS ?_ ?_
            rotate_left
            · intro wz hz
              go_simp
              all_goals first | with_reducible rfl | omega
            try simp only [Act.put, pu]
            refine tkY 1 ?_ rfl hS ?_ ?_
            rotate_left
            · intro wz hz
              go_simp
              all_goals first | with_reducible rfl | omega
            try simp only [Act.put, pu]
            refine tkY 2 (.bool false) rfl hS ?_ ?_
            · intro wz hz
              go_simp
              all_goals first | with_reducible rfl | omega
            try simp only [Act.put, pu]
            refine tkY 3 (.bool false) rfl hS ?_ ?_
            · intro wz hz
              go_simp
              all_goals first | with_reducible rfl | omega
            try simp only [Act.put, pu]
            refine tkY 4 ?_ rfl hS ?_ ?_
            rotate_left
            · intro wz hz
              go_simp
              all_goals first | with_reducible rfl | omega
            try simp only [Act.put, pu]
            refine tkY 5 ?_ rfl hS ?_ ?_
            rotate_left
            · intro wz hz
              go_simp
              all_goals first | with_reducible rfl | omega
            try simp only [Act.put, pu]
            refine tkY 6 (.bool false) rfl hS ?_ ?_
            · intro wz hz
              go_simp
              all_goals first | with_reducible rfl | omega
            try simp only [Act.put, pu]
            refine tkY 7 (.bool false) rfl hS ?_ ?_
            · intro wz hz
              go_simp
              all_goals first | with_reducible rfl | omega
            try simp only [Act.put, pu]
            refine tkY 8 (.bool false) rfl hS ?_ ?_
            · intro wz hz
              go_simp
              all_goals first | with_reducible rfl | omega
            try simp only [Act.put, pu]
            refine tkY 9 ?_ rfl hS ?_ ?_
            rotate_left
            · intro wz hz
              obtain ⟨z01, z02, z03, z04, z05, z06, z07, z08, z09⟩ := hz
              go_simp
              all_goals first | with_reducible rfl | omega
            try simp only [Act.put, pu]
            refine tkY 11 ?_ rfl hS ?_ ?_
            rotate_left
            · intro wz hz
              obtain ⟨z01, z02, z03, z04, z05, z06, z07, z08, z09⟩ := hz
              go_simp
              all_goals first | with_reducible rfl | omega
            try simp only [Act.put, pu]
            refine wpAnyH_ready (rs := [10]) (by kernel_rfl) (by simp) (AllReadyH.cons rfl (fun K' hK' => ?_) AllReadyH.nil)
            go_simp
            refine (plain_any (z1, z2, z3, z4) _).mono ?_
            rintro e t8 ⟨rfl, hb⟩
            obtain ⟨z01, z02, z03, z04, z05, z06, z07, z08, z09⟩ := id hS
            have hS2 : (fun w' => w'.cell? ⟨xb, 0, none⟩ = some (.string z1) ∧ w'.cell? ⟨xb, 1, none⟩ = some (.string z2) ∧ w'.cell? ⟨xb, 2, none⟩ = some (.int .i64 z3) ∧ w'.cell? ⟨xb, 3, none⟩ = some (.string z4) ∧ w'.cell? ⟨yb, 0, none⟩ = some (.string z1) ∧ w'.cell? ⟨yb, 1, none⟩ = some (.string z2) ∧ w'.cell? ⟨yb, 2, none⟩ = some (.int .i64 z3) ∧ w'.cell? ⟨yb, 3, none⟩ = some (.string z4) ∧ w'.cell? ⟨r, 0, none⟩ = some (.slice la ns lc)) t8 := ⟨(hb.cell (p := ⟨xb, 0, none⟩) (World.block_lt_of_cell? _ _ z01)).trans z01, (hb.cell (p := ⟨xb, 1, none⟩) (World.block_lt_of_cell? _ _ z02)).trans z02, (hb.cell (p := ⟨xb, 2, none⟩) (World.block_lt_of_cell? _ _ z03)).trans z03, (hb.cell (p := ⟨xb, 3, none⟩) (World.block_lt_of_cell? _ _ z04)).trans z04, (hb.cell (p := ⟨yb, 0, none⟩) (World.block_lt_of_cell? _ _ z05)).trans z05, (hb.cell (p := ⟨yb, 1, none⟩) (World.block_lt_of_cell? _ _ z06)).trans z06, (hb.cell (p := ⟨yb, 2, none⟩) (World.block_lt_of_cell? _ _ z07)).trans z07, (hb.cell (p := ⟨yb, 3, none⟩) (World.block_lt_of_cell? _ _ z08)).trans z08, (hb.cell (p := ⟨r, 0, none⟩) (World.block_lt_of_cell? _ _ z09)).trans z09⟩
            have HL := Lib.hid (HL.out.below hb)
            have HR := Lib.hid (HR.out.below hb)
            have HB := Lib.hid (HB.out.trans (hb.mono HB.out.size))
            clear hb z01 z02 z03 z04 z05 z06 z07 z08 z09
            refine hK'.out _ _ ?_ (fun hSn => ?_)
            · exact hS2
            clear hK' K' hS
            have hS := hSn
            clear hSn hS2
            try simp only [Act.put, pu]
            refine tkY 12 (.bool false) rfl hS ?_ ?_
            · intro wz hz
              have hne := HNE.out
              simp only [Bool.not_true] at hne
              go_simp
              all_goals first | with_reducible rfl | omega
            try simp only [Act.put, pu]
            refine tkY 13 (.bool false) rfl hS ?_ ?_
            · intro wz hz
              go_simp
              all_goals first | with_reducible rfl | omega
            try simp only [Act.put, pu]
            refine tkY 14 (.bool false) rfl hS ?_ ?_
            · intro wz hz
              go_simp
              all_goals first | with_reducible rfl | omega
            try simp only [Act.put, pu]
            refine tkY 15 ?_ rfl hS ?_ ?_
            rotate_left
            · intro wz hz
              go_simp
              all_goals first | with_reducible rfl | omega
            try simp only [Act.put, pu]
            refine tkY 16 ?_ rfl hS ?_ ?_
            rotate_left
            · intro wz hz
              go_simp
              all_goals first | with_reducible rfl | omega
            try simp only [Act.put, pu]
            refine tkY 17 (.bool false) rfl hS ?_ ?_
            · intro wz hz
              go_simp
              all_goals first | with_reducible rfl | omega
            try simp only [Act.put, pu]
            refine tkY 18 (.bool false) rfl hS ?_ ?_
            · intro wz hz
              go_simp
              all_goals first | with_reducible rfl | omega
            try simp only [Act.put, pu]
            refine tkY 19 (.bool false) rfl hS ?_ ?_
            · intro wz hz
              go_simp
              all_goals first | with_reducible rfl | omega
            try simp only [Act.put, pu]
            refine tkY 20 ?_ rfl hS ?_ ?_
            rotate_left
            · intro wz hz
              go_simp
              all_goals first | with_reducible rfl | omega
            try simp only [Act.put, pu]
            refine tkY 22 ?_ rfl hS ?_ ?_
            rotate_left
            · intro wz hz
              go_simp
              all_goals first | with_reducible rfl | omega
            try simp only [Act.put, pu]
            refine tkY 23 ?_ rfl hS ?_ ?_
            rotate_left
            · intro wz hz
              go_simp
              all_goals first | with_reducible rfl | omega
            try simp only [Act.put, pu]
            refine tkY 24 ?_ rfl hS ?_ ?_
            rotate_left
            · intro wz hz
              go_simp
              all_goals first | with_reducible rfl | omega
            try simp only [Act.put, pu]
            refine tkY 25 ?_ rfl hS ?_ ?_
            rotate_left
            · intro wz hz
              obtain ⟨z01, z02, z03, z04, z05, z06, z07, z08, z09⟩ := hz
              go_simp
              all_goals first | with_reducible rfl | omega
            try simp only [Act.put, pu]
            refine tkY 26 ?_ rfl hS ?_ ?_
            rotate_left
            · intro wz hz
              go_simp
              all_goals first | with_reducible rfl | omega
            try simp only [Act.put, pu]
            refine wpAnyH_ready (rs := [21]) (by kernel_rfl) (by simp) (AllReadyH.cons rfl (fun K' hK' => ?_) AllReadyH.nil)
            go_simp
            refine (lb_open HL.out).mono ?_
            rintro e t9 ⟨rfl, rfl⟩
            try rw [HNS.out]
            have hS2 := id hS
            refine hK'.out _ _ ?_ (fun hSn => ?_)
            · exact hS2
            clear hK' K' hS
            have hS := hSn
            clear hSn hS2
            try simp only [Act.put, pu]
            refine tkY 27 (.bool false) rfl hS ?_ ?_
            · intro wz hz
              go_simp
              all_goals first | with_reducible rfl | omega
            try simp only [Act.put, pu]
            refine tkY 28 (.bool false) rfl hS ?_ ?_
            · intro wz hz
              go_simp
              all_goals first | with_reducible rfl | omega
            try simp only [Act.put, pu]
            refine wpAnyH_done (by kernel_rfl) ?_ _
            clear hS
            go_wp2
            go_roundg gk1
            case measure => exact Nat.lt_succ_self _
            case rel => exact ⟨i1, a, (N + 1), S1, rfl, rfl, HI1.out.1, by have := HI1.out; omega, by have := HI1.out; have := HTK.out; omega, HL.out, HR.out, HB.out⟩
        · by_cases k1 : kd = 1
          · subst k1
            as_aux_lemma =>
              have y0 : W7.cell? ⟨ob, 0, none⟩ = some (.int .i64 1) := HOP.out.cell 0
              have y1 : W7.cell? ⟨ob, 1, none⟩ = some (.string o1) := HOP.out.cell 1
              have y2 : W7.cell? ⟨ob, 2, none⟩ = some (.string o2) := HOP.out.cell 2
              have y3 : W7.cell? ⟨ob, 3, none⟩ = some (.int .i64 o3) := HOP.out.cell 3
              have y4 : W7.cell? ⟨ob, 4, none⟩ = some (.string o4) := HOP.out.cell 4
              have y5 : W7.cell? ⟨ob, 5, none⟩ = some (.int .i64 c) := HOP.out.cell 5
              go_wp2_with fail
              try rw [hW7]
              try rw [hob]
              refine (HSH.out _).mono ?_
              rintro e w3 ⟨rfl, hb⟩
              have HOP := Lib.hid ((Kf.below hb).bk (show Bk _ ob 32 _ from HOP.out))
              have HL := Lib.hid (HL.out.below hb)
              have HR := Lib.hid (HR.out.below hb)
              have HB := Lib.hid (HB.out.trans (hb.mono HB.out.size))
              clear hb hW7 hob HSH
              clear x0 x1 x2 x3 x4 x5
              clear y0 y1 y2 y3 y4 y5
              obtain ⟨S1, nn, dd, yy, has⟩ : ∃ x y z u, landS S (o1, o2, o3, o4) = (x, y, z, u) := ⟨_, _, _, _, rfl⟩
              have HAS := Lib.hid has
              have htk := tot_land S (o1, o2, o3, o4)
              have hsm := land_small HSM.out (o1, o2, o3, o4)
              rw [has] at htk hsm
              have HTK : Hid (tot S1 ≤ tot S) := Lib.hid htk
              have HDD : Hid (dd.length ≤ 1000000) := Lib.hid hsm
              clear has htk hsm
              have HC := Lib.hid (lb_land HL.out (by have := HI1.out; omega) (o1, o2, o3, o4) HFI.out)
              rw [HAS.out] at HC
              have y0 : w3.cell? ⟨ob, 0, none⟩ = some (.int .i64 1) := HOP.out.cell 0
              have y1 : w3.cell? ⟨ob, 1, none⟩ = some (.string o1) := HOP.out.cell 1
              have y2 : w3.cell? ⟨ob, 2, none⟩ = some (.string o2) := HOP.out.cell 2
              have y3 : w3.cell? ⟨ob, 3, none⟩ = some (.int .i64 o3) := HOP.out.cell 3
              have y4 : w3.cell? ⟨ob, 4, none⟩ = some (.string o4) := HOP.out.cell 4
              have y5 : w3.cell? ⟨ob, 5, none⟩ = some (.int .i64 c) := HOP.out.cell 5
              go_wp2_with fail
              refine HC.out.mono ?_
              clear HC
              clear y0 y1 y2 y3 y4 y5
              rintro e v1 ⟨ra, rfl, hia, hs⟩
              have HOP := Lib.hid (hs.kf.bk (show Bk _ ob 32 _ from HOP.out))
              have HL := Lib.hid hs.lb
              have HR := Lib.hid (HR.out.kf hs.kf)
              have HB := Lib.hid (HB.out.trans hs.bel)
              have HIA := Lib.hid (show IS v1 ra dd from hia)
              clear hs hia
              have HSM9 := Lib.hid (HL.out.sm (by have := HI1.out; have := HTK.out; omega))
              have HC := Lib.hid (plain_any (o1, o2, o3, o4) v1)
              have y0 : v1.cell? ⟨ob, 0, none⟩ = some (.int .i64 1) := HOP.out.cell 0
              have y1 : v1.cell? ⟨ob, 1, none⟩ = some (.string o1) := HOP.out.cell 1
              have y2 : v1.cell? ⟨ob, 2, none⟩ = some (.string o2) := HOP.out.cell 2
              have y3 : v1.cell? ⟨ob, 3, none⟩ = some (.int .i64 o3) := HOP.out.cell 3
              have y4 : v1.cell? ⟨ob, 4, none⟩ = some (.string o4) := HOP.out.cell 4
              have y5 : v1.cell? ⟨ob, 5, none⟩ = some (.int .i64 c) := HOP.out.cell 5
              go_wp2_with fail
              refine HC.out.mono ?_
              clear HC
              clear y0 y1 y2 y3 y4 y5
              rintro e v2 ⟨rfl, hb⟩
              have HIA := Lib.hid (HIA.out.below hb)
              have HOP := Lib.hid ((Kf.below hb).bk (show Bk _ ob 32 _ from HOP.out))
              have HL := Lib.hid (HL.out.below hb)
              have HR := Lib.hid (HR.out.below hb)
              have HB := Lib.hid (HB.out.trans (hb.mono HB.out.size))
              clear hb
              have HC := Lib.hid (rland_all HR.out HSM.out (o1, o2, o3, o4))
              rw [HAS.out] at HC
              have y0 : v2.cell? ⟨ob, 0, none⟩ = some (.int .i64 1) := HOP.out.cell 0
              have y1 : v2.cell? ⟨ob, 1, none⟩ = some (.string o1) := HOP.out.cell 1
              have y2 : v2.cell? ⟨ob, 2, none⟩ = some (.string o2) := HOP.out.cell 2
              have y3 : v2.cell? ⟨ob, 3, none⟩ = some (.int .i64 o3) := HOP.out.cell 3
              have y4 : v2.cell? ⟨ob, 4, none⟩ = some (.string o4) := HOP.out.cell 4
              have y5 : v2.cell? ⟨ob, 5, none⟩ = some (.int .i64 c) := HOP.out.cell 5
              go_wp2_with fail
              refine HC.out.mono ?_
              clear HC
              clear y0 y1 y2 y3 y4 y5
              rintro e v3 ⟨rb, rfl, hib, hs, hki⟩
              have HOP := Lib.hid (hs.kr.bk (show Bk _ ob 32 _ from HOP.out))
              have HL := Lib.hid (HL.out.kr hs.kr)
              have HR := Lib.hid hs.rb
              have HB := Lib.hid (HB.out.trans hs.bel)
              have HIA := Lib.hid (HIA.out.ki hki)
              have HIB := Lib.hid (show IS v3 rb dd from hib)
              clear hs hib hki
              have HC := Lib.hid (ints_any v3 ra rb dd dd HIA.out HIB.out HDD.out)
              rw [decide_eq_true rfl] at HC
              obtain ⟨aa, ac, hra⟩ := HIA.out.form
              obtain ⟨ba, bc, hrb⟩ := HIB.out.form
              subst hra hrb
              go_wp2_with fail
              refine HC.out.mono ?_
              clear HC
              rintro e v4 ⟨rfl, hb⟩
              have HOP := Lib.hid ((Kf.below hb).bk (show Bk _ ob 32 _ from HOP.out))
              have HL := Lib.hid (HL.out.below hb)
              have HR := Lib.hid (HR.out.below hb)
              have HB := Lib.hid (HB.out.trans (hb.mono HB.out.size))
              clear hb
              obtain ⟨hd, bo, hlds⟩ : ∃ x y, leadS S1 (o1, o2, o3, o4) = (x, y) := ⟨_, _, rfl⟩
              obtain ⟨zk, bw, hws⟩ : ∃ x y, waitS S1 c = (x, y) := ⟨_, _, rfl⟩
              obtain ⟨z1, z2, z3, z4⟩ := zk
              have HLDS := Lib.hid hlds
              have HWS := Lib.hid hws
              clear hlds hws
              have HC := Lib.hid (lb_lead HL.out (o1, o2, o3, o4) HFI.out)
              rw [HLDS.out] at HC
              have y0 : v4.cell? ⟨ob, 0, none⟩ = some (.int .i64 1) := HOP.out.cell 0
              have y1 : v4.cell? ⟨ob, 1, none⟩ = some (.string o1) := HOP.out.cell 1
              have y2 : v4.cell? ⟨ob, 2, none⟩ = some (.string o2) := HOP.out.cell 2
              have y3 : v4.cell? ⟨ob, 3, none⟩ = some (.int .i64 o3) := HOP.out.cell 3
              have y4 : v4.cell? ⟨ob, 4, none⟩ = some (.string o4) := HOP.out.cell 4
              have y5 : v4.cell? ⟨ob, 5, none⟩ = some (.int .i64 c) := HOP.out.cell 5
              go_wp2_with fail
              refine HC.out.mono ?_
              clear HC
              clear y0 y1 y2 y3 y4 y5
              rintro e t1 ⟨rfl, hb⟩
              have HOP := Lib.hid ((Kf.below hb).bk (show Bk _ ob 32 _ from HOP.out))
              have HL := Lib.hid (HL.out.below hb)
              have HR := Lib.hid (HR.out.below hb)
              have HB := Lib.hid (HB.out.trans (hb.mono HB.out.size))
              clear hb
              have HC := Lib.hid (plain_any (o1, o2, o3, o4) t1)
              have y0 : t1.cell? ⟨ob, 0, none⟩ = some (.int .i64 1) := HOP.out.cell 0
              have y1 : t1.cell? ⟨ob, 1, none⟩ = some (.string o1) := HOP.out.cell 1
              have y2 : t1.cell? ⟨ob, 2, none⟩ = some (.string o2) := HOP.out.cell 2
              have y3 : t1.cell? ⟨ob, 3, none⟩ = some (.int .i64 o3) := HOP.out.cell 3
              have y4 : t1.cell? ⟨ob, 4, none⟩ = some (.string o4) := HOP.out.cell 4
              have y5 : t1.cell? ⟨ob, 5, none⟩ = some (.int .i64 c) := HOP.out.cell 5
              go_wp2_with fail
              refine HC.out.mono ?_
              clear HC
              clear y0 y1 y2 y3 y4 y5
              rintro e t2 ⟨rfl, hb⟩
              have HOP := Lib.hid ((Kf.below hb).bk (show Bk _ ob 32 _ from HOP.out))
              have HL := Lib.hid (HL.out.below hb)
              have HR := Lib.hid (HR.out.below hb)
              have HB := Lib.hid (HB.out.trans (hb.mono HB.out.size))
              clear hb
              have HC := Lib.hid (rlead_all HR.out HSM9.out (o1, o2, o3, o4))
              rw [HLDS.out] at HC
              have y0 : t2.cell? ⟨ob, 0, none⟩ = some (.int .i64 1) := HOP.out.cell 0
              have y1 : t2.cell? ⟨ob, 1, none⟩ = some (.string o1) := HOP.out.cell 1
              have y2 : t2.cell? ⟨ob, 2, none⟩ = some (.string o2) := HOP.out.cell 2
              have y3 : t2.cell? ⟨ob, 3, none⟩ = some (.int .i64 o3) := HOP.out.cell 3
              have y4 : t2.cell? ⟨ob, 4, none⟩ = some (.string o4) := HOP.out.cell 4
              have y5 : t2.cell? ⟨ob, 5, none⟩ = some (.int .i64 c) := HOP.out.cell 5
              go_wp2_with fail
              refine HC.out.mono ?_
              clear HC
              clear y0 y1 y2 y3 y4 y5
              rintro e t3 ⟨rfl, hb⟩
              have HOP := Lib.hid ((Kf.below hb).bk (show Bk _ ob 32 _ from HOP.out))
              have HL := Lib.hid (HL.out.below hb)
              have HR := Lib.hid (HR.out.below hb)
              have HB := Lib.hid (HB.out.trans (hb.mono HB.out.size))
              clear hb
              have HC := Lib.hid (lb_waits HL.out c HC9.out)
              rw [HWS.out] at HC
              have y0 : t3.cell? ⟨ob, 0, none⟩ = some (.int .i64 1) := HOP.out.cell 0
              have y1 : t3.cell? ⟨ob, 1, none⟩ = some (.string o1) := HOP.out.cell 1
              have y2 : t3.cell? ⟨ob, 2, none⟩ = some (.string o2) := HOP.out.cell 2
              have y3 : t3.cell? ⟨ob, 3, none⟩ = some (.int .i64 o3) := HOP.out.cell 3
              have y4 : t3.cell? ⟨ob, 4, none⟩ = some (.string o4) := HOP.out.cell 4
              have y5 : t3.cell? ⟨ob, 5, none⟩ = some (.int .i64 c) := HOP.out.cell 5
              go_wp2_with fail
              refine HC.out.mono ?_
              clear HC
              clear y0 y1 y2 y3 y4 y5
              rintro e t4 ⟨rfl, hb⟩
              have HOP := Lib.hid ((Kf.below hb).bk (show Bk _ ob 32 _ from HOP.out))
              have HL := Lib.hid (HL.out.below hb)
              have HR := Lib.hid (HR.out.below hb)
              have HB := Lib.hid (HB.out.trans (hb.mono HB.out.size))
              clear hb
              obtain ⟨T5, hT5⟩ : ∃ W, t4.alloc (.cells #[.string z1, .string z2, .int .i64 z3, .string z4] 30) = W := ⟨_, rfl⟩
              obtain ⟨xb, hxb⟩ : ∃ b, t4.heap.size = b := ⟨_, rfl⟩
              have hb : Below t4.heap.size t4 T5 := by rw [← hT5]; exact (Below.refl _ _).alloc (Nat.le_refl _) _
              have HXB := Lib.hid (show Bk T5 xb 30 #[.string z1, .string z2, .int .i64 z3, .string z4] by rw [← hT5, ← hxb]; exact Bk.new _ _ _)
              have HOP := Lib.hid ((Kf.below hb).bk (show Bk _ ob 32 _ from HOP.out))
              have HL := Lib.hid (HL.out.below hb)
              have HR := Lib.hid (HR.out.below hb)
              have HB := Lib.hid (HB.out.trans (hb.mono HB.out.size))
              clear hb
              have HC := Lib.hid (rwaits_all HR.out HSM9.out c)
              rw [HWS.out] at HC
              have y0 : T5.cell? ⟨ob, 0, none⟩ = some (.int .i64 1) := HOP.out.cell 0
              have y1 : T5.cell? ⟨ob, 1, none⟩ = some (.string o1) := HOP.out.cell 1
              have y2 : T5.cell? ⟨ob, 2, none⟩ = some (.string o2) := HOP.out.cell 2
              have y3 : T5.cell? ⟨ob, 3, none⟩ = some (.int .i64 o3) := HOP.out.cell 3
              have y4 : T5.cell? ⟨ob, 4, none⟩ = some (.string o4) := HOP.out.cell 4
              have y5 : T5.cell? ⟨ob, 5, none⟩ = some (.int .i64 c) := HOP.out.cell 5
              go_wp2_with fail
              try rw [hT5]
              try rw [hxb]
              refine HC.out.mono ?_
              clear HC hT5 hxb
              clear y0 y1 y2 y3 y4 y5
              rintro e t6 ⟨rfl, hb⟩
              have HXB := Lib.hid ((Kf.below hb).bk HXB.out)
              have HOP := Lib.hid ((Kf.below hb).bk (show Bk _ ob 32 _ from HOP.out))
              have HL := Lib.hid (HL.out.below hb)
              have HR := Lib.hid (HR.out.below hb)
              have HB := Lib.hid (HB.out.trans (hb.mono HB.out.size))
              clear hb
              obtain ⟨T7, hT7⟩ : ∃ W, t6.alloc (.cells #[.string z1, .string z2, .int .i64 z3, .string z4] 38) = W := ⟨_, rfl⟩
              obtain ⟨yb, hyb⟩ : ∃ b, t6.heap.size = b := ⟨_, rfl⟩
              have hb : Below t6.heap.size t6 T7 := by rw [← hT7]; exact (Below.refl _ _).alloc (Nat.le_refl _) _
              have HYB := Lib.hid (show Bk T7 yb 38 #[.string z1, .string z2, .int .i64 z3, .string z4] by rw [← hT7, ← hyb]; exact Bk.new _ _ _)
              have HXB := Lib.hid ((Kf.below hb).bk HXB.out)
              have HOP := Lib.hid ((Kf.below hb).bk (show Bk _ ob 32 _ from HOP.out))
              have HL := Lib.hid (HL.out.below hb)
              have HR := Lib.hid (HR.out.below hb)
              have HB := Lib.hid (HB.out.trans (hb.mono HB.out.size))
              clear hb
              obtain ⟨la, lc, hlen⟩ := HR.out.len
              have q0 : T7.cell? ⟨xb, 0, none⟩ = some (.string z1) := HXB.out.cell 0
              have q1 : T7.cell? ⟨xb, 1, none⟩ = some (.string z2) := HXB.out.cell 1
              have q2 : T7.cell? ⟨xb, 2, none⟩ = some (.int .i64 z3) := HXB.out.cell 2
              have q3 : T7.cell? ⟨xb, 3, none⟩ = some (.string z4) := HXB.out.cell 3
              have p0 : T7.cell? ⟨yb, 0, none⟩ = some (.string z1) := HYB.out.cell 0
              have p1 : T7.cell? ⟨yb, 1, none⟩ = some (.string z2) := HYB.out.cell 1
              have p2 : T7.cell? ⟨yb, 2, none⟩ = some (.int .i64 z3) := HYB.out.cell 2
              have p3 : T7.cell? ⟨yb, 3, none⟩ = some (.string z4) := HYB.out.cell 3
              have HNE := Lib.hid (fun W => neq_rk (z1, z2, z3, z4) (z1, z2, z3, z4) W)
              rw [eqK_iff.2 rfl] at HNE
              obtain ⟨ns, hns⟩ : ∃ n, (S1).length = n := ⟨_, rfl⟩
              rw [hns] at hlen
              have HNS := Lib.hid hns
              clear hns
              go_wp2_with fail
              try rw [hT7]
              try rw [hyb]
              clear hT7 hyb
              refine wp_region_held_drew (S := (fun w' => w'.cell? ⟨xb, 0, none⟩ = some (.string z1) ∧ w'.cell? ⟨xb, 1, none⟩ = some (.string z2) ∧ w'.cell? ⟨xb, 2, none⟩ = some (.int .i64 z3) ∧ w'.cell? ⟨xb, 3, none⟩ = some (.string z4) ∧ w'.cell? ⟨yb, 0, none⟩ = some (.string z1) ∧ w'.cell? ⟨yb, 1, none⟩ = some (.string z2) ∧ w'.cell? ⟨yb, 2, none⟩ = some (.int .i64 z3) ∧ w'.cell? ⟨yb, 3, none⟩ = some (.string z4) ∧ w'.cell? ⟨r, 0, none⟩ = some (.slice la ns lc))) (by kernel_rfl) ?_ (fun hS => ?_)
              · exact ⟨q0, q1, q2, q3, p0, p1, p2, p3, hlen⟩
              have hbd : Below T7.heap.size T7 T7.drew := (Below.refl _ _).drew
              have HL := Lib.hid (HL.out.below hbd)
              have HR := Lib.hid (HR.out.below hbd)
              have HB := Lib.hid (HB.out.trans (hbd.mono HB.out.size))
              clear hbd q0 q1 q2 q3 p0 p1 p2 p3 hlen
              refine tkY 0 ?_ rfl hS ?_ ?_
              rotate_left
              · intro wz hz
                go_simp
                all_goals first | with_reducible rfl | omega
              try simp only [Act.put, pu]
              refine tkY 1 ?_ rfl hS ?_ ?_
              rotate_left
              · intro wz hz
                go_simp
                all_goals first | with_reducible rfl | omega
              try simp only [Act.put, pu]
              refine tkY 2 (.bool false) rfl hS ?_ ?_
              · intro wz hz
                go_simp
                all_goals first | with_reducible rfl | omega
              try simp only [Act.put, pu]
              refine tkY 3 (.bool false) rfl hS ?_ ?_
              · intro wz hz
                go_simp
                all_goals first | with_reducible rfl | omega
              try simp only [Act.put, pu]
              refine tkY 4 ?_ rfl hS ?_ ?_
              rotate_left
              · intro wz hz
                go_simp
                all_goals first | with_reducible rfl | omega
              try simp only [Act.put, pu]
              refine tkY 5 ?_ rfl hS ?_ ?_
              rotate_left
              · intro wz hz
                go_simp
                all_goals first | with_reducible rfl | omega
              try simp only [Act.put, pu]
              refine tkY 6 (.bool false) rfl hS ?_ ?_
              · intro wz hz
                go_simp
                all_goals first | with_reducible rfl | omega
              try simp only [Act.put, pu]
              refine tkY 7 (.bool false) rfl hS ?_ ?_
              · intro wz hz
                go_simp
                all_goals first | with_reducible rfl | omega
              try simp only [Act.put, pu]
              refine tkY 8 (.bool false) rfl hS ?_ ?_
              · intro wz hz
                go_simp
                all_goals first | with_reducible rfl | omega
              try simp only [Act.put, pu]
              refine tkY 9 ?_ rfl hS ?_ ?_
              rotate_left
              · intro wz hz
                obtain ⟨z01, z02, z03, z04, z05, z06, z07, z08, z09⟩ := hz
                go_simp
                all_goals first | with_reducible rfl | omega
              try simp only [Act.put, pu]
              refine tkY 11 ?_ rfl hS ?_ ?_
              rotate_left
              · intro wz hz
                obtain ⟨z01, z02, z03, z04, z05, z06, z07, z08, z09⟩ := hz
                go_simp
                all_goals first | with_reducible rfl | omega
              try simp only [Act.put, pu]
              refine wpAnyH_ready (rs := [10]) (by kernel_rfl) (by simp) (AllReadyH.cons rfl (fun K' hK' => ?_) AllReadyH.nil)
              go_simp
              refine (plain_any (z1, z2, z3, z4) _).mono ?_
              rintro e t8 ⟨rfl, hb⟩
              obtain ⟨z01, z02, z03, z04, z05, z06, z07, z08, z09⟩ := id hS
              have hS2 : (fun w' => w'.cell? ⟨xb, 0, none⟩ = some (.string z1) ∧ w'.cell? ⟨xb, 1, none⟩ = some (.string z2) ∧ w'.cell? ⟨xb, 2, none⟩ = some (.int .i64 z3) ∧ w'.cell? ⟨xb, 3, none⟩ = some (.string z4) ∧ w'.cell? ⟨yb, 0, none⟩ = some (.string z1) ∧ w'.cell? ⟨yb, 1, none⟩ = some (.string z2) ∧ w'.cell? ⟨yb, 2, none⟩ = some (.int .i64 z3) ∧ w'.cell? ⟨yb, 3, none⟩ = some (.string z4) ∧ w'.cell? ⟨r, 0, none⟩ = some (.slice la ns lc)) t8 := ⟨(hb.cell (p := ⟨xb, 0, none⟩) (World.block_lt_of_cell? _ _ z01)).trans z01, (hb.cell (p := ⟨xb, 1, none⟩) (World.block_lt_of_cell? _ _ z02)).trans z02, (hb.cell (p := ⟨xb, 2, none⟩) (World.block_lt_of_cell? _ _ z03)).trans z03, (hb.cell (p := ⟨xb, 3, none⟩) (World.block_lt_of_cell? _ _ z04)).trans z04, (hb.cell (p := ⟨yb, 0, none⟩) (World.block_lt_of_cell? _ _ z05)).trans z05, (hb.cell (p := ⟨yb, 1, none⟩) (World.block_lt_of_cell? _ _ z06)).trans z06, (hb.cell (p := ⟨yb, 2, none⟩) (World.block_lt_of_cell? _ _ z07)).trans z07, (hb.cell (p := ⟨yb, 3, none⟩) (World.block_lt_of_cell? _ _ z08)).trans z08, (hb.cell (p := ⟨r, 0, none⟩) (World.block_lt_of_cell? _ _ z09)).trans z09⟩
              have HL := Lib.hid (HL.out.below hb)
              have HR := Lib.hid (HR.out.below hb)
              have HB := Lib.hid (HB.out.trans (hb.mono HB.out.size))
              clear hb z01 z02 z03 z04 z05 z06 z07 z08 z09
              refine hK'.out _ _ ?_ (fun hSn => ?_)
              · exact hS2
              clear hK' K' hS
              have hS := hSn
              clear hSn hS2
              try simp only [Act.put, pu]
              refine tkY 12 (.bool false) rfl hS ?_ ?_
              · intro wz hz
                have hne := HNE.out
                simp only [Bool.not_true] at hne
                go_simp
                all_goals first | with_reducible rfl | omega
              try simp only [Act.put, pu]
              refine tkY 13 (.bool false) rfl hS ?_ ?_
              · intro wz hz
                go_simp
                all_goals first | with_reducible rfl | omega
              try simp only [Act.put, pu]
              refine tkY 14 (.bool false) rfl hS ?_ ?_
              · intro wz hz
                go_simp
                all_goals first | with_reducible rfl | omega
              try simp only [Act.put, pu]
              refine tkY 15 ?_ rfl hS ?_ ?_
              rotate_left
              · intro wz hz
                go_simp
                all_goals first | with_reducible rfl | omega
              try simp only [Act.put, pu]
              refine tkY 16 ?_ rfl hS ?_ ?_
              rotate_left
              · intro wz hz
                go_simp
                all_goals first | with_reducible rfl | omega
              try simp only [Act.put, pu]
              refine tkY 17 (.bool false) rfl hS ?_ ?_
              · intro wz hz
                go_simp
                all_goals first | with_reducible rfl | omega
              try simp only [Act.put, pu]
              refine tkY 18 (.bool false) rfl hS ?_ ?_
              · intro wz hz
                go_simp
                all_goals first | with_reducible rfl | omega
              try simp only [Act.put, pu]
              refine tkY 19 (.bool false) rfl hS ?_ ?_
              · intro wz hz
                go_simp
                all_goals first | with_reducible rfl | omega
              try simp only [Act.put, pu]
              refine tkY 20 ?_ rfl hS ?_ ?_
              rotate_left
              · intro wz hz
                go_simp
                all_goals first | with_reducible rfl | omega
              try simp only [Act.put, pu]
              refine tkY 22 ?_ rfl hS ?_ ?_
              rotate_left
              · intro wz hz
                go_simp
                all_goals first | with_reducible rfl | omega
              try simp only [Act.put, pu]
              refine tkY 23 ?_ rfl hS ?_ ?_
              rotate_left
              · intro wz hz
                go_simp
                all_goals first | with_reducible rfl | omega
              try simp only [Act.put, pu]
              refine tkY 24 ?_ rfl hS ?_ ?_
              rotate_left
              · intro wz hz
                go_simp
                all_goals first | with_reducible rfl | omega
              try simp only [Act.put, pu]
              refine tkY 25 ?_ rfl hS ?_ ?_
              rotate_left
              · intro wz hz
                obtain ⟨z01, z02, z03, z04, z05, z06, z07, z08, z09⟩ := hz
                go_simp
                all_goals first | with_reducible rfl | omega
              try simp only [Act.put, pu]
              refine tkY 26 ?_ rfl hS ?_ ?_
              rotate_left
              · intro wz hz
                go_simp
                all_goals first | with_reducible rfl | omega
              try simp only [Act.put, pu]
              refine wpAnyH_ready (rs := [21]) (by kernel_rfl) (by simp) (AllReadyH.cons rfl (fun K' hK' => ?_) AllReadyH.nil)
              go_simp
              refine (lb_open HL.out).mono ?_
              rintro e t9 ⟨rfl, rfl⟩
              try rw [HNS.out]
              have hS2 := id hS
              refine hK'.out _ _ ?_ (fun hSn => ?_)
              · exact hS2
              clear hK' K' hS
              have hS := hSn
              clear hSn hS2
              try simp only [Act.put, pu]
              refine tkY 27 (.bool false) rfl hS ?_ ?_
              · intro wz hz
                go_simp
                all_goals first | with_reducible rfl | omega
              try simp only [Act.put, pu]
              refine tkY 28 (.bool false) rfl hS ?_ ?_
              · intro wz hz
                go_simp
                all_goals first | with_reducible rfl | omega
              try simp only [Act.put, pu]
              refine wpAnyH_done (by kernel_rfl) ?_ _
              clear hS
              go_wp2
              go_roundg gk1
              case measure => exact Nat.lt_succ_self _
              case rel => exact ⟨i1, a, N, S1, rfl, rfl, HI1.out.1, by have := HI1.out; omega, by have := HI1.out; have := HTK.out; omega, HL.out, HR.out, HB.out⟩
          · by_cases k2 : kd = 2
            · subst k2
              as_aux_lemma =>
                have y0 : W7.cell? ⟨ob, 0, none⟩ = some (.int .i64 2) := HOP.out.cell 0
                have y1 : W7.cell? ⟨ob, 1, none⟩ = some (.string o1) := HOP.out.cell 1
                have y2 : W7.cell? ⟨ob, 2, none⟩ = some (.string o2) := HOP.out.cell 2
                have y3 : W7.cell? ⟨ob, 3, none⟩ = some (.int .i64 o3) := HOP.out.cell 3
                have y4 : W7.cell? ⟨ob, 4, none⟩ = some (.string o4) := HOP.out.cell 4
                have y5 : W7.cell? ⟨ob, 5, none⟩ = some (.int .i64 c) := HOP.out.cell 5
                go_wp2_with fail
                try rw [hW7]
                try rw [hob]
                refine (HSH.out _).mono ?_
                rintro e w3 ⟨rfl, hb⟩
                have HOP := Lib.hid ((Kf.below hb).bk (show Bk _ ob 32 _ from HOP.out))
                have HL := Lib.hid (HL.out.below hb)
                have HR := Lib.hid (HR.out.below hb)
                have HB := Lib.hid (HB.out.trans (hb.mono HB.out.size))
                clear hb hW7 hob HSH
                clear x0 x1 x2 x3 x4 x5
                clear y0 y1 y2 y3 y4 y5
                obtain ⟨S1, dd, yy, has⟩ : ∃ x y z, leaveS S c = (x, y, z) := ⟨_, _, _, rfl⟩
                have HAS := Lib.hid has
                have htk := tot_leave S c
                have hsm := leave_small HSM.out c
                rw [has] at htk hsm
                have HTK : Hid (tot S1 ≤ tot S) := Lib.hid htk
                have HDD : Hid (dd.length ≤ 1000000) := Lib.hid hsm
                clear has htk hsm
                have HC := Lib.hid (lb_leave HL.out (by have := HI1.out; omega) c HC9.out)
                rw [HAS.out] at HC
                have y0 : w3.cell? ⟨ob, 0, none⟩ = some (.int .i64 2) := HOP.out.cell 0
                have y1 : w3.cell? ⟨ob, 1, none⟩ = some (.string o1) := HOP.out.cell 1
                have y2 : w3.cell? ⟨ob, 2, none⟩ = some (.string o2) := HOP.out.cell 2
                have y3 : w3.cell? ⟨ob, 3, none⟩ = some (.int .i64 o3) := HOP.out.cell 3
                have y4 : w3.cell? ⟨ob, 4, none⟩ = some (.string o4) := HOP.out.cell 4
                have y5 : w3.cell? ⟨ob, 5, none⟩ = some (.int .i64 c) := HOP.out.cell 5
                go_wp2_with fail
                refine HC.out.mono ?_
                clear HC
                clear y0 y1 y2 y3 y4 y5
                rintro e v1 ⟨ra, rfl, hia, hs⟩
                have HOP := Lib.hid (hs.kf.bk (show Bk _ ob 32 _ from HOP.out))
                have HL := Lib.hid hs.lb
                have HR := Lib.hid (HR.out.kf hs.kf)
                have HB := Lib.hid (HB.out.trans hs.bel)
                have HIA := Lib.hid (show IS v1 ra dd from hia)
                clear hs hia
                have HSM9 := Lib.hid (HL.out.sm (by have := HI1.out; have := HTK.out; omega))
                have HC := Lib.hid (rleave_all HR.out HSM.out c)
                rw [HAS.out] at HC
                have y0 : v1.cell? ⟨ob, 0, none⟩ = some (.int .i64 2) := HOP.out.cell 0
                have y1 : v1.cell? ⟨ob, 1, none⟩ = some (.string o1) := HOP.out.cell 1
                have y2 : v1.cell? ⟨ob, 2, none⟩ = some (.string o2) := HOP.out.cell 2
                have y3 : v1.cell? ⟨ob, 3, none⟩ = some (.int .i64 o3) := HOP.out.cell 3
                have y4 : v1.cell? ⟨ob, 4, none⟩ = some (.string o4) := HOP.out.cell 4
                have y5 : v1.cell? ⟨ob, 5, none⟩ = some (.int .i64 c) := HOP.out.cell 5
                go_wp2_with fail
                refine HC.out.mono ?_
                clear HC
                clear y0 y1 y2 y3 y4 y5
                rintro e v3 ⟨rb, rfl, hib, hs, hki⟩
                have HOP := Lib.hid (hs.kr.bk (show Bk _ ob 32 _ from HOP.out))
                have HL := Lib.hid (HL.out.kr hs.kr)
                have HR := Lib.hid hs.rb
                have HB := Lib.hid (HB.out.trans hs.bel)
                have HIA := Lib.hid (HIA.out.ki hki)
                have HIB := Lib.hid (show IS v3 rb dd from hib)
                clear hs hib hki
                have HC := Lib.hid (ints_any v3 ra rb dd dd HIA.out HIB.out HDD.out)
                rw [decide_eq_true rfl] at HC
                obtain ⟨aa, ac, hra⟩ := HIA.out.form
                obtain ⟨ba, bc, hrb⟩ := HIB.out.form
                subst hra hrb
                go_wp2_with fail
                refine HC.out.mono ?_
                clear HC
                rintro e v4 ⟨rfl, hb⟩
                have HOP := Lib.hid ((Kf.below hb).bk (show Bk _ ob 32 _ from HOP.out))
                have HL := Lib.hid (HL.out.below hb)
                have HR := Lib.hid (HR.out.below hb)
                have HB := Lib.hid (HB.out.trans (hb.mono HB.out.size))
                clear hb
                obtain ⟨hd, bo, hlds⟩ : ∃ x y, leadS S1 (o1, o2, o3, o4) = (x, y) := ⟨_, _, rfl⟩
                obtain ⟨zk, bw, hws⟩ : ∃ x y, waitS S1 c = (x, y) := ⟨_, _, rfl⟩
                obtain ⟨z1, z2, z3, z4⟩ := zk
                have HLDS := Lib.hid hlds
                have HWS := Lib.hid hws
                clear hlds hws
                have HC := Lib.hid (lb_lead HL.out (o1, o2, o3, o4) HFI.out)
                rw [HLDS.out] at HC
                have y0 : v4.cell? ⟨ob, 0, none⟩ = some (.int .i64 2) := HOP.out.cell 0
                have y1 : v4.cell? ⟨ob, 1, none⟩ = some (.string o1) := HOP.out.cell 1
                have y2 : v4.cell? ⟨ob, 2, none⟩ = some (.string o2) := HOP.out.cell 2
                have y3 : v4.cell? ⟨ob, 3, none⟩ = some (.int .i64 o3) := HOP.out.cell 3
                have y4 : v4.cell? ⟨ob, 4, none⟩ = some (.string o4) := HOP.out.cell 4
                have y5 : v4.cell? ⟨ob, 5, none⟩ = some (.int .i64 c) := HOP.out.cell 5
                go_wp2_with fail
                refine HC.out.mono ?_
                clear HC
                clear y0 y1 y2 y3 y4 y5
                rintro e t1 ⟨rfl, hb⟩
                have HOP := Lib.hid ((Kf.below hb).bk (show Bk _ ob 32 _ from HOP.out))
                have HL := Lib.hid (HL.out.below hb)
                have HR := Lib.hid (HR.out.below hb)
                have HB := Lib.hid (HB.out.trans (hb.mono HB.out.size))
                clear hb
                have HC := Lib.hid (plain_any (o1, o2, o3, o4) t1)
                have y0 : t1.cell? ⟨ob, 0, none⟩ = some (.int .i64 2) := HOP.out.cell 0
                have y1 : t1.cell? ⟨ob, 1, none⟩ = some (.string o1) := HOP.out.cell 1
                have y2 : t1.cell? ⟨ob, 2, none⟩ = some (.string o2) := HOP.out.cell 2
                have y3 : t1.cell? ⟨ob, 3, none⟩ = some (.int .i64 o3) := HOP.out.cell 3
                have y4 : t1.cell? ⟨ob, 4, none⟩ = some (.string o4) := HOP.out.cell 4
                have y5 : t1.cell? ⟨ob, 5, none⟩ = some (.int .i64 c) := HOP.out.cell 5
                go_wp2_with fail
                refine HC.out.mono ?_
                clear HC
                clear y0 y1 y2 y3 y4 y5
                rintro e t2 ⟨rfl, hb⟩
                have HOP := Lib.hid ((Kf.below hb).bk (show Bk _ ob 32 _ from HOP.out))
                have HL := Lib.hid (HL.out.below hb)
                have HR := Lib.hid (HR.out.below hb)
                have HB := Lib.hid (HB.out.trans (hb.mono HB.out.size))
                clear hb
                have HC := Lib.hid (rlead_all HR.out HSM9.out (o1, o2, o3, o4))
                rw [HLDS.out] at HC
                have y0 : t2.cell? ⟨ob, 0, none⟩ = some (.int .i64 2) := HOP.out.cell 0
                have y1 : t2.cell? ⟨ob, 1, none⟩ = some (.string o1) := HOP.out.cell 1
                have y2 : t2.cell? ⟨ob, 2, none⟩ = some (.string o2) := HOP.out.cell 2
                have y3 : t2.cell? ⟨ob, 3, none⟩ = some (.int .i64 o3) := HOP.out.cell 3
                have y4 : t2.cell? ⟨ob, 4, none⟩ = some (.string o4) := HOP.out.cell 4
                have y5 : t2.cell? ⟨ob, 5, none⟩ = some (.int .i64 c) := HOP.out.cell 5
                go_wp2_with fail
                refine HC.out.mono ?_
                clear HC
                clear y0 y1 y2 y3 y4 y5
                rintro e t3 ⟨rfl, hb⟩
                have HOP := Lib.hid ((Kf.below hb).bk (show Bk _ ob 32 _ from HOP.out))
                have HL := Lib.hid (HL.out.below hb)
                have HR := Lib.hid (HR.out.below hb)
                have HB := Lib.hid (HB.out.trans (hb.mono HB.out.size))
                clear hb
                have HC := Lib.hid (lb_waits HL.out c HC9.out)
                rw [HWS.out] at HC
                have y0 : t3.cell? ⟨ob, 0, none⟩ = some (.int .i64 2) := HOP.out.cell 0
                have y1 : t3.cell? ⟨ob, 1, none⟩ = some (.string o1) := HOP.out.cell 1
                have y2 : t3.cell? ⟨ob, 2, none⟩ = some (.string o2) := HOP.out.cell 2
                have y3 : t3.cell? ⟨ob, 3, none⟩ = some (.int .i64 o3) := HOP.out.cell 3
                have y4 : t3.cell? ⟨ob, 4, none⟩ = some (.string o4) := HOP.out.cell 4
                have y5 : t3.cell? ⟨ob, 5, none⟩ = some (.int .i64 c) := HOP.out.cell 5
                go_wp2_with fail
                refine HC.out.mono ?_
                clear HC
                clear y0 y1 y2 y3 y4 y5
                rintro e t4 ⟨rfl, hb⟩
                have HOP := Lib.hid ((Kf.below hb).bk (show Bk _ ob 32 _ from HOP.out))
                have HL := Lib.hid (HL.out.below hb)
                have HR := Lib.hid (HR.out.below hb)
                have HB := Lib.hid (HB.out.trans (hb.mono HB.out.size))
                clear hb
                obtain ⟨T5, hT5⟩ : ∃ W, t4.alloc (.cells #[.string z1, .string z2, .int .i64 z3, .string z4] 30) = W := ⟨_, rfl⟩
                obtain ⟨xb, hxb⟩ : ∃ b, t4.heap.size = b := ⟨_, rfl⟩
                have hb : Below t4.heap.size t4 T5 := by rw [← hT5]; exact (Below.refl _ _).alloc (Nat.le_refl _) _
                have HXB := Lib.hid (show Bk T5 xb 30 #[.string z1, .string z2, .int .i64 z3, .string z4] by rw [← hT5, ← hxb]; exact Bk.new _ _ _)
                have HOP := Lib.hid ((Kf.below hb).bk (show Bk _ ob 32 _ from HOP.out))
                have HL := Lib.hid (HL.out.below hb)
                have HR := Lib.hid (HR.out.below hb)
                have HB := Lib.hid (HB.out.trans (hb.mono HB.out.size))
                clear hb
                have HC := Lib.hid (rwaits_all HR.out HSM9.out c)
                rw [HWS.out] at HC
                have y0 : T5.cell? ⟨ob, 0, none⟩ = some (.int .i64 2) := HOP.out.cell 0
                have y1 : T5.cell? ⟨ob, 1, none⟩ = some (.string o1) := HOP.out.cell 1
                have y2 : T5.cell? ⟨ob, 2, none⟩ = some (.string o2) := HOP.out.cell 2
                have y3 : T5.cell? ⟨ob, 3, none⟩ = some (.int .i64 o3) := HOP.out.cell 3
                have y4 : T5.cell? ⟨ob, 4, none⟩ = some (.string o4) := HOP.out.cell 4
                have y5 : T5.cell? ⟨ob, 5, none⟩ = some (.int .i64 c) := HOP.out.cell 5
                go_wp2_with fail
                try rw [hT5]
                try rw [hxb]
                refine HC.out.mono ?_
                clear HC hT5 hxb
                clear y0 y1 y2 y3 y4 y5
                rintro e t6 ⟨rfl, hb⟩
                have HXB := Lib.hid ((Kf.below hb).bk HXB.out)
                have HOP := Lib.hid ((Kf.below hb).bk (show Bk _ ob 32 _ from HOP.out))
                have HL := Lib.hid (HL.out.below hb)
                have HR := Lib.hid (HR.out.below hb)
                have HB := Lib.hid (HB.out.trans (hb.mono HB.out.size))
                clear hb
                obtain ⟨T7, hT7⟩ : ∃ W, t6.alloc (.cells #[.string z1, .string z2, .int .i64 z3, .string z4] 38) = W := ⟨_, rfl⟩
                obtain ⟨yb, hyb⟩ : ∃ b, t6.heap.size = b := ⟨_, rfl⟩
                have hb : Below t6.heap.size t6 T7 := by rw [← hT7]; exact (Below.refl _ _).alloc (Nat.le_refl _) _
                have HYB := Lib.hid (show Bk T7 yb 38 #[.string z1, .string z2, .int .i64 z3, .string z4] by rw [← hT7, ← hyb]; exact Bk.new _ _ _)
                have HXB := Lib.hid ((Kf.below hb).bk HXB.out)
                have HOP := Lib.hid ((Kf.below hb).bk (show Bk _ ob 32 _ from HOP.out))
                have HL := Lib.hid (HL.out.below hb)
                have HR := Lib.hid (HR.out.below hb)
                have HB := Lib.hid (HB.out.trans (hb.mono HB.out.size))
                clear hb
                obtain ⟨la, lc, hlen⟩ := HR.out.len
                have q0 : T7.cell? ⟨xb, 0, none⟩ = some (.string z1) := HXB.out.cell 0
                have q1 : T7.cell? ⟨xb, 1, none⟩ = some (.string z2) := HXB.out.cell 1
                have q2 : T7.cell? ⟨xb, 2, none⟩ = some (.int .i64 z3) := HXB.out.cell 2
                have q3 : T7.cell? ⟨xb, 3, none⟩ = some (.string z4) := HXB.out.cell 3
                have p0 : T7.cell? ⟨yb, 0, none⟩ = some (.string z1) := HYB.out.cell 0
                have p1 : T7.cell? ⟨yb, 1, none⟩ = some (.string z2) := HYB.out.cell 1
                have p2 : T7.cell? ⟨yb, 2, none⟩ = some (.int .i64 z3) := HYB.out.cell 2
                have p3 : T7.cell? ⟨yb, 3, none⟩ = some (.string z4) := HYB.out.cell 3
                have HNE := Lib.hid (fun W => neq_rk (z1, z2, z3, z4) (z1, z2, z3, z4) W)
                rw [eqK_iff.2 rfl] at HNE
                obtain ⟨ns, hns⟩ : ∃ n, (S1).length = n := ⟨_, rfl⟩
                rw [hns] at hlen
                have HNS := Lib.hid hns
                clear hns
                go_wp2_with fail
                try rw [hT7]
                try rw [hyb]
                clear hT7 hyb
                refine wp_region_held_drew (S := (fun w' => w'.cell? ⟨xb, 0, none⟩ = some (.string z1) ∧ w'.cell? ⟨xb, 1, none⟩ = some (.string z2) ∧ w'.cell? ⟨xb, 2, none⟩ = some (.int .i64 z3) ∧ w'.cell? ⟨xb, 3, none⟩ = some (.string z4) ∧ w'.cell? ⟨yb, 0, none⟩ = some (.string z1) ∧ w'.cell? ⟨yb, 1, none⟩ = some (.string z2) ∧ w'.cell? ⟨yb, 2, none⟩ = some (.int .i64 z3) ∧ w'.cell? ⟨yb, 3, none⟩ = some (.string z4) ∧ w'.cell? ⟨r, 0, none⟩ = some (.slice la ns lc))) (by kernel_rfl) ?_ (fun hS => ?_)
                · exact ⟨q0, q1, q2, q3, p0, p1, p2, p3, hlen⟩
                have hbd : Below T7.heap.size T7 T7.drew := (Below.refl _ _).drew
                have HL := Lib.hid (HL.out.below hbd)
                have HR := Lib.hid (HR.out.below hbd)
                have HB := Lib.hid (HB.out.trans (hbd.mono HB.out.size))
                clear hbd q0 q1 q2 q3 p0 p1 p2 p3 hlen
                refine tkY 0 ?_ rfl hS ?_ ?_
                rotate_left
                · intro wz hz
                  go_simp
                  all_goals first | with_reducible rfl | omega
                try simp only [Act.put, pu]
                refine tkY 1 ?_ rfl hS ?_ ?_
                rotate_left
                · intro wz hz
                  go_simp
                  all_goals first | with_reducible rfl | omega
                try simp only [Act.put, pu]
                refine tkY 2 (.bool false) rfl hS ?_ ?_
                · intro wz hz
                  go_simp
                  all_goals first | with_reducible rfl | omega
                try simp only [Act.put, pu]
                refine tkY 3 (.bool false) rfl hS ?_ ?_
                · intro wz hz
                  go_simp
                  all_goals first | with_reducible rfl | omega
                try simp only [Act.put, pu]
                refine tkY 4 ?_ rfl hS ?_ ?_
                rotate_left
                · intro wz hz
                  go_simp
                  all_goals first | with_reducible rfl | omega
                try simp only [Act.put, pu]
                refine tkY 5 ?_ rfl hS ?_ ?_
                rotate_left
                · intro wz hz
                  go_simp
                  all_goals first | with_reducible rfl | omega
                try simp only [Act.put, pu]
                refine tkY 6 (.bool false) rfl hS ?_ ?_
                · intro wz hz
                  go_simp
                  all_goals first | with_reducible rfl | omega
                try simp only [Act.put, pu]
                refine tkY 7 (.bool false) rfl hS ?_ ?_
                · intro wz hz
                  go_simp
                  all_goals first | with_reducible rfl | omega
                try simp only [Act.put, pu]
                refine tkY 8 (.bool false) rfl hS ?_ ?_
                · intro wz hz
                  go_simp
                  all_goals first | with_reducible rfl | omega
                try simp only [Act.put, pu]
                refine tkY 9 ?_ rfl hS ?_ ?_
                rotate_left
                · intro wz hz
                  obtain ⟨z01, z02, z03, z04, z05, z06, z07, z08, z09⟩ := hz
                  go_simp
                  all_goals first | with_reducible rfl | omega
                try simp only [Act.put, pu]
                refine tkY 11 ?_ rfl hS ?_ ?_
                rotate_left
                · intro wz hz
                  obtain ⟨z01, z02, z03, z04, z05, z06, z07, z08, z09⟩ := hz
                  go_simp
                  all_goals first | with_reducible rfl | omega
                try simp only [Act.put, pu]
                refine wpAnyH_ready (rs := [10]) (by kernel_rfl) (by simp) (AllReadyH.cons rfl (fun K' hK' => ?_) AllReadyH.nil)
                go_simp
                refine (plain_any (z1, z2, z3, z4) _).mono ?_
                rintro e t8 ⟨rfl, hb⟩
                obtain ⟨z01, z02, z03, z04, z05, z06, z07, z08, z09⟩ := id hS
                have hS2 : (fun w' => w'.cell? ⟨xb, 0, none⟩ = some (.string z1) ∧ w'.cell? ⟨xb, 1, none⟩ = some (.string z2) ∧ w'.cell? ⟨xb, 2, none⟩ = some (.int .i64 z3) ∧ w'.cell? ⟨xb, 3, none⟩ = some (.string z4) ∧ w'.cell? ⟨yb, 0, none⟩ = some (.string z1) ∧ w'.cell? ⟨yb, 1, none⟩ = some (.string z2) ∧ w'.cell? ⟨yb, 2, none⟩ = some (.int .i64 z3) ∧ w'.cell? ⟨yb, 3, none⟩ = some (.string z4) ∧ w'.cell? ⟨r, 0, none⟩ = some (.slice la ns lc)) t8 := ⟨(hb.cell (p := ⟨xb, 0, none⟩) (World.block_lt_of_cell? _ _ z01)).trans z01, (hb.cell (p := ⟨xb, 1, none⟩) (World.block_lt_of_cell? _ _ z02)).trans z02, (hb.cell (p := ⟨xb, 2, none⟩) (World.block_lt_of_cell? _ _ z03)).trans z03, (hb.cell (p := ⟨xb, 3, none⟩) (World.block_lt_of_cell? _ _ z04)).trans z04, (hb.cell (p := ⟨yb, 0, none⟩) (World.block_lt_of_cell? _ _ z05)).trans z05, (hb.cell (p := ⟨yb, 1, none⟩) (World.block_lt_of_cell? _ _ z06)).trans z06, (hb.cell (p := ⟨yb, 2, none⟩) (World.block_lt_of_cell? _ _ z07)).trans z07, (hb.cell (p := ⟨yb, 3, none⟩) (World.block_lt_of_cell? _ _ z08)).trans z08, (hb.cell (p := ⟨r, 0, none⟩) (World.block_lt_of_cell? _ _ z09)).trans z09⟩
                have HL := Lib.hid (HL.out.below hb)
                have HR := Lib.hid (HR.out.below hb)
                have HB := Lib.hid (HB.out.trans (hb.mono HB.out.size))
                clear hb z01 z02 z03 z04 z05 z06 z07 z08 z09
                refine hK'.out _ _ ?_ (fun hSn => ?_)
                · exact hS2
                clear hK' K' hS
                have hS := hSn
                clear hSn hS2
                try simp only [Act.put, pu]
                refine tkY 12 (.bool false) rfl hS ?_ ?_
                · intro wz hz
                  have hne := HNE.out
                  simp only [Bool.not_true] at hne
                  go_simp
                  all_goals first | with_reducible rfl | omega
                try simp only [Act.put, pu]
                refine tkY 13 (.bool false) rfl hS ?_ ?_
                · intro wz hz
                  go_simp
                  all_goals first | with_reducible rfl | omega
                try simp only [Act.put, pu]
                refine tkY 14 (.bool false) rfl hS ?_ ?_
                · intro wz hz
                  go_simp
                  all_goals first | with_reducible rfl | omega
                try simp only [Act.put, pu]
                refine tkY 15 ?_ rfl hS ?_ ?_
                rotate_left
                · intro wz hz
                  go_simp
                  all_goals first | with_reducible rfl | omega
                try simp only [Act.put, pu]
                refine tkY 16 ?_ rfl hS ?_ ?_
                rotate_left
                · intro wz hz
                  go_simp
                  all_goals first | with_reducible rfl | omega
                try simp only [Act.put, pu]
                refine tkY 17 (.bool false) rfl hS ?_ ?_
                · intro wz hz
                  go_simp
                  all_goals first | with_reducible rfl | omega
                try simp only [Act.put, pu]
                refine tkY 18 (.bool false) rfl hS ?_ ?_
                · intro wz hz
                  go_simp
                  all_goals first | with_reducible rfl | omega
                try simp only [Act.put, pu]
                refine tkY 19 (.bool false) rfl hS ?_ ?_
                · intro wz hz
                  go_simp
                  all_goals first | with_reducible rfl | omega
                try simp only [Act.put, pu]
                refine tkY 20 ?_ rfl hS ?_ ?_
                rotate_left
                · intro wz hz
                  go_simp
                  all_goals first | with_reducible rfl | omega
                try simp only [Act.put, pu]
                refine tkY 22 ?_ rfl hS ?_ ?_
                rotate_left
                · intro wz hz
                  go_simp
                  all_goals first | with_reducible rfl | omega
                try simp only [Act.put, pu]
                refine tkY 23 ?_ rfl hS ?_ ?_
                rotate_left
                · intro wz hz
                  go_simp
                  all_goals first | with_reducible rfl | omega
                try simp only [Act.put, pu]
                refine tkY 24 ?_ rfl hS ?_ ?_
                rotate_left
                · intro wz hz
                  go_simp
                  all_goals first | with_reducible rfl | omega
                try simp only [Act.put, pu]
                refine tkY 25 ?_ rfl hS ?_ ?_
                rotate_left
                · intro wz hz
                  obtain ⟨z01, z02, z03, z04, z05, z06, z07, z08, z09⟩ := hz
                  go_simp
                  all_goals first | with_reducible rfl | omega
                try simp only [Act.put, pu]
                refine tkY 26 ?_ rfl hS ?_ ?_
                rotate_left
                · intro wz hz
                  go_simp
                  all_goals first | with_reducible rfl | omega
                try simp only [Act.put, pu]
                refine wpAnyH_ready (rs := [21]) (by kernel_rfl) (by simp) (AllReadyH.cons rfl (fun K' hK' => ?_) AllReadyH.nil)
                go_simp
                refine (lb_open HL.out).mono ?_
                rintro e t9 ⟨rfl, rfl⟩
                try rw [HNS.out]
                have hS2 := id hS
                refine hK'.out _ _ ?_ (fun hSn => ?_)
                · exact hS2
                clear hK' K' hS
                have hS := hSn
                clear hSn hS2
                try simp only [Act.put, pu]
                refine tkY 27 (.bool false) rfl hS ?_ ?_
                · intro wz hz
                  go_simp
                  all_goals first | with_reducible rfl | omega
                try simp only [Act.put, pu]
                refine tkY 28 (.bool false) rfl hS ?_ ?_
                · intro wz hz
                  go_simp
                  all_goals first | with_reducible rfl | omega
                try simp only [Act.put, pu]
                refine wpAnyH_done (by kernel_rfl) ?_ _
                clear hS
                go_wp2
                go_roundg gk1
                case measure => exact Nat.lt_succ_self _
                case rel => exact ⟨i1, a, N, S1, rfl, rfl, HI1.out.1, by have := HI1.out; omega, by have := HI1.out; have := HTK.out; omega, HL.out, HR.out, HB.out⟩
            · as_aux_lemma =>
                have y0 : W7.cell? ⟨ob, 0, none⟩ = some (.int .i64 kd) := HOP.out.cell 0
                have y1 : W7.cell? ⟨ob, 1, none⟩ = some (.string o1) := HOP.out.cell 1
                have y2 : W7.cell? ⟨ob, 2, none⟩ = some (.string o2) := HOP.out.cell 2
                have y3 : W7.cell? ⟨ob, 3, none⟩ = some (.int .i64 o3) := HOP.out.cell 3
                have y4 : W7.cell? ⟨ob, 4, none⟩ = some (.string o4) := HOP.out.cell 4
                have y5 : W7.cell? ⟨ob, 5, none⟩ = some (.int .i64 c) := HOP.out.cell 5
                go_wp2_with fail
                try rw [hW7]
                try rw [hob]
                refine (HSH.out _).mono ?_
                rintro e w3 ⟨rfl, hb⟩
                have HOP := Lib.hid ((Kf.below hb).bk (show Bk _ ob 32 _ from HOP.out))
                have HL := Lib.hid (HL.out.below hb)
                have HR := Lib.hid (HR.out.below hb)
                have HB := Lib.hid (HB.out.trans (hb.mono HB.out.size))
                clear hb hW7 hob HSH
                clear x0 x1 x2 x3 x4 x5
                clear y0 y1 y2 y3 y4 y5
                have HC := Lib.hid (l2_copy HL.out (by have := HI1.out; omega) (by have := HI1.out; omega))
                have y0 : w3.cell? ⟨ob, 0, none⟩ = some (.int .i64 kd) := HOP.out.cell 0
                have y1 : w3.cell? ⟨ob, 1, none⟩ = some (.string o1) := HOP.out.cell 1
                have y2 : w3.cell? ⟨ob, 2, none⟩ = some (.string o2) := HOP.out.cell 2
                have y3 : w3.cell? ⟨ob, 3, none⟩ = some (.int .i64 o3) := HOP.out.cell 3
                have y4 : w3.cell? ⟨ob, 4, none⟩ = some (.string o4) := HOP.out.cell 4
                have y5 : w3.cell? ⟨ob, 5, none⟩ = some (.int .i64 c) := HOP.out.cell 5
                go_wp2_with fail
                refine HC.out.mono ?_
                clear HC
                clear y0 y1 y2 y3 y4 y5
                rintro e v1 ⟨a2, rfl, h2, hbel, hkf⟩
                have HOP := Lib.hid (hkf.bk (show Bk _ ob 32 _ from HOP.out))
                have HR := Lib.hid (HR.out.kf hkf)
                have HB := Lib.hid (HB.out.trans hbel)
                have H2 := Lib.hid h2
                clear h2 hbel hkf
                have HC := Lib.hid (l2_ask H2.out (by have := HI1.out; omega) (o1, o2, o3, o4) HFI.out c HC9.out)
                have y0 : v1.cell? ⟨ob, 0, none⟩ = some (.int .i64 kd) := HOP.out.cell 0
                have y1 : v1.cell? ⟨ob, 1, none⟩ = some (.string o1) := HOP.out.cell 1
                have y2 : v1.cell? ⟨ob, 2, none⟩ = some (.string o2) := HOP.out.cell 2
                have y3 : v1.cell? ⟨ob, 3, none⟩ = some (.int .i64 o3) := HOP.out.cell 3
                have y4 : v1.cell? ⟨ob, 4, none⟩ = some (.string o4) := HOP.out.cell 4
                have y5 : v1.cell? ⟨ob, 5, none⟩ = some (.int .i64 c) := HOP.out.cell 5
                go_wp2_with fail
                refine HC.out.mono ?_
                clear HC
                clear y0 y1 y2 y3 y4 y5
                rintro e v2 ⟨q1, q2, rfl, h2, hbel, hkf⟩
                have HOP := Lib.hid (hkf.bk (show Bk _ ob 32 _ from HOP.out))
                have HR := Lib.hid (HR.out.kf hkf)
                have HB := Lib.hid (HB.out.trans hbel)
                have H2 := Lib.hid h2
                clear h2 hbel hkf
                have HC := Lib.hid (l2_land H2.out (by have := HI1.out; omega) (o1, o2, o3, o4) HFI.out)
                have y0 : v2.cell? ⟨ob, 0, none⟩ = some (.int .i64 kd) := HOP.out.cell 0
                have y1 : v2.cell? ⟨ob, 1, none⟩ = some (.string o1) := HOP.out.cell 1
                have y2 : v2.cell? ⟨ob, 2, none⟩ = some (.string o2) := HOP.out.cell 2
                have y3 : v2.cell? ⟨ob, 3, none⟩ = some (.int .i64 o3) := HOP.out.cell 3
                have y4 : v2.cell? ⟨ob, 4, none⟩ = some (.string o4) := HOP.out.cell 4
                have y5 : v2.cell? ⟨ob, 5, none⟩ = some (.int .i64 c) := HOP.out.cell 5
                go_wp2_with fail
                refine HC.out.mono ?_
                clear HC
                clear y0 y1 y2 y3 y4 y5
                rintro e v3 ⟨q3, q4, q5, rfl, ⟨S9, h2⟩, hbel, hkf⟩
                have HOP := Lib.hid (hkf.bk (show Bk _ ob 32 _ from HOP.out))
                have HR := Lib.hid (HR.out.kf hkf)
                have HB := Lib.hid (HB.out.trans hbel)
                have H2 := Lib.hid h2
                clear h2 hbel hkf
                have HC := Lib.hid (l2_leave H2.out (by have := HI1.out; omega) c HC9.out)
                have y0 : v3.cell? ⟨ob, 0, none⟩ = some (.int .i64 kd) := HOP.out.cell 0
                have y1 : v3.cell? ⟨ob, 1, none⟩ = some (.string o1) := HOP.out.cell 1
                have y2 : v3.cell? ⟨ob, 2, none⟩ = some (.string o2) := HOP.out.cell 2
                have y3 : v3.cell? ⟨ob, 3, none⟩ = some (.int .i64 o3) := HOP.out.cell 3
                have y4 : v3.cell? ⟨ob, 4, none⟩ = some (.string o4) := HOP.out.cell 4
                have y5 : v3.cell? ⟨ob, 5, none⟩ = some (.int .i64 c) := HOP.out.cell 5
                go_wp2_with fail
                refine HC.out.mono ?_
                clear HC
                clear y0 y1 y2 y3 y4 y5
                rintro e v4 ⟨q6, q7, rfl, h2, hbel, hkf⟩
                have HOP := Lib.hid (hkf.bk (show Bk _ ob 32 _ from HOP.out))
                have HR := Lib.hid (HR.out.kf hkf)
                have HB := Lib.hid (HB.out.trans hbel)
                have HL := Lib.hid h2
                clear h2 hbel hkf H2
                have HSM9 := HSM
                obtain ⟨hd, bo, hlds⟩ : ∃ x y, leadS S (o1, o2, o3, o4) = (x, y) := ⟨_, _, rfl⟩
                obtain ⟨zk, bw, hws⟩ : ∃ x y, waitS S c = (x, y) := ⟨_, _, rfl⟩
                obtain ⟨z1, z2, z3, z4⟩ := zk
                have HLDS := Lib.hid hlds
                have HWS := Lib.hid hws
                clear hlds hws
                have HC := Lib.hid (lb_lead HL.out (o1, o2, o3, o4) HFI.out)
                rw [HLDS.out] at HC
                have y0 : v4.cell? ⟨ob, 0, none⟩ = some (.int .i64 kd) := HOP.out.cell 0
                have y1 : v4.cell? ⟨ob, 1, none⟩ = some (.string o1) := HOP.out.cell 1
                have y2 : v4.cell? ⟨ob, 2, none⟩ = some (.string o2) := HOP.out.cell 2
                have y3 : v4.cell? ⟨ob, 3, none⟩ = some (.int .i64 o3) := HOP.out.cell 3
                have y4 : v4.cell? ⟨ob, 4, none⟩ = some (.string o4) := HOP.out.cell 4
                have y5 : v4.cell? ⟨ob, 5, none⟩ = some (.int .i64 c) := HOP.out.cell 5
                go_wp2_with fail
                refine HC.out.mono ?_
                clear HC
                clear y0 y1 y2 y3 y4 y5
                rintro e t1 ⟨rfl, hb⟩
                have HOP := Lib.hid ((Kf.below hb).bk (show Bk _ ob 32 _ from HOP.out))
                have HL := Lib.hid (HL.out.below hb)
                have HR := Lib.hid (HR.out.below hb)
                have HB := Lib.hid (HB.out.trans (hb.mono HB.out.size))
                clear hb
                have HC := Lib.hid (plain_any (o1, o2, o3, o4) t1)
                have y0 : t1.cell? ⟨ob, 0, none⟩ = some (.int .i64 kd) := HOP.out.cell 0
                have y1 : t1.cell? ⟨ob, 1, none⟩ = some (.string o1) := HOP.out.cell 1
                have y2 : t1.cell? ⟨ob, 2, none⟩ = some (.string o2) := HOP.out.cell 2
                have y3 : t1.cell? ⟨ob, 3, none⟩ = some (.int .i64 o3) := HOP.out.cell 3
                have y4 : t1.cell? ⟨ob, 4, none⟩ = some (.string o4) := HOP.out.cell 4
                have y5 : t1.cell? ⟨ob, 5, none⟩ = some (.int .i64 c) := HOP.out.cell 5
                go_wp2_with fail
                refine HC.out.mono ?_
                clear HC
                clear y0 y1 y2 y3 y4 y5
                rintro e t2 ⟨rfl, hb⟩
                have HOP := Lib.hid ((Kf.below hb).bk (show Bk _ ob 32 _ from HOP.out))
                have HL := Lib.hid (HL.out.below hb)
                have HR := Lib.hid (HR.out.below hb)
                have HB := Lib.hid (HB.out.trans (hb.mono HB.out.size))
                clear hb
                have HC := Lib.hid (rlead_all HR.out HSM9.out (o1, o2, o3, o4))
                rw [HLDS.out] at HC
                have y0 : t2.cell? ⟨ob, 0, none⟩ = some (.int .i64 kd) := HOP.out.cell 0
                have y1 : t2.cell? ⟨ob, 1, none⟩ = some (.string o1) := HOP.out.cell 1
                have y2 : t2.cell? ⟨ob, 2, none⟩ = some (.string o2) := HOP.out.cell 2
                have y3 : t2.cell? ⟨ob, 3, none⟩ = some (.int .i64 o3) := HOP.out.cell 3
                have y4 : t2.cell? ⟨ob, 4, none⟩ = some (.string o4) := HOP.out.cell 4
                have y5 : t2.cell? ⟨ob, 5, none⟩ = some (.int .i64 c) := HOP.out.cell 5
                go_wp2_with fail
                refine HC.out.mono ?_
                clear HC
                clear y0 y1 y2 y3 y4 y5
                rintro e t3 ⟨rfl, hb⟩
                have HOP := Lib.hid ((Kf.below hb).bk (show Bk _ ob 32 _ from HOP.out))
                have HL := Lib.hid (HL.out.below hb)
                have HR := Lib.hid (HR.out.below hb)
                have HB := Lib.hid (HB.out.trans (hb.mono HB.out.size))
                clear hb
                have HC := Lib.hid (lb_waits HL.out c HC9.out)
                rw [HWS.out] at HC
                have y0 : t3.cell? ⟨ob, 0, none⟩ = some (.int .i64 kd) := HOP.out.cell 0
                have y1 : t3.cell? ⟨ob, 1, none⟩ = some (.string o1) := HOP.out.cell 1
                have y2 : t3.cell? ⟨ob, 2, none⟩ = some (.string o2) := HOP.out.cell 2
                have y3 : t3.cell? ⟨ob, 3, none⟩ = some (.int .i64 o3) := HOP.out.cell 3
                have y4 : t3.cell? ⟨ob, 4, none⟩ = some (.string o4) := HOP.out.cell 4
                have y5 : t3.cell? ⟨ob, 5, none⟩ = some (.int .i64 c) := HOP.out.cell 5
                go_wp2_with fail
                refine HC.out.mono ?_
                clear HC
                clear y0 y1 y2 y3 y4 y5
                rintro e t4 ⟨rfl, hb⟩
                have HOP := Lib.hid ((Kf.below hb).bk (show Bk _ ob 32 _ from HOP.out))
                have HL := Lib.hid (HL.out.below hb)
                have HR := Lib.hid (HR.out.below hb)
                have HB := Lib.hid (HB.out.trans (hb.mono HB.out.size))
                clear hb
                obtain ⟨T5, hT5⟩ : ∃ W, t4.alloc (.cells #[.string z1, .string z2, .int .i64 z3, .string z4] 30) = W := ⟨_, rfl⟩
                obtain ⟨xb, hxb⟩ : ∃ b, t4.heap.size = b := ⟨_, rfl⟩
                have hb : Below t4.heap.size t4 T5 := by rw [← hT5]; exact (Below.refl _ _).alloc (Nat.le_refl _) _
                have HXB := Lib.hid (show Bk T5 xb 30 #[.string z1, .string z2, .int .i64 z3, .string z4] by rw [← hT5, ← hxb]; exact Bk.new _ _ _)
                have HOP := Lib.hid ((Kf.below hb).bk (show Bk _ ob 32 _ from HOP.out))
                have HL := Lib.hid (HL.out.below hb)
                have HR := Lib.hid (HR.out.below hb)
                have HB := Lib.hid (HB.out.trans (hb.mono HB.out.size))
                clear hb
                have HC := Lib.hid (rwaits_all HR.out HSM9.out c)
                rw [HWS.out] at HC
                have y0 : T5.cell? ⟨ob, 0, none⟩ = some (.int .i64 kd) := HOP.out.cell 0
                have y1 : T5.cell? ⟨ob, 1, none⟩ = some (.string o1) := HOP.out.cell 1
                have y2 : T5.cell? ⟨ob, 2, none⟩ = some (.string o2) := HOP.out.cell 2
                have y3 : T5.cell? ⟨ob, 3, none⟩ = some (.int .i64 o3) := HOP.out.cell 3
                have y4 : T5.cell? ⟨ob, 4, none⟩ = some (.string o4) := HOP.out.cell 4
                have y5 : T5.cell? ⟨ob, 5, none⟩ = some (.int .i64 c) := HOP.out.cell 5
                go_wp2_with fail
                try rw [hT5]
                try rw [hxb]
                refine HC.out.mono ?_
                clear HC hT5 hxb
                clear y0 y1 y2 y3 y4 y5
                rintro e t6 ⟨rfl, hb⟩
                have HXB := Lib.hid ((Kf.below hb).bk HXB.out)
                have HOP := Lib.hid ((Kf.below hb).bk (show Bk _ ob 32 _ from HOP.out))
                have HL := Lib.hid (HL.out.below hb)
                have HR := Lib.hid (HR.out.below hb)
                have HB := Lib.hid (HB.out.trans (hb.mono HB.out.size))
                clear hb
                obtain ⟨T7, hT7⟩ : ∃ W, t6.alloc (.cells #[.string z1, .string z2, .int .i64 z3, .string z4] 38) = W := ⟨_, rfl⟩
                obtain ⟨yb, hyb⟩ : ∃ b, t6.heap.size = b := ⟨_, rfl⟩
                have hb : Below t6.heap.size t6 T7 := by rw [← hT7]; exact (Below.refl _ _).alloc (Nat.le_refl _) _
                have HYB := Lib.hid (show Bk T7 yb 38 #[.string z1, .string z2, .int .i64 z3, .string z4] by rw [← hT7, ← hyb]; exact Bk.new _ _ _)
                have HXB := Lib.hid ((Kf.below hb).bk HXB.out)
                have HOP := Lib.hid ((Kf.below hb).bk (show Bk _ ob 32 _ from HOP.out))
                have HL := Lib.hid (HL.out.below hb)
                have HR := Lib.hid (HR.out.below hb)
                have HB := Lib.hid (HB.out.trans (hb.mono HB.out.size))
                clear hb
                obtain ⟨la, lc, hlen⟩ := HR.out.len
                have q0 : T7.cell? ⟨xb, 0, none⟩ = some (.string z1) := HXB.out.cell 0
                have q1 : T7.cell? ⟨xb, 1, none⟩ = some (.string z2) := HXB.out.cell 1
                have q2 : T7.cell? ⟨xb, 2, none⟩ = some (.int .i64 z3) := HXB.out.cell 2
                have q3 : T7.cell? ⟨xb, 3, none⟩ = some (.string z4) := HXB.out.cell 3
                have p0 : T7.cell? ⟨yb, 0, none⟩ = some (.string z1) := HYB.out.cell 0
                have p1 : T7.cell? ⟨yb, 1, none⟩ = some (.string z2) := HYB.out.cell 1
                have p2 : T7.cell? ⟨yb, 2, none⟩ = some (.int .i64 z3) := HYB.out.cell 2
                have p3 : T7.cell? ⟨yb, 3, none⟩ = some (.string z4) := HYB.out.cell 3
                have HNE := Lib.hid (fun W => neq_rk (z1, z2, z3, z4) (z1, z2, z3, z4) W)
                rw [eqK_iff.2 rfl] at HNE
                obtain ⟨ns, hns⟩ : ∃ n, (S).length = n := ⟨_, rfl⟩
                rw [hns] at hlen
                have HNS := Lib.hid hns
                clear hns
                go_wp2_with fail
                try rw [hT7]
                try rw [hyb]
                clear hT7 hyb
                refine wp_region_held_drew (S := (fun w' => w'.cell? ⟨xb, 0, none⟩ = some (.string z1) ∧ w'.cell? ⟨xb, 1, none⟩ = some (.string z2) ∧ w'.cell? ⟨xb, 2, none⟩ = some (.int .i64 z3) ∧ w'.cell? ⟨xb, 3, none⟩ = some (.string z4) ∧ w'.cell? ⟨yb, 0, none⟩ = some (.string z1) ∧ w'.cell? ⟨yb, 1, none⟩ = some (.string z2) ∧ w'.cell? ⟨yb, 2, none⟩ = some (.int .i64 z3) ∧ w'.cell? ⟨yb, 3, none⟩ = some (.string z4) ∧ w'.cell? ⟨r, 0, none⟩ = some (.slice la ns lc))) (by kernel_rfl) ?_ (fun hS => ?_)
                · exact ⟨q0, q1, q2, q3, p0, p1, p2, p3, hlen⟩
                have hbd : Below T7.heap.size T7 T7.drew := (Below.refl _ _).drew
                have HL := Lib.hid (HL.out.below hbd)
                have HR := Lib.hid (HR.out.below hbd)
                have HB := Lib.hid (HB.out.trans (hbd.mono HB.out.size))
                clear hbd q0 q1 q2 q3 p0 p1 p2 p3 hlen
                refine tkY 0 ?_ rfl hS ?_ ?_
                rotate_left
                · intro wz hz
                  go_simp
                  all_goals first | with_reducible rfl | omega
                try simp only [Act.put, pu]
                refine tkY 1 ?_ rfl hS ?_ ?_
                rotate_left
                · intro wz hz
                  go_simp
                  all_goals first | with_reducible rfl | omega
                try simp only [Act.put, pu]
                refine tkY 2 (.bool false) rfl hS ?_ ?_
                · intro wz hz
                  go_simp
                  all_goals first | with_reducible rfl | omega
                try simp only [Act.put, pu]
                refine tkY 3 (.bool false) rfl hS ?_ ?_
                · intro wz hz
                  go_simp
                  all_goals first | with_reducible rfl | omega
                try simp only [Act.put, pu]
                refine tkY 4 ?_ rfl hS ?_ ?_
                rotate_left
                · intro wz hz
                  go_simp
                  all_goals first | with_reducible rfl | omega
                try simp only [Act.put, pu]
                refine tkY 5 ?_ rfl hS ?_ ?_
                rotate_left
                · intro wz hz
                  go_simp
                  all_goals first | with_reducible rfl | omega
                try simp only [Act.put, pu]
                refine tkY 6 (.bool false) rfl hS ?_ ?_
                · intro wz hz
                  go_simp
                  all_goals first | with_reducible rfl | omega
                try simp only [Act.put, pu]
                refine tkY 7 (.bool false) rfl hS ?_ ?_
                · intro wz hz
                  go_simp
                  all_goals first | with_reducible rfl | omega
                try simp only [Act.put, pu]
                refine tkY 8 (.bool false) rfl hS ?_ ?_
                · intro wz hz
                  go_simp
                  all_goals first | with_reducible rfl | omega
                try simp only [Act.put, pu]
                refine tkY 9 ?_ rfl hS ?_ ?_
                rotate_left
                · intro wz hz
                  obtain ⟨z01, z02, z03, z04, z05, z06, z07, z08, z09⟩ := hz
                  go_simp
                  all_goals first | with_reducible rfl | omega
                try simp only [Act.put, pu]
                refine tkY 11 ?_ rfl hS ?_ ?_
                rotate_left
                · intro wz hz
                  obtain ⟨z01, z02, z03, z04, z05, z06, z07, z08, z09⟩ := hz
                  go_simp
                  all_goals first | with_reducible rfl | omega
                try simp only [Act.put, pu]
                refine wpAnyH_ready (rs := [10]) (by kernel_rfl) (by simp) (AllReadyH.cons rfl (fun K' hK' => ?_) AllReadyH.nil)
                go_simp
                refine (plain_any (z1, z2, z3, z4) _).mono ?_
                rintro e t8 ⟨rfl, hb⟩
                obtain ⟨z01, z02, z03, z04, z05, z06, z07, z08, z09⟩ := id hS
                have hS2 : (fun w' => w'.cell? ⟨xb, 0, none⟩ = some (.string z1) ∧ w'.cell? ⟨xb, 1, none⟩ = some (.string z2) ∧ w'.cell? ⟨xb, 2, none⟩ = some (.int .i64 z3) ∧ w'.cell? ⟨xb, 3, none⟩ = some (.string z4) ∧ w'.cell? ⟨yb, 0, none⟩ = some (.string z1) ∧ w'.cell? ⟨yb, 1, none⟩ = some (.string z2) ∧ w'.cell? ⟨yb, 2, none⟩ = some (.int .i64 z3) ∧ w'.cell? ⟨yb, 3, none⟩ = some (.string z4) ∧ w'.cell? ⟨r, 0, none⟩ = some (.slice la ns lc)) t8 := ⟨(hb.cell (p := ⟨xb, 0, none⟩) (World.block_lt_of_cell? _ _ z01)).trans z01, (hb.cell (p := ⟨xb, 1, none⟩) (World.block_lt_of_cell? _ _ z02)).trans z02, (hb.cell (p := ⟨xb, 2, none⟩) (World.block_lt_of_cell? _ _ z03)).trans z03, (hb.cell (p := ⟨xb, 3, none⟩) (World.block_lt_of_cell? _ _ z04)).trans z04, (hb.cell (p := ⟨yb, 0, none⟩) (World.block_lt_of_cell? _ _ z05)).trans z05, (hb.cell (p := ⟨yb, 1, none⟩) (World.block_lt_of_cell? _ _ z06)).trans z06, (hb.cell (p := ⟨yb, 2, none⟩) (World.block_lt_of_cell? _ _ z07)).trans z07, (hb.cell (p := ⟨yb, 3, none⟩) (World.block_lt_of_cell? _ _ z08)).trans z08, (hb.cell (p := ⟨r, 0, none⟩) (World.block_lt_of_cell? _ _ z09)).trans z09⟩
                have HL := Lib.hid (HL.out.below hb)
                have HR := Lib.hid (HR.out.below hb)
                have HB := Lib.hid (HB.out.trans (hb.mono HB.out.size))
                clear hb z01 z02 z03 z04 z05 z06 z07 z08 z09
                refine hK'.out _ _ ?_ (fun hSn => ?_)
                · exact hS2
                clear hK' K' hS
                have hS := hSn
                clear hSn hS2
                try simp only [Act.put, pu]
                refine tkY 12 (.bool false) rfl hS ?_ ?_
                · intro wz hz
                  have hne := HNE.out
                  simp only [Bool.not_true] at hne
                  go_simp
                  all_goals first | with_reducible rfl | omega
                try simp only [Act.put, pu]
                refine tkY 13 (.bool false) rfl hS ?_ ?_
                · intro wz hz
                  go_simp
                  all_goals first | with_reducible rfl | omega
                try simp only [Act.put, pu]
                refine tkY 14 (.bool false) rfl hS ?_ ?_
                · intro wz hz
                  go_simp
                  all_goals first | with_reducible rfl | omega
                try simp only [Act.put, pu]
                refine tkY 15 ?_ rfl hS ?_ ?_
                rotate_left
                · intro wz hz
                  go_simp
                  all_goals first | with_reducible rfl | omega
                try simp only [Act.put, pu]
                refine tkY 16 ?_ rfl hS ?_ ?_
                rotate_left
                · intro wz hz
                  go_simp
                  all_goals first | with_reducible rfl | omega
                try simp only [Act.put, pu]
                refine tkY 17 (.bool false) rfl hS ?_ ?_
                · intro wz hz
                  go_simp
                  all_goals first | with_reducible rfl | omega
                try simp only [Act.put, pu]
                refine tkY 18 (.bool false) rfl hS ?_ ?_
                · intro wz hz
                  go_simp
                  all_goals first | with_reducible rfl | omega
                try simp only [Act.put, pu]
                refine tkY 19 (.bool false) rfl hS ?_ ?_
                · intro wz hz
                  go_simp
                  all_goals first | with_reducible rfl | omega
                try simp only [Act.put, pu]
                refine tkY 20 ?_ rfl hS ?_ ?_
                rotate_left
                · intro wz hz
                  go_simp
                  all_goals first | with_reducible rfl | omega
                try simp only [Act.put, pu]
                refine tkY 22 ?_ rfl hS ?_ ?_
                rotate_left
                · intro wz hz
                  go_simp
                  all_goals first | with_reducible rfl | omega
                try simp only [Act.put, pu]
                refine tkY 23 ?_ rfl hS ?_ ?_
                rotate_left
                · intro wz hz
                  go_simp
                  all_goals first | with_reducible rfl | omega
                try simp only [Act.put, pu]
                refine tkY 24 ?_ rfl hS ?_ ?_
                rotate_left
                · intro wz hz
                  go_simp
                  all_goals first | with_reducible rfl | omega
                try simp only [Act.put, pu]
                refine tkY 25 ?_ rfl hS ?_ ?_
                rotate_left
                · intro wz hz
                  obtain ⟨z01, z02, z03, z04, z05, z06, z07, z08, z09⟩ := hz
                  go_simp
                  all_goals first | with_reducible rfl | omega
                try simp only [Act.put, pu]
                refine tkY 26 ?_ rfl hS ?_ ?_
                rotate_left
                · intro wz hz
                  go_simp
                  all_goals first | with_reducible rfl | omega
                try simp only [Act.put, pu]
                refine wpAnyH_ready (rs := [21]) (by kernel_rfl) (by simp) (AllReadyH.cons rfl (fun K' hK' => ?_) AllReadyH.nil)
                go_simp
                refine (lb_open HL.out).mono ?_
                rintro e t9 ⟨rfl, rfl⟩
                try rw [HNS.out]
                have hS2 := id hS
                refine hK'.out _ _ ?_ (fun hSn => ?_)
                · exact hS2
                clear hK' K' hS
                have hS := hSn
                clear hSn hS2
                try simp only [Act.put, pu]
                refine tkY 27 (.bool false) rfl hS ?_ ?_
                · intro wz hz
                  go_simp
                  all_goals first | with_reducible rfl | omega
                try simp only [Act.put, pu]
                refine tkY 28 (.bool false) rfl hS ?_ ?_
                · intro wz hz
                  go_simp
                  all_goals first | with_reducible rfl | omega
                try simp only [Act.put, pu]
                refine wpAnyH_done (by kernel_rfl) ?_ _
                clear hS
                go_wp2
                go_roundg gk1
                case measure => exact Nat.lt_succ_self _
                case rel => exact ⟨i1, a2, (tot S), S, rfl, rfl, HI1.out.1, by have := HI1.out; omega, by have := HI1.out; omega, HL.out, HR.out, HB.out⟩
theorem plays_law (v : Value) (w : World) (hf : FitsP w v) :
    Calls Try.prog 3 #[v] w fun e w' => e = .returned (.bool true) ∧ Below w.heap.size w w' := by
  obtain ⟨l, hl⟩ := hf
  exact plays_any v l w hl
end Go.Proofs.Ytldpamlmnganmaa.FL
