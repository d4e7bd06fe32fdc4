/- LinePlays' walk. No condition. -/
import Derived.Test.YtckodebcigmkgaaLns
namespace Go.Proofs.Ytckodebcigmkgaa.LN
open Go.ChangeShapes Go.WideShapes Go.ChangeAt Go.RowKit
open Go.Proofs.Ytckodebcigmkgaa.SL Go.Proofs.Ytckodebcigmkgaa.RW
set_option maxRecDepth 100000
set_option linter.unusedVariables false
set_option linter.unusedSimpArgs false

set_option maxHeartbeats 8000000 in
theorem plays_wrong (n : Int) (hn : n < 1 ∨ 10000 < n) (v : Value) (l : List Opc) (w : World) (hv : OpR w v l) :
    Calls Try.prog 3 #[nV n, v] w (RdP (.bool true) w) := by
  obtain ⟨va, vc, rfl⟩ := hv.form
  obtain ⟨k, hk⟩ : ∃ k, l.length = k := ⟨_, rfl⟩
  rw [hk] at hv ⊢
  have HC := Lib.hid (new_no w n hn)
  have HD := Lib.hid (rnew_no w n hn)
  clear hv hk hn
  go_enter Try.func3, Try.ntmps3
  go_wp2_with fail
  refine HC.out.mono ?_
  rintro e w1 ⟨rfl, rfl⟩
  clear HC
  go_wp2_with fail
  refine HD.out.mono ?_
  rintro e w1 ⟨g, rfl, hb⟩
  have HB := Lib.hid hb
  clear HD hb
  go_wp2
  go_loopg [5, 9] 0 (fun gk u5 u9 wx => u5 = .pointer none ∧ u9 = .int .i64 0 ∧ Below w.heap.size w wx)
  case atStart => exact ⟨rfl, rfl, HB.out⟩
  case round =>
    obtain ⟨rfl, rfl, hb⟩ := hrel
    clear HB
    have HB := Lib.hid hb
    clear hb
    by_cases h0 : k = 0
    · subst h0
      go_wp2_with fail
      refine (known_any _).mono ?_
      rintro e wz ⟨rfl, hb⟩
      have HB := Lib.hid (HB.out.trans (hb.mono HB.out.size))
      clear hb
      go_wp2
      go_ret
      exact ⟨rfl, HB.out⟩
    · have l1 : (0 : Int) < (k : Int) := by omega
      clear h0
      go_wp2_with fail
      refine (known_any _).mono ?_
      rintro e wz ⟨rfl, hb⟩
      have HB := Lib.hid (HB.out.trans (hb.mono HB.out.size))
      clear hb
      go_wp2
      go_ret
      exact ⟨rfl, HB.out⟩
set_option maxHeartbeats 64000000 in
theorem plays_any (m : Nat) (hm : 1 ≤ m ∧ m ≤ 10000) (v : Value) (l : List Opc) (w : World) (hv : OpR w v l) :
    Calls Try.prog 3 #[nV (m : Int), v] w (RdP (.bool true) w) := by
  have HV := Lib.hid hv
  have HM := Lib.hid hm
  obtain ⟨va, vc, rfl⟩ := hv.form
  clear hv hm
  go_enter Try.func3, Try.ntmps3
  go_wp2_with fail
  refine (ln_new w m HM.out.1 HM.out.2).mono ?_
  rintro e w1 ⟨a, rfl, hl, hb⟩
  have HL := Lib.hid hl
  have HB := Lib.hid hb
  clear hl hb
  go_wp2_with fail
  refine (rnew_yes w1 m HM.out.1 HM.out.2).mono ?_
  rintro e w2 ⟨r, rfl, hr, hb⟩
  have HL := Lib.hid (HL.out.below hb)
  have HR := Lib.hid (RN.mono (B' := w.heap.size) ⟨_, hr⟩ HB.out.size)
  have HB := Lib.hid (HB.out.trans (hb.mono HB.out.size))
  clear hr hb
  go_wp2
  go_loopg [5, 9] (min l.length 60) (fun gk u5 u9 wx => ∃ (i a : Nat) (s : List Wt), u5 = ptr a ∧ u9 = .int .i64 (i : Int) ∧ i + gk = min l.length 60 ∧ LN w.heap.size wx a m s ∧ RN w.heap.size wx r m s ∧ Nd s ∧ Below w.heap.size w wx)
  case atStart => exact ⟨0, a, [], rfl, rfl, by omega, HL.out, HR.out, Nd.nil, HB.out⟩
  case round =>
    obtain ⟨i, a, s, rfl, rfl, hi, hl, hr, hd, hb⟩ := hrel
    clear HL HR HB
    have HL := Lib.hid hl
    have HR := Lib.hid hr
    have HB := Lib.hid hb
    have HD := Lib.hid hd
    cases gk with
    | zero =>
      by_cases hlt : i < l.length
      · have l1 : (i : Int) < (l.length : Int) := by omega
        have l2 : ¬ ((i : Int) < 60) := by omega
        clear hi hl hr hd hb hlt
        go_wp2_with fail
        refine (known_any _).mono ?_
        rintro e wz ⟨rfl, hb⟩
        have HB := Lib.hid (HB.out.trans (hb.mono HB.out.size))
        clear hb
        go_wp2
        go_ret
        exact ⟨rfl, HB.out⟩
      · have l1 : ¬ ((i : Int) < (l.length : Int)) := by omega
        clear hi hl hr hd hb hlt
        go_wp2_with fail
        refine (known_any _).mono ?_
        rintro e wz ⟨rfl, hb⟩
        have HB := Lib.hid (HB.out.trans (hb.mono HB.out.size))
        clear hb
        go_wp2
        go_ret
        exact ⟨rfl, HB.out⟩
    | succ gk1 =>
      have hlt : i < l.length := by omega
      have l0 : (0 : Int) ≤ (i : Int) := by omega
      have l1 : (i : Int) < (l.length : Int) := by omega
      have l2 : (i : Int) < 60 := by omega
      obtain ⟨i1, hi1⟩ : ∃ i1, i + 1 = i1 := ⟨_, rfl⟩
      have wk : IntKind.i64.wrap ((i : Int) + 1) = (i1 : Int) := by rw [show (i : Int) + 1 = (i1 : Int) by omega]; exact IntWalk.i64_in _ (by omega)
      have HI1 : Hid (i1 + gk1 = min l.length 60) := Lib.hid (by omega)
      obtain ⟨bb, off, cap, he, hcp, hx⟩ := (HV.out.below hb).inv (by omega)
      injection he with e1 _ e3
      subst e1 e3
      obtain ⟨op, hop⟩ : ∃ o, l[i] = o := ⟨_, rfl⟩
      have hyi : l[i]? = some op := by rw [List.getElem?_eq_getElem hlt, hop]
      have hxx := hx i op hyi
      obtain ⟨kd, id, tl⟩ := op
      have x0 := hxx 0 _ rfl
      have x1 := hxx 1 _ rfl
      have x2 := hxx 2 _ rfl
      rw [Nat.add_zero] at x0
      obtain ⟨W7, hW7⟩ : ∃ W, wr.alloc (.cells #[nV kd, nV id, nV tl] 31) = W := ⟨_, rfl⟩
      obtain ⟨ob, hob⟩ : ∃ b, wr.heap.size = b := ⟨_, rfl⟩
      have hb7 : Below wr.heap.size wr W7 := by rw [← hW7]; exact (Below.refl _ _).alloc (Nat.le_refl _) _
      have HOP := Lib.hid (show Bk W7 ob 31 #[nV kd, nV id, nV tl] by rw [← hW7, ← hob]; exact Bk.new _ _ _)
      have HL := Lib.hid (HL.out.below hb7)
      have HR := Lib.hid (HR.out.below hb7)
      have HB := Lib.hid (HB.out.trans (hb7.mono HB.out.size))
      clear hi hl hr hd hb hlt hi1 hcp hx hop hyi hxx hb7
      by_cases k0 : kd = 0
      · subst k0
        as_aux_lemma =>
          obtain ⟨s1, er, hj⟩ : ∃ x y, joinS m s id tl = (x, y) := ⟨_, _, rfl⟩
          have HJ := Lib.hid hj
          have hd := HD.out.join m id tl
          rw [hj] at hd
          have HD := Lib.hid (show Nd s1 from hd)
          clear hj hd
          have y0 : W7.cell? ⟨ob, 0, none⟩ = some (.int .i64 0) := HOP.out.cell 0
          have y1 : W7.cell? ⟨ob, 1, none⟩ = some (nV id) := HOP.out.cell 1
          have y2 : W7.cell? ⟨ob, 2, none⟩ = some (nV tl) := HOP.out.cell 2
          go_wp2_with fail
          try rw [hW7]
          try rw [hob]
          refine wp_region_held_drew (S := (fun w' => w'.cell? ⟨ob, 0, none⟩ = some (.int .i64 0) ∧ w'.cell? ⟨ob, 1, none⟩ = some (nV id) ∧ w'.cell? ⟨ob, 2, none⟩ = some (nV tl))) (by kernel_rfl) ?_ (fun hS => ?_)
          · exact ⟨y0, y1, y2⟩
          clear y0 y1 y2
          have hb : Below W7.heap.size W7 W7.drew := (Below.refl _ _).drew
          have HOP := Lib.hid ((Kf.below hb).bk (show Bk _ ob 31 _ from HOP.out))
          have HL := Lib.hid (HL.out.below hb)
          have HR := Lib.hid (HR.out.below hb)
          have HB := Lib.hid (HB.out.trans (hb.mono HB.out.size))
          clear hb
          clear hW7 hob
          clear x0 x1 x2
          refine tkY 0 ?_ rfl hS ?_ ?_
          rotate_left
          · intro wz hz
            go_simp
            all_goals first | with_reducible rfl | omega
          try simp only [Act.put, pu]
          refine tkY 1 ?_ rfl hS ?_ ?_
          rotate_left
          · intro wz hz
            go_simp
            all_goals first | with_reducible rfl | omega
          try simp only [Act.put, pu]
          refine tkY 2 ?_ rfl hS ?_ ?_
          rotate_left
          · intro wz hz
            obtain ⟨z0, z1, z2⟩ := hz
            go_simp
            all_goals first | with_reducible rfl | omega
          try simp only [Act.put, pu]
          refine tkY 3 ?_ rfl hS ?_ ?_
          rotate_left
          · intro wz hz
            go_simp
            all_goals first | with_reducible rfl | omega
          try simp only [Act.put, pu]
          refine tkY 4 ?_ rfl hS ?_ ?_
          rotate_left
          · intro wz hz
            obtain ⟨z0, z1, z2⟩ := hz
            go_simp
            all_goals first | with_reducible rfl | omega
          try simp only [Act.put, pu]
          refine tkY 6 ?_ rfl hS ?_ ?_
          rotate_left
          · intro wz hz
            go_simp
            all_goals first | with_reducible rfl | omega
          try simp only [Act.put, pu]
          refine tkY 7 ?_ rfl hS ?_ ?_
          rotate_left
          · intro wz hz
            go_simp
            all_goals first | with_reducible rfl | omega
          try simp only [Act.put, pu]
          refine tkY 8 ?_ rfl hS ?_ ?_
          rotate_left
          · intro wz hz
            obtain ⟨z0, z1, z2⟩ := hz
            go_simp
            all_goals first | with_reducible rfl | omega
          try simp only [Act.put, pu]
          refine tkY 9 ?_ rfl hS ?_ ?_
          rotate_left
          · intro wz hz
            go_simp
            all_goals first | with_reducible rfl | omega
          try simp only [Act.put, pu]
          refine tkY 10 ?_ rfl hS ?_ ?_
          rotate_left
          · intro wz hz
            obtain ⟨z0, z1, z2⟩ := hz
            go_simp
            all_goals first | with_reducible rfl | omega
          try simp only [Act.put, pu]
          refine wpAnyH_ready (rs := [5]) (by kernel_rfl) (by simp) (AllReadyH.cons rfl (fun K' hK' => ?_) AllReadyH.nil)
          go_simp
          have HC := Lib.hid (ln_join HL.out id tl)
          rw [HJ.out] at HC
          refine HC.out.mono ?_
          clear HC
          rintro e v1 ⟨rfl, hs⟩
          have HOP := Lib.hid (hs.kf.bk (show Bk _ ob 31 _ from HOP.out))
          have HL := Lib.hid hs.lb
          have HR := Lib.hid (HR.out.kf hs.kf)
          have HB := Lib.hid (HB.out.trans hs.bel)
          clear hs
          have hS2 : (fun w' => w'.cell? ⟨ob, 0, none⟩ = some (.int .i64 0) ∧ w'.cell? ⟨ob, 1, none⟩ = some (nV id) ∧ w'.cell? ⟨ob, 2, none⟩ = some (nV tl)) v1 := ⟨HOP.out.cell 0, HOP.out.cell 1, HOP.out.cell 2⟩
          refine hK'.out _ _ ?_ (fun hSn => ?_)
          · exact hS2
          clear hK' K' hS
          have hS := hSn
          clear hSn hS2
          try simp only [Act.put, pu]
          refine wpAnyH_ready (rs := [11]) (by kernel_rfl) (by simp) (AllReadyH.cons rfl (fun K' hK' => ?_) AllReadyH.nil)
          go_simp
          have HC := Lib.hid (rn_join HR.out id tl)
          rw [HJ.out] at HC
          refine HC.out.mono ?_
          clear HC
          rintro e v2 ⟨rfl, hs⟩
          have HOP := Lib.hid (hs.kr.bk (show Bk _ ob 31 _ from HOP.out))
          have HL := Lib.hid (HL.out.kr hs.kr)
          have HR := Lib.hid hs.rb
          have HB := Lib.hid (HB.out.trans hs.bel)
          clear hs
          have hS2 : (fun w' => w'.cell? ⟨ob, 0, none⟩ = some (.int .i64 0) ∧ w'.cell? ⟨ob, 1, none⟩ = some (nV id) ∧ w'.cell? ⟨ob, 2, none⟩ = some (nV tl)) v2 := ⟨HOP.out.cell 0, HOP.out.cell 1, HOP.out.cell 2⟩
          refine hK'.out _ _ ?_ (fun hSn => ?_)
          · exact hS2
          clear hK' K' hS
          have hS := hSn
          clear hSn hS2
          try simp only [Act.put, pu]
          refine tkY 12 (.bool false) rfl hS ?_ ?_
          · intro wz hz
            go_simp
            all_goals first | with_reducible rfl | omega
          try simp only [Act.put, pu]
          refine wpAnyH_done (by kernel_rfl) ?_ _
          clear hS
          obtain ⟨P, hP⟩ : ∃ P, placeS s1 id = P := ⟨_, rfl⟩
          have HPP := Lib.hid hP
          clear hP
          have y0 : v2.cell? ⟨ob, 0, none⟩ = some (.int .i64 0) := HOP.out.cell 0
          have y1 : v2.cell? ⟨ob, 1, none⟩ = some (nV id) := HOP.out.cell 1
          have y2 : v2.cell? ⟨ob, 2, none⟩ = some (nV tl) := HOP.out.cell 2
          go_wp2_with fail
          refine wp_region_held_drew (S := (fun w' => w'.cell? ⟨ob, 0, none⟩ = some (.int .i64 0) ∧ w'.cell? ⟨ob, 1, none⟩ = some (nV id) ∧ w'.cell? ⟨ob, 2, none⟩ = some (nV tl))) (by kernel_rfl) ?_ (fun hS => ?_)
          · exact ⟨y0, y1, y2⟩
          clear y0 y1 y2
          have hb : Below v2.heap.size v2 v2.drew := (Below.refl _ _).drew
          have HOP := Lib.hid ((Kf.below hb).bk (show Bk _ ob 31 _ from HOP.out))
          have HL := Lib.hid (HL.out.below hb)
          have HR := Lib.hid (HR.out.below hb)
          have HB := Lib.hid (HB.out.trans (hb.mono HB.out.size))
          clear hb
          refine tkY 0 ?_ rfl hS ?_ ?_
          rotate_left
          · intro wz hz
            go_simp
            all_goals first | with_reducible rfl | omega
          try simp only [Act.put, pu]
          refine tkY 1 ?_ rfl hS ?_ ?_
          rotate_left
          · intro wz hz
            go_simp
            all_goals first | with_reducible rfl | omega
          try simp only [Act.put, pu]
          refine tkY 2 ?_ rfl hS ?_ ?_
          rotate_left
          · intro wz hz
            obtain ⟨z0, z1, z2⟩ := hz
            go_simp
            all_goals first | with_reducible rfl | omega
          try simp only [Act.put, pu]
          refine tkY 4 ?_ rfl hS ?_ ?_
          rotate_left
          · intro wz hz
            go_simp
            all_goals first | with_reducible rfl | omega
          try simp only [Act.put, pu]
          refine tkY 5 ?_ rfl hS ?_ ?_
          rotate_left
          · intro wz hz
            go_simp
            all_goals first | with_reducible rfl | omega
          try simp only [Act.put, pu]
          refine tkY 6 ?_ rfl hS ?_ ?_
          rotate_left
          · intro wz hz
            obtain ⟨z0, z1, z2⟩ := hz
            go_simp
            all_goals first | with_reducible rfl | omega
          try simp only [Act.put, pu]
          refine wpAnyH_ready (rs := [3]) (by kernel_rfl) (by simp) (AllReadyH.cons rfl (fun K' hK' => ?_) AllReadyH.nil)
          go_simp
          have HC := Lib.hid (ln_place HL.out id)
          rw [HPP.out] at HC
          refine HC.out.mono ?_
          clear HC
          rintro e t1 ⟨rfl, hb⟩
          have HOP := Lib.hid ((Kf.below hb).bk (show Bk _ ob 31 _ from HOP.out))
          have HL := Lib.hid (HL.out.below hb)
          have HR := Lib.hid (HR.out.below hb)
          have HB := Lib.hid (HB.out.trans (hb.mono HB.out.size))
          clear hb
          have hS2 : (fun w' => w'.cell? ⟨ob, 0, none⟩ = some (.int .i64 0) ∧ w'.cell? ⟨ob, 1, none⟩ = some (nV id) ∧ w'.cell? ⟨ob, 2, none⟩ = some (nV tl)) t1 := ⟨HOP.out.cell 0, HOP.out.cell 1, HOP.out.cell 2⟩
          refine hK'.out _ _ ?_ (fun hSn => ?_)
          · exact hS2
          clear hK' K' hS
          have hS := hSn
          clear hSn hS2
          try simp only [Act.put, pu]
          refine wpAnyH_ready (rs := [7]) (by kernel_rfl) (by simp) (AllReadyH.cons rfl (fun K' hK' => ?_) AllReadyH.nil)
          go_simp
          have HC := Lib.hid (rn_place HR.out id)
          rw [HPP.out] at HC
          refine HC.out.mono ?_
          clear HC
          rintro e t2 ⟨rfl, hb⟩
          have HOP := Lib.hid ((Kf.below hb).bk (show Bk _ ob 31 _ from HOP.out))
          have HL := Lib.hid (HL.out.below hb)
          have HR := Lib.hid (HR.out.below hb)
          have HB := Lib.hid (HB.out.trans (hb.mono HB.out.size))
          clear hb
          have hS2 : (fun w' => w'.cell? ⟨ob, 0, none⟩ = some (.int .i64 0) ∧ w'.cell? ⟨ob, 1, none⟩ = some (nV id) ∧ w'.cell? ⟨ob, 2, none⟩ = some (nV tl)) t2 := ⟨HOP.out.cell 0, HOP.out.cell 1, HOP.out.cell 2⟩
          refine hK'.out _ _ ?_ (fun hSn => ?_)
          · exact hS2
          clear hK' K' hS
          have hS := hSn
          clear hSn hS2
          try simp only [Act.put, pu]
          refine tkY 8 (.bool false) rfl hS ?_ ?_
          · intro wz hz
            go_simp
            all_goals first | with_reducible rfl | omega
          try simp only [Act.put, pu]
          refine tkY 9 (.bool false) rfl hS ?_ ?_
          · intro wz hz
            go_simp
            all_goals first | with_reducible rfl | omega
          try simp only [Act.put, pu]
          refine tkY 10 ?_ rfl hS ?_ ?_
          rotate_left
          · intro wz hz
            go_simp
            all_goals first | with_reducible rfl | omega
          try simp only [Act.put, pu]
          refine tkY 12 ?_ rfl hS ?_ ?_
          rotate_left
          · intro wz hz
            go_simp
            all_goals first | with_reducible rfl | omega
          try simp only [Act.put, pu]
          refine wpAnyH_ready (rs := [11]) (by kernel_rfl) (by simp) (AllReadyH.cons rfl (fun K' hK' => ?_) AllReadyH.nil)
          go_simp
          refine (ln_all HL.out).mono ?_
          rintro e t3 ⟨ra, rfl, hia, hb⟩
          have HOP := Lib.hid ((Kf.below hb).bk (show Bk _ ob 31 _ from HOP.out))
          have HL := Lib.hid (HL.out.below hb)
          have HR := Lib.hid (HR.out.below hb)
          have HB := Lib.hid (HB.out.trans (hb.mono HB.out.size))
          have HIA := Lib.hid hia
          obtain ⟨pa, pc, hra⟩ := hia.form
          rw [List.length_map] at hra
          subst hra
          clear hb hia
          have hS2 : (fun w' => w'.cell? ⟨ob, 0, none⟩ = some (.int .i64 0) ∧ w'.cell? ⟨ob, 1, none⟩ = some (nV id) ∧ w'.cell? ⟨ob, 2, none⟩ = some (nV tl)) t3 := ⟨HOP.out.cell 0, HOP.out.cell 1, HOP.out.cell 2⟩
          refine hK'.out _ _ ?_ (fun hSn => ?_)
          · exact hS2
          clear hK' K' hS
          have hS := hSn
          clear hSn hS2
          try simp only [Act.put, pu]
          refine wpAnyH_ready (rs := [13]) (by kernel_rfl) (by simp) (AllReadyH.cons rfl (fun K' hK' => ?_) AllReadyH.nil)
          go_simp
          refine (rn_all HR.out).mono ?_
          rintro e t4 ⟨rb, rfl, hib, hb⟩
          have HOP := Lib.hid ((Kf.below hb).bk (show Bk _ ob 31 _ from HOP.out))
          have HL := Lib.hid (HL.out.below hb)
          have HR := Lib.hid (HR.out.below hb)
          have HB := Lib.hid (HB.out.trans (hb.mono HB.out.size))
          have HIA := Lib.hid (HIA.out.below hb)
          have HIB := Lib.hid hib
          obtain ⟨qa, qc, hrb⟩ := hib.form
          rw [List.length_map] at hrb
          subst hrb
          clear hb hib
          have hS2 : (fun w' => w'.cell? ⟨ob, 0, none⟩ = some (.int .i64 0) ∧ w'.cell? ⟨ob, 1, none⟩ = some (nV id) ∧ w'.cell? ⟨ob, 2, none⟩ = some (nV tl)) t4 := ⟨HOP.out.cell 0, HOP.out.cell 1, HOP.out.cell 2⟩
          refine hK'.out _ _ ?_ (fun hSn => ?_)
          · exact hS2
          clear hK' K' hS
          have hS := hSn
          clear hSn hS2
          try simp only [Act.put, pu]
          refine wpAnyH_ready (rs := [14]) (by kernel_rfl) (by simp) (AllReadyH.cons rfl (fun K' hK' => ?_) AllReadyH.nil)
          go_simp
          have HC := Lib.hid (ints_any t4 _ _ _ _ HIA.out HIB.out (by rw [List.length_map]; have := HL.out.len; omega))
          rw [decide_eq_true rfl] at HC
          refine HC.out.mono ?_
          clear HC
          rintro e t5 ⟨rfl, hb⟩
          have HOP := Lib.hid ((Kf.below hb).bk (show Bk _ ob 31 _ from HOP.out))
          have HL := Lib.hid (HL.out.below hb)
          have HR := Lib.hid (HR.out.below hb)
          have HB := Lib.hid (HB.out.trans (hb.mono HB.out.size))
          clear hb
          have hS2 : (fun w' => w'.cell? ⟨ob, 0, none⟩ = some (.int .i64 0) ∧ w'.cell? ⟨ob, 1, none⟩ = some (nV id) ∧ w'.cell? ⟨ob, 2, none⟩ = some (nV tl)) t5 := ⟨HOP.out.cell 0, HOP.out.cell 1, HOP.out.cell 2⟩
          refine hK'.out _ _ ?_ (fun hSn => ?_)
          · exact hS2
          clear hK' K' hS
          have hS := hSn
          clear hSn hS2
          try simp only [Act.put, pu]
          refine tkY 15 (.bool false) rfl hS ?_ ?_
          · intro wz hz
            go_simp
            all_goals first | with_reducible rfl | omega
          try simp only [Act.put, pu]
          refine tkY 16 (.bool false) rfl hS ?_ ?_
          · intro wz hz
            go_simp
            all_goals first | with_reducible rfl | omega
          try simp only [Act.put, pu]
          refine wpAnyH_done (by kernel_rfl) ?_ _
          clear hS
          go_wp2
          go_roundg gk1
          case measure => exact Nat.lt_succ_self _
          case rel => exact ⟨i1, a, s1, rfl, rfl, HI1.out, HL.out, HR.out, HD.out, HB.out⟩
      · by_cases k1 : kd = 1
        · subst k1
          as_aux_lemma =>
            obtain ⟨s1, fx, fy, hj⟩ : ∃ x y z, firstS s = (x, y, z) := ⟨_, _, _, rfl⟩
            have HJ := Lib.hid hj
            have HC := Lib.hid (ln_first HL.out)
            have HD0 := HD
            have hd := HD.out.first
            rw [hj] at hd HC
            have HD := Lib.hid (show Nd s1 from hd)
            clear hj hd
            have y0 : W7.cell? ⟨ob, 0, none⟩ = some (.int .i64 1) := HOP.out.cell 0
            have y1 : W7.cell? ⟨ob, 1, none⟩ = some (nV id) := HOP.out.cell 1
            have y2 : W7.cell? ⟨ob, 2, none⟩ = some (nV tl) := HOP.out.cell 2
            go_wp2_with fail
            try rw [hW7]
            try rw [hob]
            refine HC.out.mono ?_
            clear HC hW7 hob
            clear x0 x1 x2
            clear y0 y1 y2
            rintro e v1 ⟨rfl, hs⟩
            have HOP := Lib.hid (hs.kf.bk (show Bk _ ob 31 _ from HOP.out))
            have HL := Lib.hid hs.lb
            have HR := Lib.hid (HR.out.kf hs.kf)
            have HB := Lib.hid (HB.out.trans hs.bel)
            clear hs
            have HC := Lib.hid (rn_first HR.out HD0.out)
            rw [HJ.out] at HC
            have y0 : v1.cell? ⟨ob, 0, none⟩ = some (.int .i64 1) := HOP.out.cell 0
            have y1 : v1.cell? ⟨ob, 1, none⟩ = some (nV id) := HOP.out.cell 1
            have y2 : v1.cell? ⟨ob, 2, none⟩ = some (nV tl) := HOP.out.cell 2
            go_wp2_with fail
            refine HC.out.mono ?_
            clear HC
            clear y0 y1 y2
            rintro e v2 ⟨rfl, hs⟩
            have HOP := Lib.hid (hs.kr.bk (show Bk _ ob 31 _ from HOP.out))
            have HL := Lib.hid (HL.out.kr hs.kr)
            have HR := Lib.hid hs.rb
            have HB := Lib.hid (HB.out.trans hs.bel)
            clear hs
            obtain ⟨P, hP⟩ : ∃ P, placeS s1 id = P := ⟨_, rfl⟩
            have HPP := Lib.hid hP
            clear hP
            have y0 : v2.cell? ⟨ob, 0, none⟩ = some (.int .i64 1) := HOP.out.cell 0
            have y1 : v2.cell? ⟨ob, 1, none⟩ = some (nV id) := HOP.out.cell 1
            have y2 : v2.cell? ⟨ob, 2, none⟩ = some (nV tl) := HOP.out.cell 2
            go_wp2_with fail
            refine wp_region_held_drew (S := (fun w' => w'.cell? ⟨ob, 0, none⟩ = some (.int .i64 1) ∧ w'.cell? ⟨ob, 1, none⟩ = some (nV id) ∧ w'.cell? ⟨ob, 2, none⟩ = some (nV tl))) (by kernel_rfl) ?_ (fun hS => ?_)
            · exact ⟨y0, y1, y2⟩
            clear y0 y1 y2
            have hb : Below v2.heap.size v2 v2.drew := (Below.refl _ _).drew
            have HOP := Lib.hid ((Kf.below hb).bk (show Bk _ ob 31 _ from HOP.out))
            have HL := Lib.hid (HL.out.below hb)
            have HR := Lib.hid (HR.out.below hb)
            have HB := Lib.hid (HB.out.trans (hb.mono HB.out.size))
            clear hb
            refine tkY 0 ?_ rfl hS ?_ ?_
            rotate_left
            · intro wz hz
              go_simp
              all_goals first | with_reducible rfl | omega
            try simp only [Act.put, pu]
            refine tkY 1 ?_ rfl hS ?_ ?_
            rotate_left
            · intro wz hz
              go_simp
              all_goals first | with_reducible rfl | omega
            try simp only [Act.put, pu]
            refine tkY 2 ?_ rfl hS ?_ ?_
            rotate_left
            · intro wz hz
              obtain ⟨z0, z1, z2⟩ := hz
              go_simp
              all_goals first | with_reducible rfl | omega
            try simp only [Act.put, pu]
            refine tkY 4 ?_ rfl hS ?_ ?_
            rotate_left
            · intro wz hz
              go_simp
              all_goals first | with_reducible rfl | omega
            try simp only [Act.put, pu]
            refine tkY 5 ?_ rfl hS ?_ ?_
            rotate_left
            · intro wz hz
              go_simp
              all_goals first | with_reducible rfl | omega
            try simp only [Act.put, pu]
            refine tkY 6 ?_ rfl hS ?_ ?_
            rotate_left
            · intro wz hz
              obtain ⟨z0, z1, z2⟩ := hz
              go_simp
              all_goals first | with_reducible rfl | omega
            try simp only [Act.put, pu]
            refine wpAnyH_ready (rs := [3]) (by kernel_rfl) (by simp) (AllReadyH.cons rfl (fun K' hK' => ?_) AllReadyH.nil)
            go_simp
            have HC := Lib.hid (ln_place HL.out id)
            rw [HPP.out] at HC
            refine HC.out.mono ?_
            clear HC
            rintro e t1 ⟨rfl, hb⟩
            have HOP := Lib.hid ((Kf.below hb).bk (show Bk _ ob 31 _ from HOP.out))
            have HL := Lib.hid (HL.out.below hb)
            have HR := Lib.hid (HR.out.below hb)
            have HB := Lib.hid (HB.out.trans (hb.mono HB.out.size))
            clear hb
            have hS2 : (fun w' => w'.cell? ⟨ob, 0, none⟩ = some (.int .i64 1) ∧ w'.cell? ⟨ob, 1, none⟩ = some (nV id) ∧ w'.cell? ⟨ob, 2, none⟩ = some (nV tl)) t1 := ⟨HOP.out.cell 0, HOP.out.cell 1, HOP.out.cell 2⟩
            refine hK'.out _ _ ?_ (fun hSn => ?_)
            · exact hS2
            clear hK' K' hS
            have hS := hSn
            clear hSn hS2
            try simp only [Act.put, pu]
            refine wpAnyH_ready (rs := [7]) (by kernel_rfl) (by simp) (AllReadyH.cons rfl (fun K' hK' => ?_) AllReadyH.nil)
            go_simp
            have HC := Lib.hid (rn_place HR.out id)
            rw [HPP.out] at HC
            refine HC.out.mono ?_
            clear HC
            rintro e t2 ⟨rfl, hb⟩
            have HOP := Lib.hid ((Kf.below hb).bk (show Bk _ ob 31 _ from HOP.out))
            have HL := Lib.hid (HL.out.below hb)
            have HR := Lib.hid (HR.out.below hb)
            have HB := Lib.hid (HB.out.trans (hb.mono HB.out.size))
            clear hb
            have hS2 : (fun w' => w'.cell? ⟨ob, 0, none⟩ = some (.int .i64 1) ∧ w'.cell? ⟨ob, 1, none⟩ = some (nV id) ∧ w'.cell? ⟨ob, 2, none⟩ = some (nV tl)) t2 := ⟨HOP.out.cell 0, HOP.out.cell 1, HOP.out.cell 2⟩
            refine hK'.out _ _ ?_ (fun hSn => ?_)
            · exact hS2
            clear hK' K' hS
            have hS := hSn
            clear hSn hS2
            try simp only [Act.put, pu]
            refine tkY 8 (.bool false) rfl hS ?_ ?_
            · intro wz hz
              go_simp
              all_goals first | with_reducible rfl | omega
            try simp only [Act.put, pu]
            refine tkY 9 (.bool false) rfl hS ?_ ?_
            · intro wz hz
              go_simp
              all_goals first | with_reducible rfl | omega
            try simp only [Act.put, pu]
            refine tkY 10 ?_ rfl hS ?_ ?_
            rotate_left
            · intro wz hz
              go_simp
              all_goals first | with_reducible rfl | omega
            try simp only [Act.put, pu]
            refine tkY 12 ?_ rfl hS ?_ ?_
            rotate_left
            · intro wz hz
              go_simp
              all_goals first | with_reducible rfl | omega
            try simp only [Act.put, pu]
            refine wpAnyH_ready (rs := [11]) (by kernel_rfl) (by simp) (AllReadyH.cons rfl (fun K' hK' => ?_) AllReadyH.nil)
            go_simp
            refine (ln_all HL.out).mono ?_
            rintro e t3 ⟨ra, rfl, hia, hb⟩
            have HOP := Lib.hid ((Kf.below hb).bk (show Bk _ ob 31 _ from HOP.out))
            have HL := Lib.hid (HL.out.below hb)
            have HR := Lib.hid (HR.out.below hb)
            have HB := Lib.hid (HB.out.trans (hb.mono HB.out.size))
            have HIA := Lib.hid hia
            obtain ⟨pa, pc, hra⟩ := hia.form
            rw [List.length_map] at hra
            subst hra
            clear hb hia
            have hS2 : (fun w' => w'.cell? ⟨ob, 0, none⟩ = some (.int .i64 1) ∧ w'.cell? ⟨ob, 1, none⟩ = some (nV id) ∧ w'.cell? ⟨ob, 2, none⟩ = some (nV tl)) t3 := ⟨HOP.out.cell 0, HOP.out.cell 1, HOP.out.cell 2⟩
            refine hK'.out _ _ ?_ (fun hSn => ?_)
            · exact hS2
            clear hK' K' hS
            have hS := hSn
            clear hSn hS2
            try simp only [Act.put, pu]
            refine wpAnyH_ready (rs := [13]) (by kernel_rfl) (by simp) (AllReadyH.cons rfl (fun K' hK' => ?_) AllReadyH.nil)
            go_simp
            refine (rn_all HR.out).mono ?_
            rintro e t4 ⟨rb, rfl, hib, hb⟩
            have HOP := Lib.hid ((Kf.below hb).bk (show Bk _ ob 31 _ from HOP.out))
            have HL := Lib.hid (HL.out.below hb)
            have HR := Lib.hid (HR.out.below hb)
            have HB := Lib.hid (HB.out.trans (hb.mono HB.out.size))
            have HIA := Lib.hid (HIA.out.below hb)
            have HIB := Lib.hid hib
            obtain ⟨qa, qc, hrb⟩ := hib.form
            rw [List.length_map] at hrb
            subst hrb
            clear hb hib
            have hS2 : (fun w' => w'.cell? ⟨ob, 0, none⟩ = some (.int .i64 1) ∧ w'.cell? ⟨ob, 1, none⟩ = some (nV id) ∧ w'.cell? ⟨ob, 2, none⟩ = some (nV tl)) t4 := ⟨HOP.out.cell 0, HOP.out.cell 1, HOP.out.cell 2⟩
            refine hK'.out _ _ ?_ (fun hSn => ?_)
            · exact hS2
            clear hK' K' hS
            have hS := hSn
            clear hSn hS2
            try simp only [Act.put, pu]
            refine wpAnyH_ready (rs := [14]) (by kernel_rfl) (by simp) (AllReadyH.cons rfl (fun K' hK' => ?_) AllReadyH.nil)
            go_simp
            have HC := Lib.hid (ints_any t4 _ _ _ _ HIA.out HIB.out (by rw [List.length_map]; have := HL.out.len; omega))
            rw [decide_eq_true rfl] at HC
            refine HC.out.mono ?_
            clear HC
            rintro e t5 ⟨rfl, hb⟩
            have HOP := Lib.hid ((Kf.below hb).bk (show Bk _ ob 31 _ from HOP.out))
            have HL := Lib.hid (HL.out.below hb)
            have HR := Lib.hid (HR.out.below hb)
            have HB := Lib.hid (HB.out.trans (hb.mono HB.out.size))
            clear hb
            have hS2 : (fun w' => w'.cell? ⟨ob, 0, none⟩ = some (.int .i64 1) ∧ w'.cell? ⟨ob, 1, none⟩ = some (nV id) ∧ w'.cell? ⟨ob, 2, none⟩ = some (nV tl)) t5 := ⟨HOP.out.cell 0, HOP.out.cell 1, HOP.out.cell 2⟩
            refine hK'.out _ _ ?_ (fun hSn => ?_)
            · exact hS2
            clear hK' K' hS
            have hS := hSn
            clear hSn hS2
            try simp only [Act.put, pu]
            refine tkY 15 (.bool false) rfl hS ?_ ?_
            · intro wz hz
              go_simp
              all_goals first | with_reducible rfl | omega
            try simp only [Act.put, pu]
            refine tkY 16 (.bool false) rfl hS ?_ ?_
            · intro wz hz
              go_simp
              all_goals first | with_reducible rfl | omega
            try simp only [Act.put, pu]
            refine wpAnyH_done (by kernel_rfl) ?_ _
            clear hS
            go_wp2
            go_roundg gk1
            case measure => exact Nat.lt_succ_self _
            case rel => exact ⟨i1, a, s1, rfl, rfl, HI1.out, HL.out, HR.out, HD.out, HB.out⟩
        · by_cases k2 : kd = 2
          · subst k2
            as_aux_lemma =>
              obtain ⟨s1, er, hj⟩ : ∃ x y, leaveS s id = (x, y) := ⟨_, _, rfl⟩
              have HJ := Lib.hid hj
              have hd : Nd (leaveS s id).1 := HD.out.stay _
              rw [hj] at hd
              have HD := Lib.hid (show Nd s1 from hd)
              clear hj hd
              have y0 : W7.cell? ⟨ob, 0, none⟩ = some (.int .i64 2) := HOP.out.cell 0
              have y1 : W7.cell? ⟨ob, 1, none⟩ = some (nV id) := HOP.out.cell 1
              have y2 : W7.cell? ⟨ob, 2, none⟩ = some (nV tl) := HOP.out.cell 2
              go_wp2_with fail
              try rw [hW7]
              try rw [hob]
              refine wp_region_held_drew (S := (fun w' => w'.cell? ⟨ob, 0, none⟩ = some (.int .i64 2) ∧ w'.cell? ⟨ob, 1, none⟩ = some (nV id) ∧ w'.cell? ⟨ob, 2, none⟩ = some (nV tl))) (by kernel_rfl) ?_ (fun hS => ?_)
              · exact ⟨y0, y1, y2⟩
              clear y0 y1 y2
              have hb : Below W7.heap.size W7 W7.drew := (Below.refl _ _).drew
              have HOP := Lib.hid ((Kf.below hb).bk (show Bk _ ob 31 _ from HOP.out))
              have HL := Lib.hid (HL.out.below hb)
              have HR := Lib.hid (HR.out.below hb)
              have HB := Lib.hid (HB.out.trans (hb.mono HB.out.size))
              clear hb
              clear hW7 hob
              clear x0 x1 x2
              refine tkY 0 ?_ rfl hS ?_ ?_
              rotate_left
              · intro wz hz
                go_simp
                all_goals first | with_reducible rfl | omega
              try simp only [Act.put, pu]
              refine tkY 1 ?_ rfl hS ?_ ?_
              rotate_left
              · intro wz hz
                go_simp
                all_goals first | with_reducible rfl | omega
              try simp only [Act.put, pu]
              refine tkY 2 ?_ rfl hS ?_ ?_
              rotate_left
              · intro wz hz
                obtain ⟨z0, z1, z2⟩ := hz
                go_simp
                all_goals first | with_reducible rfl | omega
              try simp only [Act.put, pu]
              refine tkY 4 ?_ rfl hS ?_ ?_
              rotate_left
              · intro wz hz
                go_simp
                all_goals first | with_reducible rfl | omega
              try simp only [Act.put, pu]
              refine tkY 5 ?_ rfl hS ?_ ?_
              rotate_left
              · intro wz hz
                go_simp
                all_goals first | with_reducible rfl | omega
              try simp only [Act.put, pu]
              refine tkY 6 ?_ rfl hS ?_ ?_
              rotate_left
              · intro wz hz
                obtain ⟨z0, z1, z2⟩ := hz
                go_simp
                all_goals first | with_reducible rfl | omega
              try simp only [Act.put, pu]
              refine wpAnyH_ready (rs := [3]) (by kernel_rfl) (by simp) (AllReadyH.cons rfl (fun K' hK' => ?_) AllReadyH.nil)
              go_simp
              have HC := Lib.hid (ln_leave HL.out id)
              rw [HJ.out] at HC
              refine HC.out.mono ?_
              clear HC
              rintro e v1 ⟨rfl, hs⟩
              have HOP := Lib.hid (hs.kf.bk (show Bk _ ob 31 _ from HOP.out))
              have HL := Lib.hid hs.lb
              have HR := Lib.hid (HR.out.kf hs.kf)
              have HB := Lib.hid (HB.out.trans hs.bel)
              clear hs
              have hS2 : (fun w' => w'.cell? ⟨ob, 0, none⟩ = some (.int .i64 2) ∧ w'.cell? ⟨ob, 1, none⟩ = some (nV id) ∧ w'.cell? ⟨ob, 2, none⟩ = some (nV tl)) v1 := ⟨HOP.out.cell 0, HOP.out.cell 1, HOP.out.cell 2⟩
              refine hK'.out _ _ ?_ (fun hSn => ?_)
              · exact hS2
              clear hK' K' hS
              have hS := hSn
              clear hSn hS2
              try simp only [Act.put, pu]
              refine wpAnyH_ready (rs := [7]) (by kernel_rfl) (by simp) (AllReadyH.cons rfl (fun K' hK' => ?_) AllReadyH.nil)
              go_simp
              have HC := Lib.hid (rn_leave HR.out id)
              rw [HJ.out] at HC
              refine HC.out.mono ?_
              clear HC
              rintro e v2 ⟨rfl, hs⟩
              have HOP := Lib.hid (hs.kr.bk (show Bk _ ob 31 _ from HOP.out))
              have HL := Lib.hid (HL.out.kr hs.kr)
              have HR := Lib.hid hs.rb
              have HB := Lib.hid (HB.out.trans hs.bel)
              clear hs
              have hS2 : (fun w' => w'.cell? ⟨ob, 0, none⟩ = some (.int .i64 2) ∧ w'.cell? ⟨ob, 1, none⟩ = some (nV id) ∧ w'.cell? ⟨ob, 2, none⟩ = some (nV tl)) v2 := ⟨HOP.out.cell 0, HOP.out.cell 1, HOP.out.cell 2⟩
              refine hK'.out _ _ ?_ (fun hSn => ?_)
              · exact hS2
              clear hK' K' hS
              have hS := hSn
              clear hSn hS2
              try simp only [Act.put, pu]
              refine tkY 8 (.bool false) rfl hS ?_ ?_
              · intro wz hz
                go_simp
                all_goals first | with_reducible rfl | omega
              try simp only [Act.put, pu]
              refine wpAnyH_done (by kernel_rfl) ?_ _
              clear hS
              obtain ⟨P, hP⟩ : ∃ P, placeS s1 id = P := ⟨_, rfl⟩
              have HPP := Lib.hid hP
              clear hP
              have y0 : v2.cell? ⟨ob, 0, none⟩ = some (.int .i64 2) := HOP.out.cell 0
              have y1 : v2.cell? ⟨ob, 1, none⟩ = some (nV id) := HOP.out.cell 1
              have y2 : v2.cell? ⟨ob, 2, none⟩ = some (nV tl) := HOP.out.cell 2
              go_wp2_with fail
              refine wp_region_held_drew (S := (fun w' => w'.cell? ⟨ob, 0, none⟩ = some (.int .i64 2) ∧ w'.cell? ⟨ob, 1, none⟩ = some (nV id) ∧ w'.cell? ⟨ob, 2, none⟩ = some (nV tl))) (by kernel_rfl) ?_ (fun hS => ?_)
              · exact ⟨y0, y1, y2⟩
              clear y0 y1 y2
              have hb : Below v2.heap.size v2 v2.drew := (Below.refl _ _).drew
              have HOP := Lib.hid ((Kf.below hb).bk (show Bk _ ob 31 _ from HOP.out))
              have HL := Lib.hid (HL.out.below hb)
              have HR := Lib.hid (HR.out.below hb)
              have HB := Lib.hid (HB.out.trans (hb.mono HB.out.size))
              clear hb
              refine tkY 0 ?_ rfl hS ?_ ?_
              rotate_left
              · intro wz hz
                go_simp
                all_goals first | with_reducible rfl | omega
              try simp only [Act.put, pu]
              refine tkY 1 ?_ rfl hS ?_ ?_
              rotate_left
              · intro wz hz
                go_simp
                all_goals first | with_reducible rfl | omega
              try simp only [Act.put, pu]
              refine tkY 2 ?_ rfl hS ?_ ?_
              rotate_left
              · intro wz hz
                obtain ⟨z0, z1, z2⟩ := hz
                go_simp
                all_goals first | with_reducible rfl | omega
              try simp only [Act.put, pu]
              refine tkY 4 ?_ rfl hS ?_ ?_
              rotate_left
              · intro wz hz
                go_simp
                all_goals first | with_reducible rfl | omega
              try simp only [Act.put, pu]
              refine tkY 5 ?_ rfl hS ?_ ?_
              rotate_left
              · intro wz hz
                go_simp
                all_goals first | with_reducible rfl | omega
              try simp only [Act.put, pu]
              refine tkY 6 ?_ rfl hS ?_ ?_
              rotate_left
              · intro wz hz
                obtain ⟨z0, z1, z2⟩ := hz
                go_simp
                all_goals first | with_reducible rfl | omega
              try simp only [Act.put, pu]
              refine wpAnyH_ready (rs := [3]) (by kernel_rfl) (by simp) (AllReadyH.cons rfl (fun K' hK' => ?_) AllReadyH.nil)
              go_simp
              have HC := Lib.hid (ln_place HL.out id)
              rw [HPP.out] at HC
              refine HC.out.mono ?_
              clear HC
              rintro e t1 ⟨rfl, hb⟩
              have HOP := Lib.hid ((Kf.below hb).bk (show Bk _ ob 31 _ from HOP.out))
              have HL := Lib.hid (HL.out.below hb)
              have HR := Lib.hid (HR.out.below hb)
              have HB := Lib.hid (HB.out.trans (hb.mono HB.out.size))
              clear hb
              have hS2 : (fun w' => w'.cell? ⟨ob, 0, none⟩ = some (.int .i64 2) ∧ w'.cell? ⟨ob, 1, none⟩ = some (nV id) ∧ w'.cell? ⟨ob, 2, none⟩ = some (nV tl)) t1 := ⟨HOP.out.cell 0, HOP.out.cell 1, HOP.out.cell 2⟩
              refine hK'.out _ _ ?_ (fun hSn => ?_)
              · exact hS2
              clear hK' K' hS
              have hS := hSn
              clear hSn hS2
              try simp only [Act.put, pu]
              refine wpAnyH_ready (rs := [7]) (by kernel_rfl) (by simp) (AllReadyH.cons rfl (fun K' hK' => ?_) AllReadyH.nil)
              go_simp
              have HC := Lib.hid (rn_place HR.out id)
              rw [HPP.out] at HC
              refine HC.out.mono ?_
              clear HC
              rintro e t2 ⟨rfl, hb⟩
              have HOP := Lib.hid ((Kf.below hb).bk (show Bk _ ob 31 _ from HOP.out))
              have HL := Lib.hid (HL.out.below hb)
              have HR := Lib.hid (HR.out.below hb)
              have HB := Lib.hid (HB.out.trans (hb.mono HB.out.size))
              clear hb
              have hS2 : (fun w' => w'.cell? ⟨ob, 0, none⟩ = some (.int .i64 2) ∧ w'.cell? ⟨ob, 1, none⟩ = some (nV id) ∧ w'.cell? ⟨ob, 2, none⟩ = some (nV tl)) t2 := ⟨HOP.out.cell 0, HOP.out.cell 1, HOP.out.cell 2⟩
              refine hK'.out _ _ ?_ (fun hSn => ?_)
              · exact hS2
              clear hK' K' hS
              have hS := hSn
              clear hSn hS2
              try simp only [Act.put, pu]
              refine tkY 8 (.bool false) rfl hS ?_ ?_
              · intro wz hz
                go_simp
                all_goals first | with_reducible rfl | omega
              try simp only [Act.put, pu]
              refine tkY 9 (.bool false) rfl hS ?_ ?_
              · intro wz hz
                go_simp
                all_goals first | with_reducible rfl | omega
              try simp only [Act.put, pu]
              refine tkY 10 ?_ rfl hS ?_ ?_
              rotate_left
              · intro wz hz
                go_simp
                all_goals first | with_reducible rfl | omega
              try simp only [Act.put, pu]
              refine tkY 12 ?_ rfl hS ?_ ?_
              rotate_left
              · intro wz hz
                go_simp
                all_goals first | with_reducible rfl | omega
              try simp only [Act.put, pu]
              refine wpAnyH_ready (rs := [11]) (by kernel_rfl) (by simp) (AllReadyH.cons rfl (fun K' hK' => ?_) AllReadyH.nil)
              go_simp
              refine (ln_all HL.out).mono ?_
              rintro e t3 ⟨ra, rfl, hia, hb⟩
              have HOP := Lib.hid ((Kf.below hb).bk (show Bk _ ob 31 _ from HOP.out))
              have HL := Lib.hid (HL.out.below hb)
              have HR := Lib.hid (HR.out.below hb)
              have HB := Lib.hid (HB.out.trans (hb.mono HB.out.size))
              have HIA := Lib.hid hia
              obtain ⟨pa, pc, hra⟩ := hia.form
              rw [List.length_map] at hra
              subst hra
              clear hb hia
              have hS2 : (fun w' => w'.cell? ⟨ob, 0, none⟩ = some (.int .i64 2) ∧ w'.cell? ⟨ob, 1, none⟩ = some (nV id) ∧ w'.cell? ⟨ob, 2, none⟩ = some (nV tl)) t3 := ⟨HOP.out.cell 0, HOP.out.cell 1, HOP.out.cell 2⟩
              refine hK'.out _ _ ?_ (fun hSn => ?_)
              · exact hS2
              clear hK' K' hS
              have hS := hSn
              clear hSn hS2
              try simp only [Act.put, pu]
              refine wpAnyH_ready (rs := [13]) (by kernel_rfl) (by simp) (AllReadyH.cons rfl (fun K' hK' => ?_) AllReadyH.nil)
              go_simp
              refine (rn_all HR.out).mono ?_
              rintro e t4 ⟨rb, rfl, hib, hb⟩
              have HOP := Lib.hid ((Kf.below hb).bk (show Bk _ ob 31 _ from HOP.out))
              have HL := Lib.hid (HL.out.below hb)
              have HR := Lib.hid (HR.out.below hb)
              have HB := Lib.hid (HB.out.trans (hb.mono HB.out.size))
              have HIA := Lib.hid (HIA.out.below hb)
              have HIB := Lib.hid hib
              obtain ⟨qa, qc, hrb⟩ := hib.form
              rw [List.length_map] at hrb
              subst hrb
              clear hb hib
              have hS2 : (fun w' => w'.cell? ⟨ob, 0, none⟩ = some (.int .i64 2) ∧ w'.cell? ⟨ob, 1, none⟩ = some (nV id) ∧ w'.cell? ⟨ob, 2, none⟩ = some (nV tl)) t4 := ⟨HOP.out.cell 0, HOP.out.cell 1, HOP.out.cell 2⟩
              refine hK'.out _ _ ?_ (fun hSn => ?_)
              · exact hS2
              clear hK' K' hS
              have hS := hSn
              clear hSn hS2
              try simp only [Act.put, pu]
              refine wpAnyH_ready (rs := [14]) (by kernel_rfl) (by simp) (AllReadyH.cons rfl (fun K' hK' => ?_) AllReadyH.nil)
              go_simp
              have HC := Lib.hid (ints_any t4 _ _ _ _ HIA.out HIB.out (by rw [List.length_map]; have := HL.out.len; omega))
              rw [decide_eq_true rfl] at HC
              refine HC.out.mono ?_
              clear HC
              rintro e t5 ⟨rfl, hb⟩
              have HOP := Lib.hid ((Kf.below hb).bk (show Bk _ ob 31 _ from HOP.out))
              have HL := Lib.hid (HL.out.below hb)
              have HR := Lib.hid (HR.out.below hb)
              have HB := Lib.hid (HB.out.trans (hb.mono HB.out.size))
              clear hb
              have hS2 : (fun w' => w'.cell? ⟨ob, 0, none⟩ = some (.int .i64 2) ∧ w'.cell? ⟨ob, 1, none⟩ = some (nV id) ∧ w'.cell? ⟨ob, 2, none⟩ = some (nV tl)) t5 := ⟨HOP.out.cell 0, HOP.out.cell 1, HOP.out.cell 2⟩
              refine hK'.out _ _ ?_ (fun hSn => ?_)
              · exact hS2
              clear hK' K' hS
              have hS := hSn
              clear hSn hS2
              try simp only [Act.put, pu]
              refine tkY 15 (.bool false) rfl hS ?_ ?_
              · intro wz hz
                go_simp
                all_goals first | with_reducible rfl | omega
              try simp only [Act.put, pu]
              refine tkY 16 (.bool false) rfl hS ?_ ?_
              · intro wz hz
                go_simp
                all_goals first | with_reducible rfl | omega
              try simp only [Act.put, pu]
              refine wpAnyH_done (by kernel_rfl) ?_ _
              clear hS
              go_wp2
              go_roundg gk1
              case measure => exact Nat.lt_succ_self _
              case rel => exact ⟨i1, a, s1, rfl, rfl, HI1.out, HL.out, HR.out, HD.out, HB.out⟩
          · by_cases k3 : kd = 3
            · subst k3
              as_aux_lemma =>
                obtain ⟨s1, d1, hj⟩ : ∃ x y, lateS s tl = (x, y) := ⟨_, _, rfl⟩
                have HJ := Lib.hid hj
                have hd : Nd (lateS s tl).1 := HD.out.stay _
                have hdl : (lateS s tl).2.length ≤ 1000000 := Nat.le_trans (goneS_len _ s) (by have := HL.out.len; omega)
                rw [hj] at hd hdl
                have HD := Lib.hid (show Nd s1 from hd)
                have HDL := Lib.hid (show d1.length ≤ 1000000 from hdl)
                clear hj hd hdl
                have y0 : W7.cell? ⟨ob, 0, none⟩ = some (.int .i64 3) := HOP.out.cell 0
                have y1 : W7.cell? ⟨ob, 1, none⟩ = some (nV id) := HOP.out.cell 1
                have y2 : W7.cell? ⟨ob, 2, none⟩ = some (nV tl) := HOP.out.cell 2
                go_wp2_with fail
                try rw [hW7]
                try rw [hob]
                refine wp_region_held_drew (S := (fun w' => w'.cell? ⟨ob, 0, none⟩ = some (.int .i64 3) ∧ w'.cell? ⟨ob, 1, none⟩ = some (nV id) ∧ w'.cell? ⟨ob, 2, none⟩ = some (nV tl))) (by kernel_rfl) ?_ (fun hS => ?_)
                · exact ⟨y0, y1, y2⟩
                clear y0 y1 y2
                have hb : Below W7.heap.size W7 W7.drew := (Below.refl _ _).drew
                have HOP := Lib.hid ((Kf.below hb).bk (show Bk _ ob 31 _ from HOP.out))
                have HL := Lib.hid (HL.out.below hb)
                have HR := Lib.hid (HR.out.below hb)
                have HB := Lib.hid (HB.out.trans (hb.mono HB.out.size))
                clear hb
                clear hW7 hob
                clear x0 x1 x2
                refine tkY 0 ?_ rfl hS ?_ ?_
                rotate_left
                · intro wz hz
                  go_simp
                  all_goals first | with_reducible rfl | omega
                try simp only [Act.put, pu]
                refine tkY 1 ?_ rfl hS ?_ ?_
                rotate_left
                · intro wz hz
                  go_simp
                  all_goals first | with_reducible rfl | omega
                try simp only [Act.put, pu]
                refine tkY 2 ?_ rfl hS ?_ ?_
                rotate_left
                · intro wz hz
                  obtain ⟨z0, z1, z2⟩ := hz
                  go_simp
                  all_goals first | with_reducible rfl | omega
                try simp only [Act.put, pu]
                refine tkY 4 ?_ rfl hS ?_ ?_
                rotate_left
                · intro wz hz
                  go_simp
                  all_goals first | with_reducible rfl | omega
                try simp only [Act.put, pu]
                refine tkY 5 ?_ rfl hS ?_ ?_
                rotate_left
                · intro wz hz
                  go_simp
                  all_goals first | with_reducible rfl | omega
                try simp only [Act.put, pu]
                refine tkY 6 ?_ rfl hS ?_ ?_
                rotate_left
                · intro wz hz
                  obtain ⟨z0, z1, z2⟩ := hz
                  go_simp
                  all_goals first | with_reducible rfl | omega
                try simp only [Act.put, pu]
                refine wpAnyH_ready (rs := [3]) (by kernel_rfl) (by simp) (AllReadyH.cons rfl (fun K' hK' => ?_) AllReadyH.nil)
                go_simp
                have HC := Lib.hid (ln_late HL.out tl)
                rw [HJ.out] at HC
                refine HC.out.mono ?_
                clear HC
                rintro e v1 ⟨ra, rfl, hia, hs⟩
                have HOP := Lib.hid (hs.kf.bk (show Bk _ ob 31 _ from HOP.out))
                have HL := Lib.hid hs.lb
                have HR := Lib.hid (HR.out.kf hs.kf)
                have HB := Lib.hid (HB.out.trans hs.bel)
                have HIA := Lib.hid (show IS v1 ra d1 from hia)
                obtain ⟨pa, pc, hra⟩ := HIA.out.form
                subst hra
                clear hs hia
                have hS2 : (fun w' => w'.cell? ⟨ob, 0, none⟩ = some (.int .i64 3) ∧ w'.cell? ⟨ob, 1, none⟩ = some (nV id) ∧ w'.cell? ⟨ob, 2, none⟩ = some (nV tl)) v1 := ⟨HOP.out.cell 0, HOP.out.cell 1, HOP.out.cell 2⟩
                refine hK'.out _ _ ?_ (fun hSn => ?_)
                · exact hS2
                clear hK' K' hS
                have hS := hSn
                clear hSn hS2
                try simp only [Act.put, pu]
                refine wpAnyH_ready (rs := [7]) (by kernel_rfl) (by simp) (AllReadyH.cons rfl (fun K' hK' => ?_) AllReadyH.nil)
                go_simp
                have HC := Lib.hid (rn_late HR.out tl)
                rw [HJ.out] at HC
                refine HC.out.mono ?_
                clear HC
                rintro e v2 ⟨rb, rfl, hib, hs⟩
                have HOP := Lib.hid (hs.kr.bk (show Bk _ ob 31 _ from HOP.out))
                have HL := Lib.hid (HL.out.kr hs.kr)
                have HR := Lib.hid hs.rb
                have HB := Lib.hid (HB.out.trans hs.bel)
                have HIA := Lib.hid (HIA.out.ki hs.kr.ki)
                have HIB := Lib.hid (show IS v2 rb d1 from hib)
                obtain ⟨qa, qc, hrb⟩ := HIB.out.form
                subst hrb
                clear hs hib
                have hS2 : (fun w' => w'.cell? ⟨ob, 0, none⟩ = some (.int .i64 3) ∧ w'.cell? ⟨ob, 1, none⟩ = some (nV id) ∧ w'.cell? ⟨ob, 2, none⟩ = some (nV tl)) v2 := ⟨HOP.out.cell 0, HOP.out.cell 1, HOP.out.cell 2⟩
                refine hK'.out _ _ ?_ (fun hSn => ?_)
                · exact hS2
                clear hK' K' hS
                have hS := hSn
                clear hSn hS2
                try simp only [Act.put, pu]
                refine wpAnyH_ready (rs := [8]) (by kernel_rfl) (by simp) (AllReadyH.cons rfl (fun K' hK' => ?_) AllReadyH.nil)
                go_simp
                have HC := Lib.hid (ints_any v2 _ _ d1 d1 HIA.out HIB.out HDL.out)
                rw [decide_eq_true rfl] at HC
                refine HC.out.mono ?_
                clear HC
                rintro e v3 ⟨rfl, hb⟩
                have HOP := Lib.hid ((Kf.below hb).bk (show Bk _ ob 31 _ from HOP.out))
                have HL := Lib.hid (HL.out.below hb)
                have HR := Lib.hid (HR.out.below hb)
                have HB := Lib.hid (HB.out.trans (hb.mono HB.out.size))
                clear hb HIA HIB
                have hS2 : (fun w' => w'.cell? ⟨ob, 0, none⟩ = some (.int .i64 3) ∧ w'.cell? ⟨ob, 1, none⟩ = some (nV id) ∧ w'.cell? ⟨ob, 2, none⟩ = some (nV tl)) v3 := ⟨HOP.out.cell 0, HOP.out.cell 1, HOP.out.cell 2⟩
                refine hK'.out _ _ ?_ (fun hSn => ?_)
                · exact hS2
                clear hK' K' hS
                have hS := hSn
                clear hSn hS2
                try simp only [Act.put, pu]
                refine tkY 9 (.bool false) rfl hS ?_ ?_
                · intro wz hz
                  go_simp
                  all_goals first | with_reducible rfl | omega
                try simp only [Act.put, pu]
                refine wpAnyH_done (by kernel_rfl) ?_ _
                clear hS
                obtain ⟨P, hP⟩ : ∃ P, placeS s1 id = P := ⟨_, rfl⟩
                have HPP := Lib.hid hP
                clear hP
                have y0 : v3.cell? ⟨ob, 0, none⟩ = some (.int .i64 3) := HOP.out.cell 0
                have y1 : v3.cell? ⟨ob, 1, none⟩ = some (nV id) := HOP.out.cell 1
                have y2 : v3.cell? ⟨ob, 2, none⟩ = some (nV tl) := HOP.out.cell 2
                go_wp2_with fail
                refine wp_region_held_drew (S := (fun w' => w'.cell? ⟨ob, 0, none⟩ = some (.int .i64 3) ∧ w'.cell? ⟨ob, 1, none⟩ = some (nV id) ∧ w'.cell? ⟨ob, 2, none⟩ = some (nV tl))) (by kernel_rfl) ?_ (fun hS => ?_)
                · exact ⟨y0, y1, y2⟩
                clear y0 y1 y2
                have hb : Below v3.heap.size v3 v3.drew := (Below.refl _ _).drew
                have HOP := Lib.hid ((Kf.below hb).bk (show Bk _ ob 31 _ from HOP.out))
                have HL := Lib.hid (HL.out.below hb)
                have HR := Lib.hid (HR.out.below hb)
                have HB := Lib.hid (HB.out.trans (hb.mono HB.out.size))
                clear hb
                refine tkY 0 ?_ rfl hS ?_ ?_
                rotate_left
                · intro wz hz
                  go_simp
                  all_goals first | with_reducible rfl | omega
                try simp only [Act.put, pu]
                refine tkY 1 ?_ rfl hS ?_ ?_
                rotate_left
                · intro wz hz
                  go_simp
                  all_goals first | with_reducible rfl | omega
                try simp only [Act.put, pu]
                refine tkY 2 ?_ rfl hS ?_ ?_
                rotate_left
                · intro wz hz
                  obtain ⟨z0, z1, z2⟩ := hz
                  go_simp
                  all_goals first | with_reducible rfl | omega
                try simp only [Act.put, pu]
                refine tkY 4 ?_ rfl hS ?_ ?_
                rotate_left
                · intro wz hz
                  go_simp
                  all_goals first | with_reducible rfl | omega
                try simp only [Act.put, pu]
                refine tkY 5 ?_ rfl hS ?_ ?_
                rotate_left
                · intro wz hz
                  go_simp
                  all_goals first | with_reducible rfl | omega
                try simp only [Act.put, pu]
                refine tkY 6 ?_ rfl hS ?_ ?_
                rotate_left
                · intro wz hz
                  obtain ⟨z0, z1, z2⟩ := hz
                  go_simp
                  all_goals first | with_reducible rfl | omega
                try simp only [Act.put, pu]
                refine wpAnyH_ready (rs := [3]) (by kernel_rfl) (by simp) (AllReadyH.cons rfl (fun K' hK' => ?_) AllReadyH.nil)
                go_simp
                have HC := Lib.hid (ln_place HL.out id)
                rw [HPP.out] at HC
                refine HC.out.mono ?_
                clear HC
                rintro e t1 ⟨rfl, hb⟩
                have HOP := Lib.hid ((Kf.below hb).bk (show Bk _ ob 31 _ from HOP.out))
                have HL := Lib.hid (HL.out.below hb)
                have HR := Lib.hid (HR.out.below hb)
                have HB := Lib.hid (HB.out.trans (hb.mono HB.out.size))
                clear hb
                have hS2 : (fun w' => w'.cell? ⟨ob, 0, none⟩ = some (.int .i64 3) ∧ w'.cell? ⟨ob, 1, none⟩ = some (nV id) ∧ w'.cell? ⟨ob, 2, none⟩ = some (nV tl)) t1 := ⟨HOP.out.cell 0, HOP.out.cell 1, HOP.out.cell 2⟩
                refine hK'.out _ _ ?_ (fun hSn => ?_)
                · exact hS2
                clear hK' K' hS
                have hS := hSn
                clear hSn hS2
                try simp only [Act.put, pu]
                refine wpAnyH_ready (rs := [7]) (by kernel_rfl) (by simp) (AllReadyH.cons rfl (fun K' hK' => ?_) AllReadyH.nil)
                go_simp
                have HC := Lib.hid (rn_place HR.out id)
                rw [HPP.out] at HC
                refine HC.out.mono ?_
                clear HC
                rintro e t2 ⟨rfl, hb⟩
                have HOP := Lib.hid ((Kf.below hb).bk (show Bk _ ob 31 _ from HOP.out))
                have HL := Lib.hid (HL.out.below hb)
                have HR := Lib.hid (HR.out.below hb)
                have HB := Lib.hid (HB.out.trans (hb.mono HB.out.size))
                clear hb
                have hS2 : (fun w' => w'.cell? ⟨ob, 0, none⟩ = some (.int .i64 3) ∧ w'.cell? ⟨ob, 1, none⟩ = some (nV id) ∧ w'.cell? ⟨ob, 2, none⟩ = some (nV tl)) t2 := ⟨HOP.out.cell 0, HOP.out.cell 1, HOP.out.cell 2⟩
                refine hK'.out _ _ ?_ (fun hSn => ?_)
                · exact hS2
                clear hK' K' hS
                have hS := hSn
                clear hSn hS2
                try simp only [Act.put, pu]
                refine tkY 8 (.bool false) rfl hS ?_ ?_
                · intro wz hz
                  go_simp
                  all_goals first | with_reducible rfl | omega
                try simp only [Act.put, pu]
                refine tkY 9 (.bool false) rfl hS ?_ ?_
                · intro wz hz
                  go_simp
                  all_goals first | with_reducible rfl | omega
                try simp only [Act.put, pu]
                refine tkY 10 ?_ rfl hS ?_ ?_
                rotate_left
                · intro wz hz
                  go_simp
                  all_goals first | with_reducible rfl | omega
                try simp only [Act.put, pu]
                refine tkY 12 ?_ rfl hS ?_ ?_
                rotate_left
                · intro wz hz
                  go_simp
                  all_goals first | with_reducible rfl | omega
                try simp only [Act.put, pu]
                refine wpAnyH_ready (rs := [11]) (by kernel_rfl) (by simp) (AllReadyH.cons rfl (fun K' hK' => ?_) AllReadyH.nil)
                go_simp
                refine (ln_all HL.out).mono ?_
                rintro e t3 ⟨ra, rfl, hia, hb⟩
                have HOP := Lib.hid ((Kf.below hb).bk (show Bk _ ob 31 _ from HOP.out))
                have HL := Lib.hid (HL.out.below hb)
                have HR := Lib.hid (HR.out.below hb)
                have HB := Lib.hid (HB.out.trans (hb.mono HB.out.size))
                have HIA := Lib.hid hia
                obtain ⟨pa, pc, hra⟩ := hia.form
                rw [List.length_map] at hra
                subst hra
                clear hb hia
                have hS2 : (fun w' => w'.cell? ⟨ob, 0, none⟩ = some (.int .i64 3) ∧ w'.cell? ⟨ob, 1, none⟩ = some (nV id) ∧ w'.cell? ⟨ob, 2, none⟩ = some (nV tl)) t3 := ⟨HOP.out.cell 0, HOP.out.cell 1, HOP.out.cell 2⟩
                refine hK'.out _ _ ?_ (fun hSn => ?_)
                · exact hS2
                clear hK' K' hS
                have hS := hSn
                clear hSn hS2
                try simp only [Act.put, pu]
                refine wpAnyH_ready (rs := [13]) (by kernel_rfl) (by simp) (AllReadyH.cons rfl (fun K' hK' => ?_) AllReadyH.nil)
                go_simp
                refine (rn_all HR.out).mono ?_
                rintro e t4 ⟨rb, rfl, hib, hb⟩
                have HOP := Lib.hid ((Kf.below hb).bk (show Bk _ ob 31 _ from HOP.out))
                have HL := Lib.hid (HL.out.below hb)
                have HR := Lib.hid (HR.out.below hb)
                have HB := Lib.hid (HB.out.trans (hb.mono HB.out.size))
                have HIA := Lib.hid (HIA.out.below hb)
                have HIB := Lib.hid hib
                obtain ⟨qa, qc, hrb⟩ := hib.form
                rw [List.length_map] at hrb
                subst hrb
                clear hb hib
                have hS2 : (fun w' => w'.cell? ⟨ob, 0, none⟩ = some (.int .i64 3) ∧ w'.cell? ⟨ob, 1, none⟩ = some (nV id) ∧ w'.cell? ⟨ob, 2, none⟩ = some (nV tl)) t4 := ⟨HOP.out.cell 0, HOP.out.cell 1, HOP.out.cell 2⟩
                refine hK'.out _ _ ?_ (fun hSn => ?_)
                · exact hS2
                clear hK' K' hS
                have hS := hSn
                clear hSn hS2
                try simp only [Act.put, pu]
                refine wpAnyH_ready (rs := [14]) (by kernel_rfl) (by simp) (AllReadyH.cons rfl (fun K' hK' => ?_) AllReadyH.nil)
                go_simp
                have HC := Lib.hid (ints_any t4 _ _ _ _ HIA.out HIB.out (by rw [List.length_map]; have := HL.out.len; omega))
                rw [decide_eq_true rfl] at HC
                refine HC.out.mono ?_
                clear HC
                rintro e t5 ⟨rfl, hb⟩
                have HOP := Lib.hid ((Kf.below hb).bk (show Bk _ ob 31 _ from HOP.out))
                have HL := Lib.hid (HL.out.below hb)
                have HR := Lib.hid (HR.out.below hb)
                have HB := Lib.hid (HB.out.trans (hb.mono HB.out.size))
                clear hb
                have hS2 : (fun w' => w'.cell? ⟨ob, 0, none⟩ = some (.int .i64 3) ∧ w'.cell? ⟨ob, 1, none⟩ = some (nV id) ∧ w'.cell? ⟨ob, 2, none⟩ = some (nV tl)) t5 := ⟨HOP.out.cell 0, HOP.out.cell 1, HOP.out.cell 2⟩
                refine hK'.out _ _ ?_ (fun hSn => ?_)
                · exact hS2
                clear hK' K' hS
                have hS := hSn
                clear hSn hS2
                try simp only [Act.put, pu]
                refine tkY 15 (.bool false) rfl hS ?_ ?_
                · intro wz hz
                  go_simp
                  all_goals first | with_reducible rfl | omega
                try simp only [Act.put, pu]
                refine tkY 16 (.bool false) rfl hS ?_ ?_
                · intro wz hz
                  go_simp
                  all_goals first | with_reducible rfl | omega
                try simp only [Act.put, pu]
                refine wpAnyH_done (by kernel_rfl) ?_ _
                clear hS
                go_wp2
                go_roundg gk1
                case measure => exact Nat.lt_succ_self _
                case rel => exact ⟨i1, a, s1, rfl, rfl, HI1.out, HL.out, HR.out, HD.out, HB.out⟩
            · as_aux_lemma =>
                have HC := Lib.hid (l2_copy HL.out)
                have y0 : W7.cell? ⟨ob, 0, none⟩ = some (nV kd) := HOP.out.cell 0
                have y1 : W7.cell? ⟨ob, 1, none⟩ = some (nV id) := HOP.out.cell 1
                have y2 : W7.cell? ⟨ob, 2, none⟩ = some (nV tl) := HOP.out.cell 2
                go_wp2_with fail
                try rw [hW7]
                try rw [hob]
                refine HC.out.mono ?_
                clear HC hW7 hob
                clear x0 x1 x2
                clear y0 y1 y2
                rintro e v1 ⟨c, rfl, h2, hbel, hkf⟩
                have HOP := Lib.hid (hkf.bk (show Bk _ ob 31 _ from HOP.out))
                have HR := Lib.hid (HR.out.kf hkf)
                have HB := Lib.hid (HB.out.trans hbel)
                have H2 := Lib.hid h2
                clear h2 hbel hkf
                have HC := Lib.hid (l2_join H2.out id 1)
                have y0 : v1.cell? ⟨ob, 0, none⟩ = some (nV kd) := HOP.out.cell 0
                have y1 : v1.cell? ⟨ob, 1, none⟩ = some (nV id) := HOP.out.cell 1
                have y2 : v1.cell? ⟨ob, 2, none⟩ = some (nV tl) := HOP.out.cell 2
                go_wp2_with fail
                refine HC.out.mono ?_
                clear HC
                clear y0 y1 y2
                rintro e v2 ⟨q1, la, rfl, h2, hbel, hkf⟩
                have HOP := Lib.hid (hkf.bk (show Bk _ ob 31 _ from HOP.out))
                have HR := Lib.hid (HR.out.kf hkf)
                have HB := Lib.hid (HB.out.trans hbel)
                have H2 := Lib.hid h2
                clear h2 hbel hkf
                have HC := Lib.hid (l2_first H2.out)
                have y0 : v2.cell? ⟨ob, 0, none⟩ = some (nV kd) := HOP.out.cell 0
                have y1 : v2.cell? ⟨ob, 1, none⟩ = some (nV id) := HOP.out.cell 1
                have y2 : v2.cell? ⟨ob, 2, none⟩ = some (nV tl) := HOP.out.cell 2
                go_wp2_with fail
                refine HC.out.mono ?_
                clear HC
                clear y0 y1 y2
                rintro e v3 ⟨q2, q3, lb, rfl, h2, hbel, hkf⟩
                have HOP := Lib.hid (hkf.bk (show Bk _ ob 31 _ from HOP.out))
                have HR := Lib.hid (HR.out.kf hkf)
                have HB := Lib.hid (HB.out.trans hbel)
                have H2 := Lib.hid h2
                clear h2 hbel hkf
                have HC := Lib.hid (l2_late H2.out 1099511627776)
                have y0 : v3.cell? ⟨ob, 0, none⟩ = some (nV kd) := HOP.out.cell 0
                have y1 : v3.cell? ⟨ob, 1, none⟩ = some (nV id) := HOP.out.cell 1
                have y2 : v3.cell? ⟨ob, 2, none⟩ = some (nV tl) := HOP.out.cell 2
                go_wp2_with fail
                refine HC.out.mono ?_
                clear HC
                clear y0 y1 y2
                rintro e v4 ⟨q4, rfl, h2, hbel, hkf⟩
                have HOP := Lib.hid (hkf.bk (show Bk _ ob 31 _ from HOP.out))
                have HR := Lib.hid (HR.out.kf hkf)
                have HB := Lib.hid (HB.out.trans hbel)
                have HL := Lib.hid h2
                clear h2 hbel hkf H2
                obtain ⟨P, hP⟩ : ∃ P, placeS s id = P := ⟨_, rfl⟩
                have HPP := Lib.hid hP
                clear hP
                have y0 : v4.cell? ⟨ob, 0, none⟩ = some (nV kd) := HOP.out.cell 0
                have y1 : v4.cell? ⟨ob, 1, none⟩ = some (nV id) := HOP.out.cell 1
                have y2 : v4.cell? ⟨ob, 2, none⟩ = some (nV tl) := HOP.out.cell 2
                go_wp2_with fail
                refine wp_region_held_drew (S := (fun w' => w'.cell? ⟨ob, 0, none⟩ = some (.int .i64 kd) ∧ w'.cell? ⟨ob, 1, none⟩ = some (nV id) ∧ w'.cell? ⟨ob, 2, none⟩ = some (nV tl))) (by kernel_rfl) ?_ (fun hS => ?_)
                · exact ⟨y0, y1, y2⟩
                clear y0 y1 y2
                have hb : Below v4.heap.size v4 v4.drew := (Below.refl _ _).drew
                have HOP := Lib.hid ((Kf.below hb).bk (show Bk _ ob 31 _ from HOP.out))
                have HL := Lib.hid (HL.out.below hb)
                have HR := Lib.hid (HR.out.below hb)
                have HB := Lib.hid (HB.out.trans (hb.mono HB.out.size))
                clear hb
                refine tkY 0 ?_ rfl hS ?_ ?_
                rotate_left
                · intro wz hz
                  go_simp
                  all_goals first | with_reducible rfl | omega
                try simp only [Act.put, pu]
                refine tkY 1 ?_ rfl hS ?_ ?_
                rotate_left
                · intro wz hz
                  go_simp
                  all_goals first | with_reducible rfl | omega
                try simp only [Act.put, pu]
                refine tkY 2 ?_ rfl hS ?_ ?_
                rotate_left
                · intro wz hz
                  obtain ⟨z0, z1, z2⟩ := hz
                  go_simp
                  all_goals first | with_reducible rfl | omega
                try simp only [Act.put, pu]
                refine tkY 4 ?_ rfl hS ?_ ?_
                rotate_left
                · intro wz hz
                  go_simp
                  all_goals first | with_reducible rfl | omega
                try simp only [Act.put, pu]
                refine tkY 5 ?_ rfl hS ?_ ?_
                rotate_left
                · intro wz hz
                  go_simp
                  all_goals first | with_reducible rfl | omega
                try simp only [Act.put, pu]
                refine tkY 6 ?_ rfl hS ?_ ?_
                rotate_left
                · intro wz hz
                  obtain ⟨z0, z1, z2⟩ := hz
                  go_simp
                  all_goals first | with_reducible rfl | omega
                try simp only [Act.put, pu]
                refine wpAnyH_ready (rs := [3]) (by kernel_rfl) (by simp) (AllReadyH.cons rfl (fun K' hK' => ?_) AllReadyH.nil)
                go_simp
                have HC := Lib.hid (ln_place HL.out id)
                rw [HPP.out] at HC
                refine HC.out.mono ?_
                clear HC
                rintro e t1 ⟨rfl, hb⟩
                have HOP := Lib.hid ((Kf.below hb).bk (show Bk _ ob 31 _ from HOP.out))
                have HL := Lib.hid (HL.out.below hb)
                have HR := Lib.hid (HR.out.below hb)
                have HB := Lib.hid (HB.out.trans (hb.mono HB.out.size))
                clear hb
                have hS2 : (fun w' => w'.cell? ⟨ob, 0, none⟩ = some (.int .i64 kd) ∧ w'.cell? ⟨ob, 1, none⟩ = some (nV id) ∧ w'.cell? ⟨ob, 2, none⟩ = some (nV tl)) t1 := ⟨HOP.out.cell 0, HOP.out.cell 1, HOP.out.cell 2⟩
                refine hK'.out _ _ ?_ (fun hSn => ?_)
                · exact hS2
                clear hK' K' hS
                have hS := hSn
                clear hSn hS2
                try simp only [Act.put, pu]
                refine wpAnyH_ready (rs := [7]) (by kernel_rfl) (by simp) (AllReadyH.cons rfl (fun K' hK' => ?_) AllReadyH.nil)
                go_simp
                have HC := Lib.hid (rn_place HR.out id)
                rw [HPP.out] at HC
                refine HC.out.mono ?_
                clear HC
                rintro e t2 ⟨rfl, hb⟩
                have HOP := Lib.hid ((Kf.below hb).bk (show Bk _ ob 31 _ from HOP.out))
                have HL := Lib.hid (HL.out.below hb)
                have HR := Lib.hid (HR.out.below hb)
                have HB := Lib.hid (HB.out.trans (hb.mono HB.out.size))
                clear hb
                have hS2 : (fun w' => w'.cell? ⟨ob, 0, none⟩ = some (.int .i64 kd) ∧ w'.cell? ⟨ob, 1, none⟩ = some (nV id) ∧ w'.cell? ⟨ob, 2, none⟩ = some (nV tl)) t2 := ⟨HOP.out.cell 0, HOP.out.cell 1, HOP.out.cell 2⟩
                refine hK'.out _ _ ?_ (fun hSn => ?_)
                · exact hS2
                clear hK' K' hS
                have hS := hSn
                clear hSn hS2
                try simp only [Act.put, pu]
                refine tkY 8 (.bool false) rfl hS ?_ ?_
                · intro wz hz
                  go_simp
                  all_goals first | with_reducible rfl | omega
                try simp only [Act.put, pu]
                refine tkY 9 (.bool false) rfl hS ?_ ?_
                · intro wz hz
                  go_simp
                  all_goals first | with_reducible rfl | omega
                try simp only [Act.put, pu]
                refine tkY 10 ?_ rfl hS ?_ ?_
                rotate_left
                · intro wz hz
                  go_simp
                  all_goals first | with_reducible rfl | omega
                try simp only [Act.put, pu]
                refine tkY 12 ?_ rfl hS ?_ ?_
                rotate_left
                · intro wz hz
                  go_simp
                  all_goals first | with_reducible rfl | omega
                try simp only [Act.put, pu]
                refine wpAnyH_ready (rs := [11]) (by kernel_rfl) (by simp) (AllReadyH.cons rfl (fun K' hK' => ?_) AllReadyH.nil)
                go_simp
                refine (ln_all HL.out).mono ?_
                rintro e t3 ⟨ra, rfl, hia, hb⟩
                have HOP := Lib.hid ((Kf.below hb).bk (show Bk _ ob 31 _ from HOP.out))
                have HL := Lib.hid (HL.out.below hb)
                have HR := Lib.hid (HR.out.below hb)
                have HB := Lib.hid (HB.out.trans (hb.mono HB.out.size))
                have HIA := Lib.hid hia
                obtain ⟨pa, pc, hra⟩ := hia.form
                rw [List.length_map] at hra
                subst hra
                clear hb hia
                have hS2 : (fun w' => w'.cell? ⟨ob, 0, none⟩ = some (.int .i64 kd) ∧ w'.cell? ⟨ob, 1, none⟩ = some (nV id) ∧ w'.cell? ⟨ob, 2, none⟩ = some (nV tl)) t3 := ⟨HOP.out.cell 0, HOP.out.cell 1, HOP.out.cell 2⟩
                refine hK'.out _ _ ?_ (fun hSn => ?_)
                · exact hS2
                clear hK' K' hS
                have hS := hSn
                clear hSn hS2
                try simp only [Act.put, pu]
                refine wpAnyH_ready (rs := [13]) (by kernel_rfl) (by simp) (AllReadyH.cons rfl (fun K' hK' => ?_) AllReadyH.nil)
                go_simp
                refine (rn_all HR.out).mono ?_
                rintro e t4 ⟨rb, rfl, hib, hb⟩
                have HOP := Lib.hid ((Kf.below hb).bk (show Bk _ ob 31 _ from HOP.out))
                have HL := Lib.hid (HL.out.below hb)
                have HR := Lib.hid (HR.out.below hb)
                have HB := Lib.hid (HB.out.trans (hb.mono HB.out.size))
                have HIA := Lib.hid (HIA.out.below hb)
                have HIB := Lib.hid hib
                obtain ⟨qa, qc, hrb⟩ := hib.form
                rw [List.length_map] at hrb
                subst hrb
                clear hb hib
                have hS2 : (fun w' => w'.cell? ⟨ob, 0, none⟩ = some (.int .i64 kd) ∧ w'.cell? ⟨ob, 1, none⟩ = some (nV id) ∧ w'.cell? ⟨ob, 2, none⟩ = some (nV tl)) t4 := ⟨HOP.out.cell 0, HOP.out.cell 1, HOP.out.cell 2⟩
                refine hK'.out _ _ ?_ (fun hSn => ?_)
                · exact hS2
                clear hK' K' hS
                have hS := hSn
                clear hSn hS2
                try simp only [Act.put, pu]
                refine wpAnyH_ready (rs := [14]) (by kernel_rfl) (by simp) (AllReadyH.cons rfl (fun K' hK' => ?_) AllReadyH.nil)
                go_simp
                have HC := Lib.hid (ints_any t4 _ _ _ _ HIA.out HIB.out (by rw [List.length_map]; have := HL.out.len; omega))
                rw [decide_eq_true rfl] at HC
                refine HC.out.mono ?_
                clear HC
                rintro e t5 ⟨rfl, hb⟩
                have HOP := Lib.hid ((Kf.below hb).bk (show Bk _ ob 31 _ from HOP.out))
                have HL := Lib.hid (HL.out.below hb)
                have HR := Lib.hid (HR.out.below hb)
                have HB := Lib.hid (HB.out.trans (hb.mono HB.out.size))
                clear hb
                have hS2 : (fun w' => w'.cell? ⟨ob, 0, none⟩ = some (.int .i64 kd) ∧ w'.cell? ⟨ob, 1, none⟩ = some (nV id) ∧ w'.cell? ⟨ob, 2, none⟩ = some (nV tl)) t5 := ⟨HOP.out.cell 0, HOP.out.cell 1, HOP.out.cell 2⟩
                refine hK'.out _ _ ?_ (fun hSn => ?_)
                · exact hS2
                clear hK' K' hS
                have hS := hSn
                clear hSn hS2
                try simp only [Act.put, pu]
                refine tkY 15 (.bool false) rfl hS ?_ ?_
                · intro wz hz
                  go_simp
                  all_goals first | with_reducible rfl | omega
                try simp only [Act.put, pu]
                refine tkY 16 (.bool false) rfl hS ?_ ?_
                · intro wz hz
                  go_simp
                  all_goals first | with_reducible rfl | omega
                try simp only [Act.put, pu]
                refine wpAnyH_done (by kernel_rfl) ?_ _
                clear hS
                go_wp2
                go_roundg gk1
                case measure => exact Nat.lt_succ_self _
                case rel => exact ⟨i1, c, s, rfl, rfl, HI1.out, HL.out, HR.out, HD.out, HB.out⟩
theorem plays_law (n : Int) (v : Value) (w : World) (hn : (Lit.int .i64 n).wf = true) (hv : FitsOp w v) :
    Calls Try.prog 3 #[nV n, v] w (RdP (.bool true) w) := by
  obtain ⟨l, hl⟩ := hv
  by_cases h : 1 ≤ n ∧ n ≤ 10000
  · obtain ⟨m, rfl⟩ : ∃ m : Nat, n = (m : Int) := ⟨n.toNat, by omega⟩
    exact plays_any m (by omega) v l w hl
  · exact plays_wrong n (by omega) v l w hl
end Go.Proofs.Ytckodebcigmkgaa.LN
