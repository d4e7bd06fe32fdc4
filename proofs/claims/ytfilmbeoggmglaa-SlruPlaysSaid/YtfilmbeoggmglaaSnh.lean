/- SlruPlays' walk. -/
import Derived.Test.YtfilmbeoggmglaaSng
import Derived.Deep.CutBlock
import Derived.Deep.DeepCutAuto
namespace Go.Proofs.Ytfilmbeoggmglaa.SL
open Go.ChangeShapes Go.WideShapes Go.ChangeAt Go.RowKit Go.Maps Go.ChangeMaps
set_option maxRecDepth 100000
set_option linter.unusedVariables false
set_option linter.unusedSimpArgs false

abbrev spoilt : ByteArray := ⟨#[115, 112, 111, 105, 108, 116]⟩
set_option maxHeartbeats 16000000 in
theorem plays_any (v0 v1 : Value) (w : World) (hf : Fits3i v0) (ho : FitsO w v1) :
    Calls Try.prog 3 #[v0, v1] w fun e w' => e = .returned (.bool true) ∧ Below w.heap.size w w' := by
  obtain ⟨al, ke, mo, rfl⟩ := hf
  obtain ⟨l, hl⟩ := ho
  obtain ⟨va, vc, rfl⟩ := hl.form
  have HL := Lib.hid hl
  have hBW := (Below.refl w.heap.size w).alloc (Nat.le_refl _) (.cells #[.int .i64 al, .int .i64 ke, .int .i64 mo] 22)
  have HBW := Lib.hid hBW
  clear hl hBW
  by_cases hok : okB al ke mo
  case neg =>
    have HOK := Lib.hid hok
    clear hok
    go_enter Try.func3, Try.ntmps3
    go_wp2_with fail
    refine (new_no al ke mo _ HOK.out).mono ?_
    rintro e w' ⟨rfl, rfl⟩
    go_wp2_with fail
    refine (rnew_no al ke mo _ HOK.out).mono ?_
    rintro e w2 ⟨rfl, hb2⟩
    have HB2 := Lib.hid (HBW.out.trans (hb2.mono HBW.out.size))
    clear hb2
    go_wp2_with fail
    go_loopg [5, 9] 1 (fun gk u5 u9 wx => u5 = .pointer none ∧ u9 = .int .i64 0 ∧ Below w.heap.size w wx)
    case atStart => exact ⟨rfl, rfl, HB2.out⟩
    case round =>
      obtain ⟨rfl, rfl, hbel⟩ := hrel
      have HBEL := Lib.hid hbel
      clear hbel HB2
      by_cases hlt : 0 < l.length
      · have l1 : (0 : Int) < (l.length : Int) := by omega
        clear hlt
        go_wp2_with fail
        refine (known_any _).mono ?_
        rintro e wk ⟨rfl, hk⟩
        have HK := Lib.hid hk
        clear hk
        go_wp2
        go_ret
        exact ⟨rfl, HBEL.out.trans (HK.out.mono HBEL.out.size)⟩
      · have l1 : ¬ ((0 : Int) < (l.length : Int)) := by omega
        clear hlt
        go_wp2_with fail
        refine (known_any _).mono ?_
        rintro e wk ⟨rfl, hk⟩
        have HK := Lib.hid hk
        clear hk
        go_wp2
        go_ret
        exact ⟨rfl, HBEL.out.trans (HK.out.mono HBEL.out.size)⟩
  case pos =>
    have HOK := Lib.hid hok
    clear hok
    go_enter Try.func3, Try.ntmps3
    go_wp2_with fail
    refine (new_yes al ke mo _ HOK.out).mono ?_
    rintro e w1 ⟨g0, x0, rfl, s1, s2, s3, s4, s5⟩
    have H1 : Hid (LS w w1 g0 0 al ke mo [] [] []) := Lib.hid ⟨x0, s1, s2, s3, fun b hb => Nat.le_trans HBW.out.size (s4 b hb), HBW.out.trans (s5.mono HBW.out.size), fun p hp => by simp at hp⟩
    have hbk : Bk w1 w.heap.size 22 #[.int .i64 al, .int .i64 ke, .int .i64 mo] := (Bk.new w _ _).below s5
    have q0 := hbk.cell 0
    have q1 := hbk.cell 1
    have q2 := hbk.cell 2
    have HB1 := Lib.hid (HBW.out.trans (s5.mono HBW.out.size))
    clear s1 s2 s3 s4 s5 hbk
    go_wp2_with fail
    refine (rnew_yes w _ HB1.out al ke mo HOK.out).mono ?_
    rintro e w2 ⟨r, rfl, r1, r2⟩
    have H2 : Hid (LR w w2 g0 0 al ke mo [] [] r [] [] []) := Lib.hid (LR.mk (H1.out.below r2) r1)
    have HNIL := Lib.hid (OkE.nil (mo := mo) HOK.out)
    have HKE0 : Hid (0 ≤ ke) := Lib.hid (by have := HOK.out; unfold okB at this; omega)
    have HMO : Hid (mo ≤ al ∧ al ≤ 1073741824) := Lib.hid (by have := HOK.out; unfold okB at this; omega)
    have HMO1 : Hid (1 ≤ mo) := Lib.hid (by have := HOK.out; unfold okB at this; omega)
    clear r1 r2 q0 q1 q2 H1 HB1
    go_wp2_with fail
    go_loopg [5, 9] 60 (fun gk u5 u9 wx => ∃ (i n g : Nat) (T K : List En), u5 = ptr g ∧ u9 = .int .i64 (i : Int) ∧ i + gk = 60 ∧ i ≤ l.length ∧ n ≤ 1073741824 + i ∧ LR w wx g n al ke mo T K r T K [] ∧ OkE al ke mo T K)
    case atStart => exact ⟨0, 0, g0, [], [], rfl, rfl, by omega, by omega, by omega, H2.out, HNIL.out⟩
    case round =>
      obtain ⟨i, n, g, T, K, rfl, rfl, hi, hil, hni, hS, hOk⟩ := hrel
      have HS := Lib.hid hS
      have HBEL := Lib.hid hS.ls.bel
      have HOk := Lib.hid hOk
      have HNI : Hid (n ≤ 1073741884) := Lib.hid (by omega)
      clear H2
      cases gk with
      | zero =>
        have hi60 : i = 60 := by omega
        subst hi60
        clear hS hOk hi hni
        by_cases hlt : 60 < l.length
        · have l1 : (60 : Int) < (l.length : Int) := by omega
          have l1' : ((60 : Nat) : Int) < (l.length : Int) := by omega
          clear hlt hil
          go_wp2_with fail
          refine (known_any _).mono ?_
          rintro e wk ⟨rfl, hk⟩
          have HK := Lib.hid hk
          clear hk
          go_wp2
          go_ret
          exact ⟨rfl, HBEL.out.trans (HK.out.mono HBEL.out.size)⟩
        · have l1 : ¬ ((60 : Int) < (l.length : Int)) := by omega
          have l1' : ¬ (((60 : Nat) : Int) < (l.length : Int)) := by omega
          clear hlt hil
          go_wp2_with fail
          refine (known_any _).mono ?_
          rintro e wk ⟨rfl, hk⟩
          have HK := Lib.hid hk
          clear hk
          go_wp2
          go_ret
          exact ⟨rfl, HBEL.out.trans (HK.out.mono HBEL.out.size)⟩
      | succ gko =>
        have i60 : (i : Int) < 60 := by omega
        by_cases hlt : i < l.length
        · have l1 : (i : Int) < (l.length : Int) := by omega
          have l0 : (0 : Int) ≤ (i : Int) := by omega
          obtain ⟨i1, hi1⟩ : ∃ i1, i + 1 = i1 := ⟨_, rfl⟩
          have wk : IntKind.i64.wrap ((i : Int) + 1) = (i1 : Int) := by rw [show (i : Int) + 1 = (i1 : Int) by omega]; exact IntWalk.i64_in _ (by omega)
          have HI1 : Hid (i1 + gko = 60 ∧ i1 ≤ l.length ∧ n + 1 ≤ 1073741824 + i1 ∧ 1 ≤ i1) := Lib.hid ⟨by omega, by omega, by omega, by omega⟩
          have hop := HL.out.below hS.ls.bel
          obtain ⟨ob, oo, oc, he, hcp, hx⟩ := hop.inv (by omega)
          injection he with he1 _ he3
          subst he1 he3
          obtain ⟨op, hop0⟩ : ∃ o, l[i] = o := ⟨_, rfl⟩
          obtain ⟨⟨q0, q1⟩, x0, x1, x2⟩ := hx i op (by rw [List.getElem?_eq_getElem hlt, hop0])
          obtain ⟨kd, k, z⟩ := op
          simp only at x0 x1 x2 q0 q1
          have HBX := Lib.hid (hS.box 32 #[.int .i64 kd, .string k, .int .i64 z])
          obtain ⟨ob2, hob2⟩ : ∃ x, wr.heap.size = x := ⟨_, rfl⟩
          have HPT := Lib.hid hS.ls.pos.1
          have HPK := Lib.hid hS.ls.pos.2
          have HUK := Lib.hid hS.ls.uk
          have HLN := Lib.hid hS.ls.lens
          have HZ := Lib.hid q1
          have HKL := Lib.hid (kLe_of hOk)
          clear hS hOk hi hil hni hlt hi1 hop hcp hx hop0 q0 q1
          by_cases h100 : k.size ≤ 100
          · have k100 : ¬ ((100 : Int) < (k.size : Int)) := by omega
            have HK100 := Lib.hid h100
            have HKB : Hid (k.size ≤ 281474976710656) := Lib.hid (by omega)
            clear h100
            obtain ⟨W1, hW1⟩ : ∃ W, wr.alloc (.cells #[.int .i64 kd, .string k, .int .i64 z] 32) = W := ⟨_, rfl⟩
            rw [hW1, hob2] at HBX
            have hbk := HBX.out.ls.blk (List.mem_cons_self ..)
            have q0 := hbk.cell 0
            have q1 := hbk.cell 1
            have q2 := hbk.cell 2
            clear hbk
            go_upto_block 2 with fail
            try rw [hW1]
            try rw [hob2]
            go_cut [5] (fun s5 wx => ∃ n2 g2 T2 K2, s5 = ptr g2 ∧ n2 ≤ 1073741824 + i1 ∧ LR w wx g2 n2 al ke mo T2 K2 r T2 K2 [.blk ob2 32 #[.int .i64 kd, .string k, .int .i64 z]] ∧ OkE al ke mo T2 K2)
            case first =>
              have H := HBX
              clear HBX hW1 hob2
              by_cases e0 : kd = 0
              · subst e0
                by_cases hz1 : 1 ≤ z
                · by_cases hzm : z ≤ mo
                  · as_aux_lemma =>
                      obtain ⟨T2, K2, G, hR⟩ : ∃ T2 K2 G, putE al k z T K = (T2, K2, G) := ⟨_, _, _, rfl⟩
                      have hok2 : OkE al ke mo T2 K2 := by have h := HOk.out.put HPT.out HPK.out k HK100.out z (by have := HMO.out; omega); rw [hR] at h; exact h
                      have HOk2 := Lib.hid hok2
                      have HRR := Lib.hid hR
                      have zM : z ≤ mo := hzm
                      have z1 : 1 ≤ z := hz1
                      clear hok2 hR
                      go_wp2_with fail
                      refine (lr_put H.out HMO.out (by have := HNI.out; omega) HKL.out.1 HKL.out.2 k HKB.out z hz1 hzm T2 K2 G HRR.out).mono ?_
                      rintro e w2 ⟨v2, c2, rfl, h2⟩
                      have H := Lib.hid h2
                      have hbk := h2.ls.blk (List.mem_cons_of_mem _ (List.mem_cons_self ..))
                      have q0 := hbk.cell 0
                      have q1 := hbk.cell 1
                      have q2 := hbk.cell 2
                      clear hbk
                      clear h2
                      go_wp2_with fail
                      refine (lr_rput H.out allTxt.nil.box.cons HUK.out HPT.out HPK.out HLN.out.2 HMO.out k z hz1 hzm T2 K2 G HRR.out).mono ?_
                      rintro e w3 ⟨v3, c3, rfl, h3⟩
                      have hlG : G.length ≤ 2000000000 := by
                        have e2 := HLN.out.1
                        have e3 := put_len (al := al) (k := k) (z := z) (T := T) (K := K)
                        rw [HRR.out] at e3
                        simp only at e3
                        omega
                      have HLG := Lib.hid hlG
                      have H := Lib.hid h3
                      clear h3 q0 q1 q2 hlG
                      go_wp2_with fail
                      refine (lb_texts H.out (List.mem_cons_of_mem _ (List.mem_cons_self ..)) (List.mem_cons_self ..) HLG.out HLG.out true (by simp)).mono ?_
                      rintro e w9 ⟨rfl, m9, hw9⟩
                      have H := Lib.hid ((H.out.forget (O' := [.blk ob2 32 #[.int .i64 0, .string k, .int .i64 z]]) (fun p hp => List.mem_cons_of_mem _ (List.mem_cons_of_mem _ hp))).below (show Below _ _ w9 from by rw [hw9]; exact below_drewN _ _ _))
                      clear hw9
                      go_wp2_with fail
                      go_meet
                      exact ⟨n + 1, g, T2, K2, rfl, by have := HI1.out.2.2; omega, H.out, HOk2.out⟩
                  · as_aux_lemma =>
                      have zM : ¬ (z ≤ mo) := hzm
                      have z1 : 1 ≤ z := hz1
                      go_wp2_with fail
                      refine (ls_big H.out.ls k z hz1 (by omega)).mono ?_
                      rintro e w2 ⟨rfl, rfl⟩
                      go_wp2_with fail
                      refine (rput_big w W1 r al ke mo T K H.out.rs k z hz1 (by omega)).mono ?_
                      rintro e w2 ⟨rfl, rfl⟩
                      go_wp2_with fail
                      refine (texts_any (.slice none 0 0) (.slice none 0 0) [] [] _ (OT.nil 0 _).ts (OT.nil 0 _).ts (by simp) (by simp)).mono ?_
                      rintro e w9 ⟨rfl, m9, hw9⟩
                      have H := Lib.hid (H.out.below (show Below _ _ w9 from by rw [hw9]; exact below_drewN _ _ _))
                      clear hw9
                      go_wp2_with fail
                      go_meet
                      exact ⟨n, g, T, K, rfl, by have := HI1.out.2.2; omega, H.out, HOk.out⟩
                · as_aux_lemma =>
                    have z1 : ¬ (1 ≤ z) := hz1
                    go_wp2_with fail
                    refine (ls_low H.out.ls k z (by omega)).mono ?_
                    rintro e w2 ⟨rfl, rfl⟩
                    go_wp2_with fail
                    refine (rput_low w W1 r al ke mo T K H.out.rs k z (by omega)).mono ?_
                    rintro e w2 ⟨rfl, rfl⟩
                    have H := Lib.hid (H.out.below (Below.refl _ _))
                    go_wp2_with fail
                    refine (texts_any (.slice none 0 0) (.slice none 0 0) [] [] _ (OT.nil 0 _).ts (OT.nil 0 _).ts (by simp) (by simp)).mono ?_
                    rintro e w9 ⟨rfl, m9, hw9⟩
                    have H := Lib.hid (H.out.below (show Below _ _ w9 from by rw [hw9]; exact below_drewN _ _ _))
                    clear hw9
                    go_wp2_with fail
                    go_meet
                    exact ⟨n, g, T, K, rfl, by have := HI1.out.2.2; omega, H.out, HOk.out⟩
              · by_cases e1 : kd = 1
                · subst e1
                  have hh0 : ∃ o, hasS k T K = o := ⟨_, rfl⟩
                  obtain ⟨o, hh⟩ := hh0
                  cases o with
                  | none =>
                    as_aux_lemma =>
                      have HH := Lib.hid hh
                      clear hh
                      go_wp2_with fail
                      refine (ls_miss H.out.ls k HKB.out HH.out).mono ?_
                      rintro e w2 ⟨rfl, rfl⟩
                      go_wp2_with fail
                      refine (rtouch_no w W1 r al ke mo T K H.out.rs (by have := HLN.out.1; omega) k HH.out).mono ?_
                      rintro e w3 ⟨rfl, m3, hw3⟩
                      have H := Lib.hid (H.out.below (show Below _ _ w3 from by rw [hw3]; exact below_drewN _ _ _))
                      clear hw3 q0 q1 q2
                      go_wp2_with fail
                      refine (texts_any (.slice none 0 0) (.slice none 0 0) [] [] _ (OT.nil 0 _).ts (OT.nil 0 _).ts (by simp) (by simp)).mono ?_
                      rintro e w9 ⟨rfl, m9, hw9⟩
                      have H := Lib.hid (H.out.below (show Below _ _ w9 from by rw [hw9]; exact below_drewN _ _ _))
                      clear hw9
                      go_wp2_with fail
                      go_meet
                      exact ⟨n, g, T, K, rfl, by have := HI1.out.2.2; omega, H.out, HOk.out⟩
                  | some zz =>
                    as_aux_lemma =>
                      obtain ⟨T2, K2, G, hR⟩ : ∃ T2 K2 G, touchE ke k zz T K = (T2, K2, G) := ⟨_, _, _, rfl⟩
                      have hok2 : OkE al ke mo T2 K2 := by have h := HOk.out.touch HKE0.out HPT.out HPK.out k HK100.out zz hh; rw [hR] at h; exact h
                      have HOk2 := Lib.hid hok2
                      have HRR := Lib.hid hR
                      have HH := Lib.hid hh
                      clear hok2 hR hh
                      go_wp2_with fail
                      refine (lr_touch H.out HKE0.out HOk.out.sk k HKB.out zz HH.out T2 K2 G HRR.out).mono ?_
                      rintro e w2 ⟨v2, c2, rfl, h2⟩
                      have H := Lib.hid h2
                      have hbk := h2.ls.blk (List.mem_cons_of_mem _ (List.mem_cons_self ..))
                      have q0 := hbk.cell 0
                      have q1 := hbk.cell 1
                      have q2 := hbk.cell 2
                      clear hbk
                      clear h2
                      go_wp2_with fail
                      refine (lr_rtouch H.out allTxt.nil.box.cons HUK.out HPT.out HPK.out HLN.out.2 HKE0.out HOk.out.sk k zz HH.out T2 K2 G HRR.out).mono ?_
                      rintro e w3 ⟨v3, c3, rfl, h3⟩
                      have hlG : G.length ≤ 2000000000 := by
                        have e2 := HLN.out.1
                        have e3 := touch_len (ke := ke) (k := k) (z := zz) (T := T) (K := K)
                        rw [HRR.out] at e3
                        simp only at e3
                        omega
                      have HLG := Lib.hid hlG
                      have H := Lib.hid h3
                      clear h3 q0 q1 q2 hlG
                      go_wp2_with fail
                      refine (lb_texts H.out (List.mem_cons_of_mem _ (List.mem_cons_self ..)) (List.mem_cons_self ..) HLG.out HLG.out true (by simp)).mono ?_
                      rintro e w9 ⟨rfl, m9, hw9⟩
                      have H := Lib.hid ((H.out.forget (O' := [.blk ob2 32 #[.int .i64 1, .string k, .int .i64 z]]) (fun p hp => List.mem_cons_of_mem _ (List.mem_cons_of_mem _ hp))).below (show Below _ _ w9 from by rw [hw9]; exact below_drewN _ _ _))
                      clear hw9
                      go_wp2_with fail
                      go_meet
                      exact ⟨n, g, T2, K2, rfl, by have := HI1.out.2.2; omega, H.out, HOk2.out⟩
                · by_cases e2 : kd = 2
                  · subst e2
                    as_aux_lemma =>
                      obtain ⟨T2, hT2⟩ : ∃ L, delE k T = L := ⟨_, rfl⟩
                      obtain ⟨K2, hK2⟩ : ∃ L, delE k K = L := ⟨_, rfl⟩
                      obtain ⟨bb, hbb⟩ : ∃ b, (hasS k T K).isSome = b := ⟨_, rfl⟩
                      have hok2 : OkE al ke mo T2 K2 := by have h := HOk.out.drop HPT.out HPK.out k; rw [hT2, hK2] at h; exact h
                      have HOk2 := Lib.hid hok2
                      have HT2 := Lib.hid hT2
                      have HK2 := Lib.hid hK2
                      have HBB := Lib.hid hbb
                      clear hok2 hT2 hK2 hbb
                      go_wp2_with fail
                      refine wp_region_held_drew (S := (fun w' => w'.cell? ⟨ob2, 1, none⟩ = some (.string k))) (by kernel_rfl) ?_ (fun hS => ?_)
                      · exact q1
                      refine tkY 0 ?_ rfl hS ?_ ?_
                      rotate_left
                      · intro wz hz
                        go_simp
                        all_goals first | with_reducible rfl | omega
                      try simp only [Act.put, pu]
                      refine tkY 1 ?_ rfl hS ?_ ?_
                      rotate_left
                      · intro wz hz
                        go_simp
                        all_goals first | with_reducible rfl | omega
                      try simp only [Act.put, pu]
                      refine tkY 2 ?_ rfl hS ?_ ?_
                      rotate_left
                      · intro wz hz
                        go_simp
                        all_goals first | with_reducible rfl | omega
                      try simp only [Act.put, pu]
                      refine tkY 4 ?_ rfl hS ?_ ?_
                      rotate_left
                      · intro wz hz
                        go_simp
                        all_goals first | with_reducible rfl | omega
                      try simp only [Act.put, pu]
                      refine tkY 5 ?_ rfl hS ?_ ?_
                      rotate_left
                      · intro wz hz
                        go_simp
                        all_goals first | with_reducible rfl | omega
                      try simp only [Act.put, pu]
                      refine tkY 6 ?_ rfl hS ?_ ?_
                      rotate_left
                      · intro wz hz
                        go_simp
                        all_goals first | with_reducible rfl | omega
                      try simp only [Act.put, pu]
                      refine wpAnyH_ready (rs := [3]) (by kernel_rfl) (by simp) (AllReadyH.cons rfl (fun K' hK' => ?_) AllReadyH.nil)
                      go_simp
                      refine (lr_drop (H.out.below (show Below W1.heap.size W1 W1.drew from below_drewN _ _ 1)) k HKB.out T2 K2 bb HT2.out HK2.out HBB.out).mono ?_
                      rintro e w2 ⟨rfl, h2⟩
                      have H := Lib.hid h2
                      have hbk := h2.ls.blk (List.mem_cons_self ..)
                      have q0 := hbk.cell 0
                      have q1 := hbk.cell 1
                      have q2 := hbk.cell 2
                      clear hbk
                      clear h2
                      refine hK'.out _ _ ?_ (fun hSn => ?_)
                      · exact q1
                      clear hK' K' hS
                      have hS := hSn
                      clear hSn
                      try simp only [Act.put, pu]
                      refine wpAnyH_ready (rs := [7]) (by kernel_rfl) (by simp) (AllReadyH.cons rfl (fun K' hK' => ?_) AllReadyH.nil)
                      go_simp
                      refine (lr_rdrop H.out allTxt.nil.box (by have := HLN.out.1; omega) k T2 K2 bb HT2.out HK2.out HBB.out).mono ?_
                      rintro e w3 ⟨rfl, h3⟩
                      have H := Lib.hid h3
                      have hbk := h3.ls.blk (List.mem_cons_self ..)
                      have q0 := hbk.cell 0
                      have q1 := hbk.cell 1
                      have q2 := hbk.cell 2
                      clear hbk
                      clear h3
                      refine hK'.out _ _ ?_ (fun hSn => ?_)
                      · exact q1
                      clear hK' K' hS
                      have hS := hSn
                      clear hSn
                      try simp only [Act.put, pu]
                      refine tkY 8 (.bool false) rfl hS ?_ ?_
                      · intro wz hz
                        go_simp
                        all_goals first | with_reducible rfl | omega
                      try simp only [Act.put, pu]
                      refine wpAnyH_done (by kernel_rfl) ?_ _
                      clear hS q0 q1 q2
                      go_wp2_with fail
                      go_meet
                      exact ⟨n, g, T2, K2, rfl, by have := HI1.out.2.2; omega, H.out, HOk2.out⟩
                  · as_aux_lemma =>
                      have e0b : (kd == 0) = false := beq_eq_false_iff_ne.2 e0
                      have e1b : (kd == 1) = false := beq_eq_false_iff_ne.2 e1
                      have e2b : (kd == 2) = false := beq_eq_false_iff_ne.2 e2
                      clear e0 e1 e2
                      go_wp2_with fail
                      refine (lr_copy H.out HKL.out.1 HKL.out.2).mono ?_
                      rintro e w2 ⟨gc, rfl, nc, xc, h2, hx1, hx2, hnc, hxo⟩
                      have HX1 := Lib.hid hx1
                      have HX2 := Lib.hid hx2
                      have HNC := Lib.hid hnc
                      have HXO := Lib.hid hxo
                      have H := Lib.hid h2
                      clear h2 hx1 hx2 hnc hxo q0 q1 q2
                      obtain ⟨T3, K3, G3, hR3⟩ : ∃ T2 K2 G, putE al spoilt 1 T K = (T2, K2, G) := ⟨_, _, _, rfl⟩
                      have HR3 := Lib.hid hR3
                      clear hR3
                      go_wp2_with fail
                      refine (lr_put H.out HMO.out (by have := HNI.out; omega) HKL.out.1 HKL.out.2 spoilt (by decide) 1 (by omega) HMO1.out T3 K3 G3 HR3.out).mono ?_
                      rintro e w3 ⟨v3, c3, rfl, h3⟩
                      have H := Lib.hid (h3.forget (O' := _ :: [.blk ob2 32 #[.int .i64 kd, .string k, .int .i64 z]]) (fun p hp => List.mem_cons_of_mem _ hp))
                      clear h3
                      have q1 := (H.out.ls.blk (List.mem_cons_of_mem _ (List.mem_cons_self ..))).cell 1
                      go_wp2_with fail
                      refine (lr_drop H.out k HKB.out _ _ _ rfl rfl rfl).mono ?_
                      rintro e w4 ⟨rfl, h4⟩
                      have H := Lib.hid (h4.turn HX1.out HX2.out HXO.out)
                      clear h4 q1
                      go_wp2_with fail
                      go_meet
                      exact ⟨nc, gc, T, K, rfl, by have := HNC.out; omega, H.out, HOk.out⟩
            case rest =>
              clear q0 q1 q2 HBX hW1 hob2
              as_aux_lemma =>
                obtain ⟨n2, g2, T2, K2, rfl, hn2, h2, hok2⟩ := hcut
                have H := Lib.hid h2
                have HOk2 := Lib.hid hok2
                have HN2 := Lib.hid hn2
                have hbk := h2.ls.blk (List.mem_cons_self ..)
                have q0 := hbk.cell 0
                have q1 := hbk.cell 1
                have q2 := hbk.cell 2
                clear hbk
                have hln := h2.ls.lens
                have HLN2 := Lib.hid hln
                have HP2 := Lib.hid h2.ls.pos
                obtain ⟨zh, bh, hzb⟩ : ∃ z b, HasV (hasS k T2 K2) = .tuple #[.int .i64 z, .bool b] := by obtain ⟨z, hz⟩ := hasV_form (hasS k T2 K2); exact ⟨z, _, hz⟩
                have HZB := Lib.hid hzb
                clear h2 hok2 hn2 hln hzb
                go_wp2_with fail
                refine (has_to H.out.ls k HKB.out _ HZB.out).mono ?_
                rintro e w3 ⟨rfl, rfl⟩
                go_wp2_with fail
                refine (rhas_to w _ r al ke mo T2 K2 H.out.rs (by have := HLN2.out.1; omega) k _ HZB.out).mono ?_
                rintro e w4 ⟨rfl, m4, hw4⟩
                have H := Lib.hid (H.out.below (show Below _ _ w4 from by rw [hw4]; exact below_drewN _ _ _))
                clear hw4 q0 q1 q2
                obtain ⟨A, hA⟩ : ∃ A, keysE T2 = A := ⟨_, rfl⟩
                obtain ⟨B, hB⟩ : ∃ B, keysE K2 = B := ⟨_, rfl⟩
                obtain ⟨ST, hST⟩ : ∃ S, sumE T2 = S := ⟨_, rfl⟩
                obtain ⟨SK, hSK⟩ : ∃ S, sumE K2 = S := ⟨_, rfl⟩
                have HLA : Hid (A.length ≤ 2000000000 ∧ B.length ≤ 2000000000) := Lib.hid (by have := HLN2.out.1; rw [← hA, ← hB]; unfold keysE; rw [List.length_map, List.length_map]; omega)
                have HA := Lib.hid hA
                have HB := Lib.hid hB
                have HST := Lib.hid hST
                have HSK := Lib.hid hSK
                have HSL : Hid (sumE T2 ≤ 4611686018427387904 ∧ sumE K2 ≤ 4611686018427387904) := Lib.hid (by have := HLN2.out.2; have := sum_nonneg HP2.out.1; have := sum_nonneg HP2.out.2; omega)
                clear hA hB hST hSK
                obtain ⟨aT, cT, aK, cK, y, yT, yK⟩ := H.out.er
                have y0 := y.cell 0
                have y1 := y.cell 1
                have HRL := Lib.hid y.lt
                have HYT := Lib.hid yT
                have HYK := Lib.hid yK
                clear y yT yK
                go_wp2_with fail
                refine wp_region_held_drew (S := (fun w' => Below w4.heap.size w4 w')) (by kernel_rfl) ?_ (fun hS => ?_)
                · exact (Below.refl _ _).drew
                have H := Lib.hid (H.out.below (show Below w4.heap.size w4 w4.drew from below_drewN _ _ 1))
                refine tkY 0 ?_ rfl hS ?_ ?_
                rotate_left
                · intro wz hz
                  have z0 := (hz.cell (p := ⟨r, 0, none⟩) HRL.out).trans y0
                  have z1 := (hz.cell (p := ⟨r, 1, none⟩) HRL.out).trans y1
                  go_simp
                  all_goals first | with_reducible rfl | omega
                try simp only [Act.put, pu]
                refine tkY 1 ?_ rfl hS ?_ ?_
                rotate_left
                · intro wz hz
                  have z0 := (hz.cell (p := ⟨r, 0, none⟩) HRL.out).trans y0
                  have z1 := (hz.cell (p := ⟨r, 1, none⟩) HRL.out).trans y1
                  go_simp
                  all_goals first | with_reducible rfl | omega
                try simp only [Act.put, pu]
                refine tkY 2 (.bool false) rfl hS ?_ ?_
                · intro wz hz
                  have z0 := (hz.cell (p := ⟨r, 0, none⟩) HRL.out).trans y0
                  have z1 := (hz.cell (p := ⟨r, 1, none⟩) HRL.out).trans y1
                  go_simp
                  all_goals first | with_reducible rfl | omega
                try simp only [Act.put, pu]
                refine tkY 3 ?_ rfl hS ?_ ?_
                rotate_left
                · intro wz hz
                  have z0 := (hz.cell (p := ⟨r, 0, none⟩) HRL.out).trans y0
                  have z1 := (hz.cell (p := ⟨r, 1, none⟩) HRL.out).trans y1
                  go_simp
                  all_goals first | with_reducible rfl | omega
                try simp only [Act.put, pu]
                refine tkY 4 ?_ rfl hS ?_ ?_
                rotate_left
                · intro wz hz
                  have z0 := (hz.cell (p := ⟨r, 0, none⟩) HRL.out).trans y0
                  have z1 := (hz.cell (p := ⟨r, 1, none⟩) HRL.out).trans y1
                  go_simp
                  all_goals first | with_reducible rfl | omega
                try simp only [Act.put, pu]
                refine tkY 5 ?_ rfl hS ?_ ?_
                rotate_left
                · intro wz hz
                  have z0 := (hz.cell (p := ⟨r, 0, none⟩) HRL.out).trans y0
                  have z1 := (hz.cell (p := ⟨r, 1, none⟩) HRL.out).trans y1
                  go_simp
                  all_goals first | with_reducible rfl | omega
                try simp only [Act.put, pu]
                refine tkY 6 (.bool false) rfl hS ?_ ?_
                · intro wz hz
                  have z0 := (hz.cell (p := ⟨r, 0, none⟩) HRL.out).trans y0
                  have z1 := (hz.cell (p := ⟨r, 1, none⟩) HRL.out).trans y1
                  go_simp
                  all_goals first | with_reducible rfl | omega
                try simp only [Act.put, pu]
                refine tkY 7 (.bool false) rfl hS ?_ ?_
                · intro wz hz
                  have z0 := (hz.cell (p := ⟨r, 0, none⟩) HRL.out).trans y0
                  have z1 := (hz.cell (p := ⟨r, 1, none⟩) HRL.out).trans y1
                  go_simp
                  all_goals first | with_reducible rfl | omega
                try simp only [Act.put, pu]
                refine tkY 8 ?_ rfl hS ?_ ?_
                rotate_left
                · intro wz hz
                  have z0 := (hz.cell (p := ⟨r, 0, none⟩) HRL.out).trans y0
                  have z1 := (hz.cell (p := ⟨r, 1, none⟩) HRL.out).trans y1
                  go_simp
                  all_goals first | with_reducible rfl | omega
                try simp only [Act.put, pu]
                refine tkY 9 ?_ rfl hS ?_ ?_
                rotate_left
                · intro wz hz
                  have z0 := (hz.cell (p := ⟨r, 0, none⟩) HRL.out).trans y0
                  have z1 := (hz.cell (p := ⟨r, 1, none⟩) HRL.out).trans y1
                  go_simp
                  all_goals first | with_reducible rfl | omega
                try simp only [Act.put, pu]
                refine tkY 11 ?_ rfl hS ?_ ?_
                rotate_left
                · intro wz hz
                  have z0 := (hz.cell (p := ⟨r, 0, none⟩) HRL.out).trans y0
                  have z1 := (hz.cell (p := ⟨r, 1, none⟩) HRL.out).trans y1
                  go_simp
                  all_goals first | with_reducible rfl | omega
                try simp only [Act.put, pu]
                refine tkY 12 ?_ rfl hS ?_ ?_
                rotate_left
                · intro wz hz
                  have z0 := (hz.cell (p := ⟨r, 0, none⟩) HRL.out).trans y0
                  have z1 := (hz.cell (p := ⟨r, 1, none⟩) HRL.out).trans y1
                  go_simp
                  all_goals first | with_reducible rfl | omega
                try simp only [Act.put, pu]
                refine tkY 13 ?_ rfl hS ?_ ?_
                rotate_left
                · intro wz hz
                  have z0 := (hz.cell (p := ⟨r, 0, none⟩) HRL.out).trans y0
                  have z1 := (hz.cell (p := ⟨r, 1, none⟩) HRL.out).trans y1
                  go_simp
                  all_goals first | with_reducible rfl | omega
                try simp only [Act.put, pu]
                refine tkY 14 ?_ rfl hS ?_ ?_
                rotate_left
                · intro wz hz
                  have z0 := (hz.cell (p := ⟨r, 0, none⟩) HRL.out).trans y0
                  have z1 := (hz.cell (p := ⟨r, 1, none⟩) HRL.out).trans y1
                  go_simp
                  all_goals first | with_reducible rfl | omega
                try simp only [Act.put, pu]
                refine wpAnyH_ready (rs := [10]) (by kernel_rfl) (by simp) (AllReadyH.cons rfl (fun K' hK' => ?_) AllReadyH.nil)
                go_simp
                refine (lb_keysT H.out A HA.out).mono ?_
                rintro e w5 ⟨v5, c5, rfl, hb5, h5⟩
                have hbS := hS.trans (hb5.mono hS.size)
                have H := Lib.hid h5
                clear hb5 h5
                refine hK'.out _ _ ?_ (fun hSn => ?_)
                · exact hbS
                clear hK' K' hS
                have hS := hSn
                clear hSn
                try simp only [Act.put, pu]
                refine wpAnyH_ready (rs := [15]) (by kernel_rfl) (by simp) (AllReadyH.cons rfl (fun K' hK' => ?_) AllReadyH.nil)
                go_simp
                refine (lr_rkeys H.out _ T2 (HYT.out.below hS) (by have := HLN2.out.1; omega) A HA.out).mono ?_
                rintro e w6 ⟨v6, rfl, hb6, h6⟩
                have hbS := hS.trans (hb6.mono hS.size)
                have H := Lib.hid h6
                clear hb6 h6
                refine hK'.out _ _ ?_ (fun hSn => ?_)
                · exact hbS
                clear hK' K' hS
                have hS := hSn
                clear hSn
                try simp only [Act.put, pu]
                refine wpAnyH_ready (rs := [16]) (by kernel_rfl) (by simp) (AllReadyH.cons rfl (fun K' hK' => ?_) AllReadyH.nil)
                go_simp
                refine (lb_texts H.out (List.mem_cons_of_mem _ (List.mem_cons_self ..)) (List.mem_cons_self ..) HLA.out.1 HLA.out.1 true (by simp)).mono ?_
                rintro e w7 ⟨rfl, m7, hw7⟩
                have hb7 := bel_drew hw7
                have hbS := hS.trans (hb7.mono hS.size)
                have H := Lib.hid (H.out.below hb7)
                clear hb7 hw7
                refine hK'.out _ _ ?_ (fun hSn => ?_)
                · exact hbS
                clear hK' K' hS
                have hS := hSn
                clear hSn
                try simp only [Act.put, pu]
                refine tkY 17 ?_ rfl hS ?_ ?_
                rotate_left
                · intro wz hz
                  have z0 := (hz.cell (p := ⟨r, 0, none⟩) HRL.out).trans y0
                  have z1 := (hz.cell (p := ⟨r, 1, none⟩) HRL.out).trans y1
                  go_simp
                  all_goals first | with_reducible rfl | omega
                try simp only [Act.put, pu]
                refine tkY 18 (.bool false) rfl hS ?_ ?_
                · intro wz hz
                  have z0 := (hz.cell (p := ⟨r, 0, none⟩) HRL.out).trans y0
                  have z1 := (hz.cell (p := ⟨r, 1, none⟩) HRL.out).trans y1
                  go_simp
                  all_goals first | with_reducible rfl | omega
                try simp only [Act.put, pu]
                refine tkY 19 ?_ rfl hS ?_ ?_
                rotate_left
                · intro wz hz
                  have z0 := (hz.cell (p := ⟨r, 0, none⟩) HRL.out).trans y0
                  have z1 := (hz.cell (p := ⟨r, 1, none⟩) HRL.out).trans y1
                  go_simp
                  all_goals first | with_reducible rfl | omega
                try simp only [Act.put, pu]
                refine tkY 20 ?_ rfl hS ?_ ?_
                rotate_left
                · intro wz hz
                  have z0 := (hz.cell (p := ⟨r, 0, none⟩) HRL.out).trans y0
                  have z1 := (hz.cell (p := ⟨r, 1, none⟩) HRL.out).trans y1
                  go_simp
                  all_goals first | with_reducible rfl | omega
                try simp only [Act.put, pu]
                refine tkY 22 ?_ rfl hS ?_ ?_
                rotate_left
                · intro wz hz
                  have z0 := (hz.cell (p := ⟨r, 0, none⟩) HRL.out).trans y0
                  have z1 := (hz.cell (p := ⟨r, 1, none⟩) HRL.out).trans y1
                  go_simp
                  all_goals first | with_reducible rfl | omega
                try simp only [Act.put, pu]
                refine tkY 23 ?_ rfl hS ?_ ?_
                rotate_left
                · intro wz hz
                  have z0 := (hz.cell (p := ⟨r, 0, none⟩) HRL.out).trans y0
                  have z1 := (hz.cell (p := ⟨r, 1, none⟩) HRL.out).trans y1
                  go_simp
                  all_goals first | with_reducible rfl | omega
                try simp only [Act.put, pu]
                refine tkY 24 ?_ rfl hS ?_ ?_
                rotate_left
                · intro wz hz
                  have z0 := (hz.cell (p := ⟨r, 0, none⟩) HRL.out).trans y0
                  have z1 := (hz.cell (p := ⟨r, 1, none⟩) HRL.out).trans y1
                  go_simp
                  all_goals first | with_reducible rfl | omega
                try simp only [Act.put, pu]
                refine tkY 25 ?_ rfl hS ?_ ?_
                rotate_left
                · intro wz hz
                  have z0 := (hz.cell (p := ⟨r, 0, none⟩) HRL.out).trans y0
                  have z1 := (hz.cell (p := ⟨r, 1, none⟩) HRL.out).trans y1
                  go_simp
                  all_goals first | with_reducible rfl | omega
                try simp only [Act.put, pu]
                refine wpAnyH_ready (rs := [21]) (by kernel_rfl) (by simp) (AllReadyH.cons rfl (fun K' hK' => ?_) AllReadyH.nil)
                go_simp
                refine (lb_keysK H.out B HB.out).mono ?_
                rintro e w8 ⟨v8, c8, rfl, hb8, h8⟩
                have hbS := hS.trans (hb8.mono hS.size)
                have H := Lib.hid h8
                clear hb8 h8
                refine hK'.out _ _ ?_ (fun hSn => ?_)
                · exact hbS
                clear hK' K' hS
                have hS := hSn
                clear hSn
                try simp only [Act.put, pu]
                refine wpAnyH_ready (rs := [26]) (by kernel_rfl) (by simp) (AllReadyH.cons rfl (fun K' hK' => ?_) AllReadyH.nil)
                go_simp
                refine (lr_rkeys H.out _ K2 (HYK.out.below hS) (by have := HLN2.out.1; omega) B HB.out).mono ?_
                rintro e w10 ⟨v10, rfl, hb10, h10⟩
                have hbS := hS.trans (hb10.mono hS.size)
                have H := Lib.hid h10
                clear hb10 h10
                refine hK'.out _ _ ?_ (fun hSn => ?_)
                · exact hbS
                clear hK' K' hS
                have hS := hSn
                clear hSn
                try simp only [Act.put, pu]
                refine wpAnyH_ready (rs := [27]) (by kernel_rfl) (by simp) (AllReadyH.cons rfl (fun K' hK' => ?_) AllReadyH.nil)
                go_simp
                refine (lb_texts H.out (List.mem_cons_of_mem _ (List.mem_cons_self ..)) (List.mem_cons_self ..) HLA.out.2 HLA.out.2 true (by simp)).mono ?_
                rintro e w11 ⟨rfl, m11, hw11⟩
                have hb11 := bel_drew hw11
                have hbS := hS.trans (hb11.mono hS.size)
                have H := Lib.hid (H.out.below hb11)
                clear hb11 hw11
                refine hK'.out _ _ ?_ (fun hSn => ?_)
                · exact hbS
                clear hK' K' hS
                have hS := hSn
                clear hSn
                try simp only [Act.put, pu]
                refine tkY 28 ?_ rfl hS ?_ ?_
                rotate_left
                · intro wz hz
                  have z0 := (hz.cell (p := ⟨r, 0, none⟩) HRL.out).trans y0
                  have z1 := (hz.cell (p := ⟨r, 1, none⟩) HRL.out).trans y1
                  go_simp
                  all_goals first | with_reducible rfl | omega
                try simp only [Act.put, pu]
                refine tkY 29 (.bool false) rfl hS ?_ ?_
                · intro wz hz
                  have z0 := (hz.cell (p := ⟨r, 0, none⟩) HRL.out).trans y0
                  have z1 := (hz.cell (p := ⟨r, 1, none⟩) HRL.out).trans y1
                  go_simp
                  all_goals first | with_reducible rfl | omega
                try simp only [Act.put, pu]
                refine tkY 30 ?_ rfl hS ?_ ?_
                rotate_left
                · intro wz hz
                  have z0 := (hz.cell (p := ⟨r, 0, none⟩) HRL.out).trans y0
                  have z1 := (hz.cell (p := ⟨r, 1, none⟩) HRL.out).trans y1
                  go_simp
                  all_goals first | with_reducible rfl | omega
                try simp only [Act.put, pu]
                refine tkY 31 ?_ rfl hS ?_ ?_
                rotate_left
                · intro wz hz
                  have z0 := (hz.cell (p := ⟨r, 0, none⟩) HRL.out).trans y0
                  have z1 := (hz.cell (p := ⟨r, 1, none⟩) HRL.out).trans y1
                  go_simp
                  all_goals first | with_reducible rfl | omega
                try simp only [Act.put, pu]
                refine tkY 33 ?_ rfl hS ?_ ?_
                rotate_left
                · intro wz hz
                  have z0 := (hz.cell (p := ⟨r, 0, none⟩) HRL.out).trans y0
                  have z1 := (hz.cell (p := ⟨r, 1, none⟩) HRL.out).trans y1
                  go_simp
                  all_goals first | with_reducible rfl | omega
                try simp only [Act.put, pu]
                refine tkY 34 ?_ rfl hS ?_ ?_
                rotate_left
                · intro wz hz
                  have z0 := (hz.cell (p := ⟨r, 0, none⟩) HRL.out).trans y0
                  have z1 := (hz.cell (p := ⟨r, 1, none⟩) HRL.out).trans y1
                  go_simp
                  all_goals first | with_reducible rfl | omega
                try simp only [Act.put, pu]
                refine tkY 35 ?_ rfl hS ?_ ?_
                rotate_left
                · intro wz hz
                  have z0 := (hz.cell (p := ⟨r, 0, none⟩) HRL.out).trans y0
                  have z1 := (hz.cell (p := ⟨r, 1, none⟩) HRL.out).trans y1
                  go_simp
                  all_goals first | with_reducible rfl | omega
                try simp only [Act.put, pu]
                refine tkY 36 ?_ rfl hS ?_ ?_
                rotate_left
                · intro wz hz
                  have z0 := (hz.cell (p := ⟨r, 0, none⟩) HRL.out).trans y0
                  have z1 := (hz.cell (p := ⟨r, 1, none⟩) HRL.out).trans y1
                  go_simp
                  all_goals first | with_reducible rfl | omega
                try simp only [Act.put, pu]
                refine wpAnyH_ready (rs := [32]) (by kernel_rfl) (by simp) (AllReadyH.cons rfl (fun K' hK' => ?_) AllReadyH.nil)
                go_simp
                refine (lb_bytesT H.out ST HST.out).mono ?_
                rintro e w12 ⟨rfl, m12, hw12⟩
                have hb12 := bel_drew hw12
                have hbS := hS.trans (hb12.mono hS.size)
                have H := Lib.hid (H.out.below hb12)
                clear hb12 hw12
                refine hK'.out _ _ ?_ (fun hSn => ?_)
                · exact hbS
                clear hK' K' hS
                have hS := hSn
                clear hSn
                try simp only [Act.put, pu]
                refine wpAnyH_ready (rs := [37]) (by kernel_rfl) (by simp) (AllReadyH.cons rfl (fun K' hK' => ?_) AllReadyH.nil)
                go_simp
                refine (rsum_to _ T2 _ (HYT.out.below hS) HP2.out.1 HSL.out.1 ST HST.out).mono ?_
                rintro e w13 ⟨rfl, m13, hw13⟩
                have hb13 := bel_drew hw13
                have hbS := hS.trans (hb13.mono hS.size)
                have H := Lib.hid (H.out.below hb13)
                clear hb13 hw13
                refine hK'.out _ _ ?_ (fun hSn => ?_)
                · exact hbS
                clear hK' K' hS
                have hS := hSn
                clear hSn
                try simp only [Act.put, pu]
                refine tkY 38 (.bool false) rfl hS ?_ ?_
                · intro wz hz
                  have z0 := (hz.cell (p := ⟨r, 0, none⟩) HRL.out).trans y0
                  have z1 := (hz.cell (p := ⟨r, 1, none⟩) HRL.out).trans y1
                  go_simp
                  all_goals first | with_reducible rfl | omega
                try simp only [Act.put, pu]
                refine tkY 39 (.bool false) rfl hS ?_ ?_
                · intro wz hz
                  have z0 := (hz.cell (p := ⟨r, 0, none⟩) HRL.out).trans y0
                  have z1 := (hz.cell (p := ⟨r, 1, none⟩) HRL.out).trans y1
                  go_simp
                  all_goals first | with_reducible rfl | omega
                try simp only [Act.put, pu]
                refine tkY 40 ?_ rfl hS ?_ ?_
                rotate_left
                · intro wz hz
                  have z0 := (hz.cell (p := ⟨r, 0, none⟩) HRL.out).trans y0
                  have z1 := (hz.cell (p := ⟨r, 1, none⟩) HRL.out).trans y1
                  go_simp
                  all_goals first | with_reducible rfl | omega
                try simp only [Act.put, pu]
                refine tkY 41 ?_ rfl hS ?_ ?_
                rotate_left
                · intro wz hz
                  have z0 := (hz.cell (p := ⟨r, 0, none⟩) HRL.out).trans y0
                  have z1 := (hz.cell (p := ⟨r, 1, none⟩) HRL.out).trans y1
                  go_simp
                  all_goals first | with_reducible rfl | omega
                try simp only [Act.put, pu]
                refine tkY 43 ?_ rfl hS ?_ ?_
                rotate_left
                · intro wz hz
                  have z0 := (hz.cell (p := ⟨r, 0, none⟩) HRL.out).trans y0
                  have z1 := (hz.cell (p := ⟨r, 1, none⟩) HRL.out).trans y1
                  go_simp
                  all_goals first | with_reducible rfl | omega
                try simp only [Act.put, pu]
                refine tkY 44 ?_ rfl hS ?_ ?_
                rotate_left
                · intro wz hz
                  have z0 := (hz.cell (p := ⟨r, 0, none⟩) HRL.out).trans y0
                  have z1 := (hz.cell (p := ⟨r, 1, none⟩) HRL.out).trans y1
                  go_simp
                  all_goals first | with_reducible rfl | omega
                try simp only [Act.put, pu]
                refine tkY 45 ?_ rfl hS ?_ ?_
                rotate_left
                · intro wz hz
                  have z0 := (hz.cell (p := ⟨r, 0, none⟩) HRL.out).trans y0
                  have z1 := (hz.cell (p := ⟨r, 1, none⟩) HRL.out).trans y1
                  go_simp
                  all_goals first | with_reducible rfl | omega
                try simp only [Act.put, pu]
                refine tkY 46 ?_ rfl hS ?_ ?_
                rotate_left
                · intro wz hz
                  have z0 := (hz.cell (p := ⟨r, 0, none⟩) HRL.out).trans y0
                  have z1 := (hz.cell (p := ⟨r, 1, none⟩) HRL.out).trans y1
                  go_simp
                  all_goals first | with_reducible rfl | omega
                try simp only [Act.put, pu]
                refine wpAnyH_ready (rs := [42]) (by kernel_rfl) (by simp) (AllReadyH.cons rfl (fun K' hK' => ?_) AllReadyH.nil)
                go_simp
                refine (lb_bytesK H.out SK HSK.out).mono ?_
                rintro e w14 ⟨rfl, m14, hw14⟩
                have hb14 := bel_drew hw14
                have hbS := hS.trans (hb14.mono hS.size)
                have H := Lib.hid (H.out.below hb14)
                clear hb14 hw14
                refine hK'.out _ _ ?_ (fun hSn => ?_)
                · exact hbS
                clear hK' K' hS
                have hS := hSn
                clear hSn
                try simp only [Act.put, pu]
                refine wpAnyH_ready (rs := [47]) (by kernel_rfl) (by simp) (AllReadyH.cons rfl (fun K' hK' => ?_) AllReadyH.nil)
                go_simp
                refine (rsum_to _ K2 _ (HYK.out.below hS) HP2.out.2 HSL.out.2 SK HSK.out).mono ?_
                rintro e w15 ⟨rfl, m15, hw15⟩
                have hb15 := bel_drew hw15
                have hbS := hS.trans (hb15.mono hS.size)
                have H := Lib.hid (H.out.below hb15)
                clear hb15 hw15
                refine hK'.out _ _ ?_ (fun hSn => ?_)
                · exact hbS
                clear hK' K' hS
                have hS := hSn
                clear hSn
                try simp only [Act.put, pu]
                refine tkY 48 (.bool false) rfl hS ?_ ?_
                · intro wz hz
                  have z0 := (hz.cell (p := ⟨r, 0, none⟩) HRL.out).trans y0
                  have z1 := (hz.cell (p := ⟨r, 1, none⟩) HRL.out).trans y1
                  go_simp
                  all_goals first | with_reducible rfl | omega
                try simp only [Act.put, pu]
                refine tkY 49 (.bool false) rfl hS ?_ ?_
                · intro wz hz
                  have z0 := (hz.cell (p := ⟨r, 0, none⟩) HRL.out).trans y0
                  have z1 := (hz.cell (p := ⟨r, 1, none⟩) HRL.out).trans y1
                  go_simp
                  all_goals first | with_reducible rfl | omega
                try simp only [Act.put, pu]
                refine wpAnyH_done (by kernel_rfl) ?_ _
                clear hS y0 y1
                have H := Lib.hid (H.out.forget (O' := []) (fun p hp => by cases hp))
                go_wp2
                go_roundg gko
                case measure => exact Nat.lt_succ_self _
                case rel => exact ⟨i1, n2, g2, T2, K2, rfl, rfl, HI1.out.1, HI1.out.2.1, HN2.out, H.out, HOk2.out⟩
          · have k100 : (100 : Int) < (k.size : Int) := by omega
            clear h100
            go_wp2
            go_roundg gko
            case measure => exact Nat.lt_succ_self _
            case rel => exact ⟨i1, n, g, T, K, rfl, rfl, HI1.out.1, HI1.out.2.1, by have := HI1.out.2.2; omega, HBX.out.forget (O' := []) (fun p hp => by cases hp), HOk.out⟩
        · have l1 : ¬ ((i : Int) < (l.length : Int)) := by omega
          clear hlt hS hOk hi hil hni
          go_wp2_with fail
          refine (known_any _).mono ?_
          rintro e wk ⟨rfl, hk⟩
          have HK := Lib.hid hk
          clear hk
          go_wp2
          go_ret
          exact ⟨rfl, HBEL.out.trans (HK.out.mono HBEL.out.size)⟩
end Go.Proofs.Ytfilmbeoggmglaa.SL
