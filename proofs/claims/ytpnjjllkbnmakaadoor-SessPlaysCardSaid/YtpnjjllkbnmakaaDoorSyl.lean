/- SessPlays' walk. Condition: what is laid. -/
import Derived.Test.YtpnjjllkbnmakaaDoorSyj
import Derived.Test.YtpnjjllkbnmakaaDoorSym
import Derived.Deep.CutBlock
import Derived.Deep.CutRange
import Derived.BigQuiet
namespace Go.Proofs.YtpnjjllkbnmakaaDoor.SE
open Go.ChangeShapes Go.WideShapes Go.ChangeAt Go.RowKit
open Go.Proofs.YtpnjjllkbnmakaaDoor.SL
open Go.Proofs.YtpnjjllkbnmakaaDoor.PP (tkY tkN pu)
set_option maxRecDepth 100000
set_option linter.unusedVariables false
set_option linter.unusedSimpArgs false

section
variable {W w w' : World} {a r : Nat} {S S' : St}
theorem ne_ar (h : Sx w a S) (k : Dx w r S') : a ≠ r := h.1.ne_ k.1 (by decide)
theorem LS.doc (h : LS W w a S) (k : Dx w r S') {S2 : St} (hr : W.heap.size ≤ r) (hc : DtP r w w' S2) : LS W w' a S := h.chg hc.1 hr (ne_ar h.2.2 k)
theorem Dx.code {S2 : St} (k : Dx w r S') (h : LS W w a S) (hc : Chg (fun b => b = a) w w') : Dx w' r S' := k.chg hc (fun e => ne_ar h.2.2 k e.symm)
end
set_option maxHeartbeats 64000000 in
theorem plays_law (v : Value) (W : World) (hf : FitsOp W v) (hW : LW W) :
    Calls Tryd.prog 3 #[v] W fun e w' => e = .returned (.bool true) ∧ Below W.heap.size W w' := by
  obtain ⟨l, hx⟩ := hf
  obtain ⟨A0, cp0, rfl⟩ := hx.form
  have HW := Lib.hid hW
  have HX := Lib.hid hx
  obtain ⟨N, hN⟩ : ∃ N, l.length = N := ⟨_, rfl⟩
  have HN := Lib.hid hN
  rw [hN]
  clear hx hW hN
  go_enter Tryd.func3, Tryd.ntmps3
  go_wp2_with fail
  refine (ls_new (Below.refl _ W)).mono ?_
  rintro e w1 ⟨a, rfl, h1, _, _⟩
  obtain ⟨W2, hW2⟩ : ∃ W, w1.alloc (.cells #[nV 0, .string ⟨#[]⟩, .string ⟨#[]⟩] 27) = W := ⟨_, rfl⟩
  obtain ⟨r, hr⟩ : ∃ b, w1.heap.size = b := ⟨_, rfl⟩
  have hb2 : Below w1.heap.size w1 W2 := by rw [← hW2]; exact (Below.refl _ _).alloc (Nat.le_refl _) _
  have k2 : Bk W2 r 27 #[nV 0, .string ⟨#[]⟩, .string ⟨#[]⟩] := by rw [← hW2, ← hr]; exact Bk.new _ _ _
  have H := Lib.hid (h1.below hb2)
  have HD : Hid (Dx W2 r ⟨0, e0, e0⟩) := Lib.hid ⟨k2, by decide⟩
  have HRG : Hid (W.heap.size ≤ r) := Lib.hid (by rw [← hr]; exact h1.1.size)
  clear h1 hb2 k2
  go_wp2_with fail
  try rw [hr]
  try rw [hW2]
  try clear hr hW2
  go_loopg [3, 5] 60 (fun gk u3 u5 wx => ∃ (k A : Nat) (S : St), u5 = nV (k : Int) ∧ u3 = ptr A ∧ k + gk = 60 ∧ Hid (LS W wx A S) ∧ Hid (Dx wx r S))
  case atStart => exact ⟨0, a, _, rfl, rfl, by omega, H, HD⟩
  case round =>
    clear H HD
    obtain ⟨k, A, S, rfl, rfl, hk, H, HD⟩ := hrel
    by_cases hin : k < N ∧ k < 60
    · skip
      obtain ⟨hin1, hin2⟩ := hin
      obtain ⟨g, rfl⟩ : ∃ g, gk = g + 1 := ⟨gk - 1, by omega⟩
      have hlt2 : k < l.length := by have := HN.out; omega
      obtain ⟨b1, o1, q1, he1, hc1, hx1⟩ := HX.out.inv (by omega)
      rw [HN.out] at he1 hc1
      injection he1 with f1 _ f3
      subst f1 f3
      obtain ⟨o, ho⟩ : ∃ o, l[k]? = some o := ⟨_, List.getElem?_eq_getElem hlt2⟩
      obtain ⟨hB, hcc⟩ := hx1 k o ho
      obtain ⟨ok, ⟨ak, ks, vs, ac⟩, ⟨n, po, sq, kv, vv, av, nv, fv, m, wh, pid, sec⟩, og⟩ := o
      have hB2 := hB
      obtain ⟨hk1, hv1, hz1, ⟨⟨A3, n3, c3, e3⟩, ⟨A4, n4, c4, e4⟩, ⟨A5, n5, c5, e5⟩⟩, hlk, hlv⟩ := hB
      simp only at hk1 hv1 e3 e4 e5 hlk hlv
      subst e3 e4 e5
      obtain ⟨A1, c1, e1⟩ := hk1.form
      obtain ⟨A2, c2, e2⟩ := hv1.form
      subst e1 e2
      have HLN : Hid (ks.length ≤ 9223372036854775807 ∧ vs.length ≤ 9223372036854775807) := Lib.hid ⟨hlk, hlv⟩
      have AK : Hid (∀ (z : Nat) (w : World), W.heap.size ≤ z → Below W.heap.size W w → AkR z w (.agg #[.int .u8 ak, .string n, .string po, .string sq, .slice A1 ks.length c1, .slice A2 vs.length c2, .slice A3 n3 c3, .slice A4 n4 c4, .slice A5 n5 c5, nV m, .int .u8 wh, .bool ac, nV pid, nV sec]) ⟨ak, ks, vs, ac⟩) := Lib.hid fun z w hz hb => hB2.akr hb hz
      have HY : Hid (∀ (w : World), Below W.heap.size W w → w.cell? ⟨b1, o1 + k * 16, none⟩ = some (nV ok) ∧ w.cell? ⟨b1, o1 + k * 16 + 1, none⟩ = some (.int .u8 ak) ∧ w.cell? ⟨b1, o1 + k * 16 + 2, none⟩ = some (.string n) ∧ w.cell? ⟨b1, o1 + k * 16 + 3, none⟩ = some (.string po) ∧ w.cell? ⟨b1, o1 + k * 16 + 4, none⟩ = some (.string sq) ∧ w.cell? ⟨b1, o1 + k * 16 + 5, none⟩ = some (.slice A1 ks.length c1) ∧ w.cell? ⟨b1, o1 + k * 16 + 6, none⟩ = some (.slice A2 vs.length c2) ∧ w.cell? ⟨b1, o1 + k * 16 + 7, none⟩ = some (.slice A3 n3 c3) ∧ w.cell? ⟨b1, o1 + k * 16 + 8, none⟩ = some (.slice A4 n4 c4) ∧ w.cell? ⟨b1, o1 + k * 16 + 9, none⟩ = some (.slice A5 n5 c5) ∧ w.cell? ⟨b1, o1 + k * 16 + 10, none⟩ = some (nV m) ∧ w.cell? ⟨b1, o1 + k * 16 + 11, none⟩ = some (.int .u8 wh) ∧ w.cell? ⟨b1, o1 + k * 16 + 12, none⟩ = some (.bool ac) ∧ w.cell? ⟨b1, o1 + k * 16 + 13, none⟩ = some (nV pid) ∧ w.cell? ⟨b1, o1 + k * 16 + 14, none⟩ = some (nV sec) ∧ w.cell? ⟨b1, o1 + k * 16 + 15, none⟩ = some (.bool og)) := Lib.hid fun w hb => by
        have c : ∀ (j : Nat) (u : Value), (opC ⟨ok, ⟨ak, ks, vs, ac⟩, ⟨n, po, sq, .slice A1 ks.length c1, .slice A2 vs.length c2, .slice A3 n3 c3, .slice A4 n4 c4, .slice A5 n5 c5, m, wh, pid, sec⟩, og⟩)[j]? = some u → w.cell? ⟨b1, o1 + k * 16 + j, none⟩ = some u := fun j u hu => (hb.cell (p := ⟨b1, o1 + k * 16 + j, none⟩) (World.block_lt_of_cell? W _ (hcc j u hu))).trans (hcc j u hu)
        exact ⟨c 0 _ rfl, c 1 _ rfl, c 2 _ rfl, c 3 _ rfl, c 4 _ rfl, c 5 _ rfl, c 6 _ rfl, c 7 _ rfl, c 8 _ rfl, c 9 _ rfl, c 10 _ rfl, c 11 _ rfl, c 12 _ rfl, c 13 _ rfl, c 14 _ rfl, c 15 _ rfl⟩
      clear hx1 ho hcc hB2 hk1 hv1 hz1 hlk hlv
      have m0 : (0 : Int) ≤ (k : Int) := by omega
      have m1 : (k : Int) < (N : Int) := by omega
      have m2 : (k : Int) < 60 := by omega
      obtain ⟨k1, hk1⟩ : ∃ k1, k + 1 = k1 := ⟨_, rfl⟩
      have wk : IntKind.i64.wrap ((k : Int) + 1) = (k1 : Int) := by rw [show (k : Int) + 1 = (k1 : Int) by omega]; exact IntWalk.i64_in _ (by omega)
      have HK1 : Hid (k1 + g = 60) := Lib.hid (by omega)
      clear hk1 hk hin1 hlt2 hc1
      obtain ⟨y0, y1, y2, y3, y4, y5, y6, y7, y8, y9, y10, y11, y12, y13, y14, y15⟩ := HY.out _ H.out.1
      obtain ⟨W3, hW3⟩ : ∃ W, wr.alloc (.cells #[nV ok, .int .u8 ak, .string n, .string po, .string sq, .slice A1 ks.length c1, .slice A2 vs.length c2, .slice A3 n3 c3, .slice A4 n4 c4, .slice A5 n5 c5, nV m, .int .u8 wh, .bool ac, nV pid, nV sec, .bool og] 34) = W := ⟨_, rfl⟩
      obtain ⟨ob, hob⟩ : ∃ b, wr.heap.size = b := ⟨_, rfl⟩
      have hb3 : Below wr.heap.size wr W3 := by rw [← hW3]; exact (Below.refl _ _).alloc (Nat.le_refl _) _
      have HK : Hid (Bk W3 ob 34 #[nV ok, .int .u8 ak, .string n, .string po, .string sq, .slice A1 ks.length c1, .slice A2 vs.length c2, .slice A3 n3 c3, .slice A4 n4 c4, .slice A5 n5 c5, nV m, .int .u8 wh, .bool ac, nV pid, nV sec, .bool og]) := Lib.hid (by rw [← hW3, ← hob]; exact Bk.new _ _ _)
      have H := Lib.hid (H.out.below hb3)
      have HD := Lib.hid (HD.out.below hb3)
      have HLI := Lib.hid (light_any _ ⟨ak, ks, vs, ac⟩ W3 (AK.out W.heap.size W3 (Nat.le_refl _) H.out.1) HLN.out.1 HLN.out.2)
      clear hb3
      have k0 := HK.out
      have x0 := k0.cell 0
      have x1 := k0.cell 1
      have x2 := k0.cell 2
      have x3 := k0.cell 3
      have x4 := k0.cell 4
      have x5 := k0.cell 5
      have x6 := k0.cell 6
      have x7 := k0.cell 7
      have x8 := k0.cell 8
      have x9 := k0.cell 9
      have x10 := k0.cell 10
      have x11 := k0.cell 11
      have x12 := k0.cell 12
      have x13 := k0.cell 13
      have x14 := k0.cell 14
      have x15 := k0.cell 15
      simp at x0 x1 x2 x3 x4 x5 x6 x7 x8 x9 x10 x11 x12 x13 x14 x15
      clear k0
      by_cases hlt : Lt ⟨ak, ks, vs, ac⟩
      · rw [decide_eq_true hlt] at HLI
        have HLT := Lib.hid hlt
        clear hlt
        go_wp2_with fail
        try rw [hW3]
        try rw [hob]
        refine HLI.out.mono ?_
        rintro e w4 ⟨rfl, hb4⟩
        have H := Lib.hid (H.out.below hb4)
        have HD := Lib.hid (HD.out.below hb4)
        have HK := Lib.hid (HK.out.heap (hb4.block ob HK.out.lt))
        clear x0 x1 x2 x3 x4 x5 x6 x7 x8 x9 x10 x11 x12 x13 x14 x15
        clear hb4 HLI HY y0 y1 y2 y3 y4 y5 y6 y7 y8 y9 y10 y11 y12 y13 y14 y15
        have k0 := HK.out
        have x0 := k0.cell 0
        have x1 := k0.cell 1
        have x2 := k0.cell 2
        have x3 := k0.cell 3
        have x4 := k0.cell 4
        have x5 := k0.cell 5
        have x6 := k0.cell 6
        have x7 := k0.cell 7
        have x8 := k0.cell 8
        have x9 := k0.cell 9
        have x10 := k0.cell 10
        have x11 := k0.cell 11
        have x12 := k0.cell 12
        have x13 := k0.cell 13
        have x14 := k0.cell 14
        have x15 := k0.cell 15
        simp at x0 x1 x2 x3 x4 x5 x6 x7 x8 x9 x10 x11 x12 x13 x14 x15
        clear k0
        go_upto_block 2 with fail
        clear x0 x1 x2 x3 x4 x5 x6 x7 x8 x9 x10 x11 x12 x13 x14 x15
        go_cut [3, 7, 8, 9, 10, 11] from 17 to 122 (fun u3 _ _ _ _ _ wx => ∃ (A9 : Nat) (S9 : St), u3 = ptr A9 ∧ Hid (LS W wx A9 S9) ∧ Hid (Dx wx r S9))
        case first =>
          by_cases e0 : ok = 0
          · skip
            subst e0
            have k0 := HK.out
            have x0 := k0.cell 0
            have x1 := k0.cell 1
            have x2 := k0.cell 2
            have x3 := k0.cell 3
            have x4 := k0.cell 4
            have x5 := k0.cell 5
            have x6 := k0.cell 6
            have x7 := k0.cell 7
            have x8 := k0.cell 8
            have x9 := k0.cell 9
            have x10 := k0.cell 10
            have x11 := k0.cell 11
            have x12 := k0.cell 12
            have x13 := k0.cell 13
            have x14 := k0.cell 14
            have x15 := k0.cell 15
            simp at x0 x1 x2 x3 x4 x5 x6 x7 x8 x9 x10 x11 x12 x13 x14 x15
            clear k0
            go_wp2_with fail
            refine (ls_step HW.out H.out _ ⟨ak, ks, vs, ac⟩ (AK.out A _ H.out.2.1 H.out.1) HLT.out).mono ?_
            rintro e w5 ⟨rfl, hs, hc⟩
            have HD := Lib.hid (HD.out.code (S2 := S) H.out hc)
            have HK := Lib.hid (HK.out.chg hc (HK.out.ne_ H.out.2.2.1 (by decide)))
            have H := Lib.hid hs
            clear hs hc
            clear x0 x1 x2 x3 x4 x5 x6 x7 x8 x9 x10 x11 x12 x13 x14 x15
            have k0 := HK.out
            have x0 := k0.cell 0
            have x1 := k0.cell 1
            have x2 := k0.cell 2
            have x3 := k0.cell 3
            have x4 := k0.cell 4
            have x5 := k0.cell 5
            have x6 := k0.cell 6
            have x7 := k0.cell 7
            have x8 := k0.cell 8
            have x9 := k0.cell 9
            have x10 := k0.cell 10
            have x11 := k0.cell 11
            have x12 := k0.cell 12
            have x13 := k0.cell 13
            have x14 := k0.cell 14
            have x15 := k0.cell 15
            simp at x0 x1 x2 x3 x4 x5 x6 x7 x8 x9 x10 x11 x12 x13 x14 x15
            clear k0
            go_wp2_with fail
            refine (rstep_any HD.out _ ⟨ak, ks, vs, ac⟩ (AK.out r _ HRG.out H.out.1) HLT.out).mono ?_
            rintro e w6 ⟨rfl, hs⟩
            have H := Lib.hid (H.out.doc HD.out HRG.out hs)
            have HD := Lib.hid hs.2
            have ne1 : (stepD S ⟨ak, ks, vs, ac⟩ != stepD S ⟨ak, ks, vs, ac⟩) = false := bne_self_eq_false _
            have ne2 : (stepE S ⟨ak, ks, vs, ac⟩ != stepE S ⟨ak, ks, vs, ac⟩) = false := bne_self_eq_false _
            clear hs
            generalize stepD S ⟨ak, ks, vs, ac⟩ = sd at *
            generalize stepE S ⟨ak, ks, vs, ac⟩ = se at *
            clear x0 x1 x2 x3 x4 x5 x6 x7 x8 x9 x10 x11 x12 x13 x14 x15
            go_wp2
            go_meet
            case rel => exact ⟨A, _, rfl, H, HD⟩
          · skip
            by_cases e1 : ok = 1
            · skip
              subst e1
              have k0 := HK.out
              have x0 := k0.cell 0
              have x1 := k0.cell 1
              have x2 := k0.cell 2
              have x3 := k0.cell 3
              have x4 := k0.cell 4
              have x5 := k0.cell 5
              have x6 := k0.cell 6
              have x7 := k0.cell 7
              have x8 := k0.cell 8
              have x9 := k0.cell 9
              have x10 := k0.cell 10
              have x11 := k0.cell 11
              have x12 := k0.cell 12
              have x13 := k0.cell 13
              have x14 := k0.cell 14
              have x15 := k0.cell 15
              simp at x0 x1 x2 x3 x4 x5 x6 x7 x8 x9 x10 x11 x12 x13 x14 x15
              clear k0
              go_upto_region 23 with fail
              refine wp_region_held_drew (S := fun W => Bk W ob 34 #[nV 1, .int .u8 ak, .string n, .string po, .string sq, .slice A1 ks.length c1, .slice A2 vs.length c2, .slice A3 n3 c3, .slice A4 n4 c4, .slice A5 n5 c5, nV m, .int .u8 wh, .bool ac, nV pid, nV sec, .bool og]) (by kernel_rfl) ?_ (fun hS => ?_)
              · exact HK.out.drew
              have hb0 : Below w4.heap.size w4 w4.drew := (Below.refl _ _).drew
              obtain ⟨WD, hWD⟩ : ∃ W, w4.drew = W := ⟨_, rfl⟩
              rw [hWD] at hb0 hS ⊢
              clear hWD
              have H := Lib.hid (H.out.below hb0)
              have HD := Lib.hid (HD.out.below hb0)
              clear hb0
              refine tkY 0 ?_ rfl hS ?_ ?_
              rotate_left
              · intro wz hz
                go_simp
                all_goals first | with_reducible rfl | omega
              try simp only [Act.put, pu]
              refine tkY 1 ?_ rfl hS ?_ ?_
              rotate_left
              · intro wz hz
                go_simp
                all_goals first | with_reducible rfl | omega
              try simp only [Act.put, pu]
              refine tkY 2 ?_ rfl hS ?_ ?_
              rotate_left
              · intro wz hz
                have k9 := (show Bk _ ob _ _ from hz).cell 15
                simp at k9
                go_simp
                all_goals first | with_reducible rfl | omega
              try simp only [Act.put, pu]
              refine tkY 4 ?_ rfl hS ?_ ?_
              rotate_left
              · intro wz hz
                go_simp
                all_goals first | with_reducible rfl | omega
              try simp only [Act.put, pu]
              refine tkY 5 ?_ rfl hS ?_ ?_
              rotate_left
              · intro wz hz
                go_simp
                all_goals first | with_reducible rfl | omega
              try simp only [Act.put, pu]
              refine tkY 6 ?_ rfl hS ?_ ?_
              rotate_left
              · intro wz hz
                have k9 := (show Bk _ ob _ _ from hz).cell 15
                simp at k9
                go_simp
                all_goals first | with_reducible rfl | omega
              try simp only [Act.put, pu]
              refine wpAnyH_ready (rs := [3]) (by kernel_rfl) (by simp) (AllReadyH.cons rfl (fun K' hK' => ?_) AllReadyH.nil)
              go_simp
              refine (ls_acc H.out og).mono ?_
              rintro e w5 ⟨rfl, hs, hc⟩
              have HD := Lib.hid (HD.out.code (S2 := S) H.out hc)
              have hk5 := (show Bk _ ob _ _ from hS).chg hc ((show Bk _ ob _ _ from hS).ne_ H.out.2.2.1 (by decide))
              have H := Lib.hid hs
              refine hK'.out _ _ hk5 (fun hSn => ?_)
              clear hK' K' hS hs hc hk5
              have hS := hSn
              clear hSn
              try simp only [Act.put, pu]
              refine wpAnyH_ready (rs := [7]) (by kernel_rfl) (by simp) (AllReadyH.cons rfl (fun K' hK' => ?_) AllReadyH.nil)
              go_simp
              refine (raccept_any HD.out og).mono ?_
              rintro e w6 ⟨rfl, hs⟩
              have hk6 := (show Bk _ ob _ _ from hS).chg hs.1 ((show Bk _ ob _ _ from hS).ne_ HD.out.1 (by decide))
              have H := Lib.hid (H.out.doc HD.out HRG.out hs)
              have HD := Lib.hid hs.2
              refine hK'.out _ _ hk6 (fun hSn => ?_)
              clear hK' K' hS hs hk6
              have hS := hSn
              clear hSn
              try simp only [Act.put, pu]
              have ne1 : (accE og S != accE og S) = false := bne_self_eq_false _
              generalize accE og S = se at *
              refine tkY 8 ?_ rfl hS ?_ ?_
              rotate_left
              · intro wz hz
                go_simp
                all_goals first | with_reducible rfl | omega
              try simp only [Act.put, pu]
              refine wpAnyH_done (by kernel_rfl) ?_ _
              clear hS
              go_wp2
              go_meet
              case rel => exact ⟨A, _, rfl, H, HD⟩
            · skip
              by_cases e2 : ok = 2
              · skip
                subst e2
                have k0 := HK.out
                have x0 := k0.cell 0
                have x1 := k0.cell 1
                have x2 := k0.cell 2
                have x3 := k0.cell 3
                have x4 := k0.cell 4
                have x5 := k0.cell 5
                have x6 := k0.cell 6
                have x7 := k0.cell 7
                have x8 := k0.cell 8
                have x9 := k0.cell 9
                have x10 := k0.cell 10
                have x11 := k0.cell 11
                have x12 := k0.cell 12
                have x13 := k0.cell 13
                have x14 := k0.cell 14
                have x15 := k0.cell 15
                simp at x0 x1 x2 x3 x4 x5 x6 x7 x8 x9 x10 x11 x12 x13 x14 x15
                clear k0
                go_wp2_with fail
                refine (ls_don H.out).mono ?_
                rintro e w5 ⟨rfl, hs, hc⟩
                have HD := Lib.hid (HD.out.code (S2 := S) H.out hc)
                have H := Lib.hid hs
                clear hs hc
                go_wp2_with fail
                refine (rdone_any HD.out).mono ?_
                rintro e w6 ⟨rfl, hs⟩
                have H := Lib.hid (H.out.doc HD.out HRG.out hs)
                have HD := Lib.hid hs.2
                have ne1 : (donE S != donE S) = false := bne_self_eq_false _
                clear hs
                generalize donE S = se at *
                clear x0 x1 x2 x3 x4 x5 x6 x7 x8 x9 x10 x11 x12 x13 x14 x15
                go_wp2
                go_meet
                case rel => exact ⟨A, _, rfl, H, HD⟩
              · skip
                by_cases e3 : ok = 3
                · skip
                  subst e3
                  have k0 := HK.out
                  have x0 := k0.cell 0
                  have x1 := k0.cell 1
                  have x2 := k0.cell 2
                  have x3 := k0.cell 3
                  have x4 := k0.cell 4
                  have x5 := k0.cell 5
                  have x6 := k0.cell 6
                  have x7 := k0.cell 7
                  have x8 := k0.cell 8
                  have x9 := k0.cell 9
                  have x10 := k0.cell 10
                  have x11 := k0.cell 11
                  have x12 := k0.cell 12
                  have x13 := k0.cell 13
                  have x14 := k0.cell 14
                  have x15 := k0.cell 15
                  simp at x0 x1 x2 x3 x4 x5 x6 x7 x8 x9 x10 x11 x12 x13 x14 x15
                  clear k0
                  go_wp2_with fail
                  refine (ls_fai H.out).mono ?_
                  rintro e w5 ⟨rfl, hs, hc⟩
                  have HD := Lib.hid (HD.out.code (S2 := S) H.out hc)
                  have H := Lib.hid hs
                  clear hs hc
                  go_wp2_with fail
                  refine (rfail_any HD.out).mono ?_
                  rintro e w6 ⟨rfl, hs⟩
                  have H := Lib.hid (H.out.doc HD.out HRG.out hs)
                  have HD := Lib.hid hs.2
                  have ne1 : (faiE S != faiE S) = false := bne_self_eq_false _
                  clear hs
                  generalize faiE S = se at *
                  clear x0 x1 x2 x3 x4 x5 x6 x7 x8 x9 x10 x11 x12 x13 x14 x15
                  go_wp2
                  go_meet
                  case rel => exact ⟨A, _, rfl, H, HD⟩
                · skip
                  have d0 : (ok == 0) = false := by rw [beq_eq_false_iff_ne]; exact e0
                  have d1 : (ok == 1) = false := by rw [beq_eq_false_iff_ne]; exact e1
                  have d2 : (ok == 2) = false := by rw [beq_eq_false_iff_ne]; exact e2
                  have d3 : (ok == 3) = false := by rw [beq_eq_false_iff_ne]; exact e3
                  have k0 := HK.out
                  have x0 := k0.cell 0
                  have x1 := k0.cell 1
                  have x2 := k0.cell 2
                  have x3 := k0.cell 3
                  have x4 := k0.cell 4
                  have x5 := k0.cell 5
                  have x6 := k0.cell 6
                  have x7 := k0.cell 7
                  have x8 := k0.cell 8
                  have x9 := k0.cell 9
                  have x10 := k0.cell 10
                  have x11 := k0.cell 11
                  have x12 := k0.cell 12
                  have x13 := k0.cell 13
                  have x14 := k0.cell 14
                  have x15 := k0.cell 15
                  simp at x0 x1 x2 x3 x4 x5 x6 x7 x8 x9 x10 x11 x12 x13 x14 x15
                  clear k0
                  go_wp2_with fail
                  refine (copy_any H.out.2.2).mono ?_
                  rintro e w5 ⟨A2, rfl, hA2, hb5, hs5⟩
                  have HD := Lib.hid (HD.out.below hb5)
                  have HK := Lib.hid (HK.out.heap (hb5.block ob HK.out.lt))
                  have HN2 : Hid (A2 ≠ A) := Lib.hid (by have := H.out.2.2.1.lt; omega)
                  have HC : Hid (LS W w5 A2 S) := Lib.hid ⟨(H.out.below hb5).1, Nat.le_trans H.out.1.size hA2, hs5⟩
                  have H := Lib.hid (H.out.below hb5)
                  clear hA2 hb5 hs5
                  clear x0 x1 x2 x3 x4 x5 x6 x7 x8 x9 x10 x11 x12 x13 x14 x15
                  have k0 := HK.out
                  have x0 := k0.cell 0
                  have x1 := k0.cell 1
                  have x2 := k0.cell 2
                  have x3 := k0.cell 3
                  have x4 := k0.cell 4
                  have x5 := k0.cell 5
                  have x6 := k0.cell 6
                  have x7 := k0.cell 7
                  have x8 := k0.cell 8
                  have x9 := k0.cell 9
                  have x10 := k0.cell 10
                  have x11 := k0.cell 11
                  have x12 := k0.cell 12
                  have x13 := k0.cell 13
                  have x14 := k0.cell 14
                  have x15 := k0.cell 15
                  simp at x0 x1 x2 x3 x4 x5 x6 x7 x8 x9 x10 x11 x12 x13 x14 x15
                  clear k0
                  go_wp2_with fail
                  refine (ls_step HW.out H.out _ ⟨ak, ks, vs, ac⟩ (AK.out A _ H.out.2.1 H.out.1) HLT.out).mono ?_
                  rintro e w6 ⟨rfl, hs, hc⟩
                  have HD := Lib.hid (HD.out.code (S2 := S) H.out hc)
                  have HK := Lib.hid (HK.out.chg hc (HK.out.ne_ H.out.2.2.1 (by decide)))
                  have H := Lib.hid hs
                  have HC := Lib.hid (HC.out.chg hc H.out.2.1 HN2.out)
                  clear hs hc
                  clear x0 x1 x2 x3 x4 x5 x6 x7 x8 x9 x10 x11 x12 x13 x14 x15
                  go_wp2_with fail
                  refine (ls_step HW.out H.out _ (kA 122) (kR _ _ _) (kL _)).mono ?_
                  rintro e w7 ⟨rfl, hs, hc⟩
                  have HD := Lib.hid (HD.out.code (S2 := S) H.out hc)
                  have HC := Lib.hid (HC.out.chg hc H.out.2.1 HN2.out)
                  clear hs hc H
                  have H := HC
                  clear HC
                  go_wp2
                  go_meet
                  case rel => exact ⟨A2, _, rfl, H, HD⟩
        case rest =>
          obtain ⟨A9, S9, rfl, H, HD⟩ := hcut
          have HPh : Hid (∀ n, Calls Tryd.prog 18 #[ptr A9] (wc.drewN n) fun e w' => e = .returned (nV (S9.p : Int)) ∧ wc.drewN n = w') := Lib.hid fun n => phase_any (H.out.2.2.below (below_drewN _ _))
          have HUs : Hid (∀ n, Calls Tryd.prog 19 #[ptr A9] (wc.drewN n) fun e w' => e = .returned (.string S9.u) ∧ wc.drewN n = w') := Lib.hid fun n => user_any (H.out.2.2.below (below_drewN _ _))
          have HDb : Hid (∀ n, Calls Tryd.prog 20 #[ptr A9] (wc.drewN n) fun e w' => e = .returned (.string S9.d) ∧ wc.drewN n = w') := Lib.hid fun n => db_any (H.out.2.2.below (below_drewN _ _))
          obtain ⟨r0, r1, r2⟩ := HD.out.cells
          have ne1 : ((S9.p : Int) != (S9.p : Int)) = false := bne_self_eq_false _
          have ne2 : (!(S9.u.toList == S9.u.toList)) = false := by simp
          have ne3 : (!(S9.d.toList == S9.d.toList)) = false := by simp
          have HRL : Hid (∀ n, LS W (wc.drewN n) A9 S9 ∧ Dx (wc.drewN n) r S9) := Lib.hid fun n => ⟨H.out.below (below_drewN _ _), HD.out.below (below_drewN _ _)⟩
          go_upto_region 31 with fail
          go_quiet ((first
            | (go_at_call 18; exact Calls.quiet_of_same ((HPh.out _).mono fun _ _ h => ⟨h.1, h.2.symm⟩))
            | (go_at_call 19; exact Calls.quiet_of_same ((HUs.out _).mono fun _ _ h => ⟨h.1, h.2.symm⟩))
            | (go_at_call 20; exact Calls.quiet_of_same ((HDb.out _).mono fun _ _ h => ⟨h.1, h.2.symm⟩))))
          go_wp2
          go_roundg g
          case measure => exact Nat.lt_succ_self _
          case rel => exact ⟨k1, A9, S9, rfl, rfl, HK1.out, Lib.hid (HRL.out _).1, Lib.hid (HRL.out _).2⟩
      · rw [decide_eq_false hlt] at HLI
        clear hlt
        go_wp2_with fail
        try rw [hW3]
        try rw [hob]
        refine HLI.out.mono ?_
        rintro e w4 ⟨rfl, hb4⟩
        have H := Lib.hid (H.out.below hb4)
        have HD := Lib.hid (HD.out.below hb4)
        have HK := Lib.hid (HK.out.heap (hb4.block ob HK.out.lt))
        clear x0 x1 x2 x3 x4 x5 x6 x7 x8 x9 x10 x11 x12 x13 x14 x15
        clear hb4 HLI HY y0 y1 y2 y3 y4 y5 y6 y7 y8 y9 y10 y11 y12 y13 y14 y15
        go_wp2
        go_roundg g
        case measure => exact Nat.lt_succ_self _
        case rel => exact ⟨k1, A, S, rfl, rfl, HK1.out, H, HD⟩
    · have hout : ¬ (k : Int) < (N : Int) ∨ ((k : Int) < (N : Int) ∧ ¬ (k : Int) < 60) := by omega
      clear hin hk HX
      rcases hout with m1 | ⟨m1, m2⟩
      · skip
        go_wp2_with fail
        refine (known_any _ (HW.out.below H.out.1)).mono ?_
        rintro e w12 ⟨rfl, hb⟩
        have HF : Hid (Below W.heap.size W w12) := Lib.hid (H.out.1.trans (hb.mono H.out.1.size))
        clear hb
        go_wp2
        go_ret
        exact ⟨rfl, HF.out⟩
      · skip
        go_wp2_with fail
        refine (known_any _ (HW.out.below H.out.1)).mono ?_
        rintro e w12 ⟨rfl, hb⟩
        have HF : Hid (Below W.heap.size W w12) := Lib.hid (H.out.1.trans (hb.mono H.out.1.size))
        clear hb
        go_wp2
        go_ret
        exact ⟨rfl, HF.out⟩
end Go.Proofs.YtpnjjllkbnmakaaDoor.SE
