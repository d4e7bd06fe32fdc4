/- SlruBudget's walk. -/
import Derived.Test.YtgiajbpeiebkhaaSlj
namespace Go.Proofs.Ytgiajbpeiebkhaa.SL
open Go.ChangeShapes Go.WideShapes Go.ChangeAt Go.RowKit Go.Maps Go.ChangeMaps
set_option maxRecDepth 100000
set_option linter.unusedVariables false
set_option linter.unusedSimpArgs false

section
variable {w0 w w' : World} {g n : Nat} {al ke mo : Int} {T K : List En} {O : List Kp}
theorem bytesT_to (h : LS w0 w g n al ke mo T K O) (z : Int) (hz : sumE T = z) : Calls Try.prog 22 #[ptr g, .bool false] w (NumP w0 g n al ke mo T K z O) := by subst hz; exact ls_bytesT h
theorem bytesK_to (h : LS w0 w g n al ke mo T K O) (z : Int) (hz : sumE K = z) : Calls Try.prog 22 #[ptr g, .bool true] w (NumP w0 g n al ke mo T K z O) := by subst hz; exact ls_bytesK h
theorem keysT_to (h : LS w0 w g n al ke mo T K O) (d : List ByteArray) (hd : keysE T = d) : Calls Try.prog 20 #[ptr g, .bool false] w (TextsP w0 g n al ke mo T K d O) := by subst hd; exact ls_keysT h
theorem keysK_to (h : LS w0 w g n al ke mo T K O) (d : List ByteArray) (hd : keysE K = d) : Calls Try.prog 20 #[ptr g, .bool true] w (TextsP w0 g n al ke mo T K d O) := by subst hd; exact ls_keysK h
end
set_option maxHeartbeats 16000000 in
theorem budget_any (v0 v1 : Value) (w : World) (hf : Fits38 v0) (ho : FitsO w v1) :
    Calls Try.prog 4 #[v0, v1] w fun e w' => e = .returned (.bool true) ∧ Below w.heap.size w w' := by
  obtain ⟨a, b, c, rfl, ⟨a0, a1⟩, ⟨b0, b1⟩, c0, c1⟩ := hf
  obtain ⟨l, hl⟩ := ho
  obtain ⟨va, vc, rfl⟩ := hl.form
  have HL := Lib.hid hl
  have hBW := (Below.refl w.heap.size w).alloc (Nat.le_refl _) (.cells #[.int .u8 a, .int .u8 b, .int .u8 c] 52)
  have HBW := Lib.hid hBW
  have hm0 := Int.emod_nonneg c (show (1 + a) ≠ 0 by omega)
  have hm1 := Int.emod_lt_of_pos c (show 0 < 1 + a by omega)
  have hk0 := Int.emod_nonneg b (show (1 + a + 1) ≠ 0 by omega)
  have hk1 := Int.emod_lt_of_pos b (show 0 < 1 + a + 1 by omega)
  have hwm : wrap64 (1 + c % (1 + a)) = 1 + c % (1 + a) := IntWalk.wrap64_in _ (by omega)
  have HOK : Hid (okB (1 + a) (b % (1 + a + 1)) (wrap64 (1 + c % (1 + a)))) := Lib.hid (by rw [hwm]; unfold okB; omega)
  have HAL : Hid (1 + a ≤ 256) := Lib.hid (by omega)
  clear hl hBW hm0 hm1 hk0 hk1 hwm
  go_enter Try.func4, Try.ntmps4
  go_wp2_with fail
  obtain ⟨MO, hMO⟩ : ∃ x, wrap64 (1 + c % (1 + a)) = x := ⟨_, rfl⟩
  obtain ⟨KE, hKE⟩ : ∃ x, b % (1 + a + 1) = x := ⟨_, rfl⟩
  obtain ⟨AL, hAL⟩ : ∃ x, 1 + a = x := ⟨_, rfl⟩
  rw [hMO, hKE] at HOK
  rw [hAL] at HOK HAL
  rw [hMO, hKE, hAL]
  clear hMO hKE hAL
  refine (ls_new w _ HBW.out AL KE MO HOK.out).mono ?_
  rintro e w1 ⟨g, rfl, h1⟩
  have H := Lib.hid h1
  have HNIL := Lib.hid (OkE.nil (mo := MO) HOK.out)
  clear h1
  clear a0 a1 b0 b1 c0 c1
  go_wp2_with fail
  go_loopg [10] 60 (fun gk u10 wx => ∃ (i n : Nat) (T K : List En), u10 = .int .i64 (i : Int) ∧ i + gk = 60 ∧ i ≤ l.length ∧ n ≤ i ∧ LS w wx g n AL KE MO T K [] ∧ OkE AL KE MO T K)
  case atStart => exact ⟨0, 0, [], [], rfl, by omega, by omega, by omega, H.out, HNIL.out⟩
  case round =>
    obtain ⟨i, n, T, K, rfl, hi, hil, hni, hS, hOk⟩ := hrel
    have HS := Lib.hid hS
    have HOk := Lib.hid hOk
    have HNI : Hid (n ≤ 60) := Lib.hid (by omega)
    cases gk with
    | zero =>
      have hi60 : i = 60 := by omega
      subst hi60
      clear hS hOk hi hni
      by_cases hlt : 60 < l.length
      · have l1 : (60 : Int) < (l.length : Int) := by omega
        have l1' : ((60 : Nat) : Int) < (l.length : Int) := by omega
        clear hlt hil
        go_wp2_with fail
        refine (known_any _).mono ?_
        rintro e wk ⟨rfl, hk⟩
        have HK := Lib.hid hk
        clear hk
        go_wp2
        go_ret
        exact ⟨rfl, HS.out.bel.trans (HK.out.mono HS.out.bel.size)⟩
      · have l1 : ¬ ((60 : Int) < (l.length : Int)) := by omega
        have l1' : ¬ (((60 : Nat) : Int) < (l.length : Int)) := by omega
        clear hlt hil
        go_wp2_with fail
        refine (known_any _).mono ?_
        rintro e wk ⟨rfl, hk⟩
        have HK := Lib.hid hk
        clear hk
        go_wp2
        go_ret
        exact ⟨rfl, HS.out.bel.trans (HK.out.mono HS.out.bel.size)⟩
    | succ gko =>
      have i60 : (i : Int) < 60 := by omega
      by_cases hlt : i < l.length
      · have l1 : (i : Int) < (l.length : Int) := by omega
        have l0 : (0 : Int) ≤ (i : Int) := by omega
        obtain ⟨i1, hi1⟩ : ∃ i1, i + 1 = i1 := ⟨_, rfl⟩
        have wk : IntKind.i64.wrap ((i : Int) + 1) = (i1 : Int) := by rw [show (i : Int) + 1 = (i1 : Int) by omega]; exact IntWalk.i64_in _ (by omega)
        have HI1 : Hid (i1 + gko = 60 ∧ i1 ≤ l.length ∧ n + 1 ≤ i1) := Lib.hid ⟨by omega, by omega, by omega⟩
        have hop := HL.out.below hS.bel
        obtain ⟨ob, oo, oc, he, hcp, hx⟩ := hop.inv (by omega)
        injection he with he1 _ he3
        subst he1 he3
        obtain ⟨op, hop0⟩ : ∃ o, l[i] = o := ⟨_, rfl⟩
        obtain ⟨⟨q0, q1⟩, x0, x1, x2⟩ := hx i op (by rw [List.getElem?_eq_getElem hlt, hop0])
        obtain ⟨kd, k, z⟩ := op
        simp only at x0 x1 x2 q0 q1
        have HBX := Lib.hid (hS.box 32 #[.int .i64 kd, .string k, .int .i64 z])
        obtain ⟨ob2, hob2⟩ : ∃ x, wr.heap.size = x := ⟨_, rfl⟩
        have HPT := Lib.hid hS.pos.1
        have HPK := Lib.hid hS.pos.2
        have HZ := Lib.hid q1
        have hke0 : 0 ≤ KE := by have := HOK.out; unfold okB at this; omega
        have HKE0 := Lib.hid hke0
        have HKL := Lib.hid (kLe_of hOk)
        have HMO : Hid (MO ≤ AL ∧ AL ≤ 1073741824) := Lib.hid (by have := HOK.out; unfold okB at this; omega)
        clear hS hOk hi hil hni hlt hi1 hop hcp hx hop0 q0 q1 hke0
        by_cases h100 : k.size ≤ 100
        · have k100 : ¬ ((100 : Int) < (k.size : Int)) := by omega
          have HK100 := Lib.hid h100
          have HKB : Hid (k.size ≤ 281474976710656) := Lib.hid (by omega)
          clear h100
          by_cases e0 : kd = 0
          · subst e0
            by_cases hz1 : 1 ≤ z
            · by_cases hzm : z ≤ MO
              · go_wp2_with fail
                obtain ⟨W1, hW1⟩ : ∃ W, wr.alloc (.cells #[.int .i64 0, .string k, .int .i64 z] 32) = W := ⟨_, rfl⟩
                rw [hW1]
                rw [hW1, hob2] at HBX
                have H := Lib.hid HBX.out
                have hbk := H.out.blk (List.mem_cons_self ..)
                have q0 := hbk.cell 0
                have q1 := hbk.cell 1
                have q2 := hbk.cell 2
                clear hbk hW1 HBX
                obtain ⟨T2, K2, G, hR⟩ : ∃ T2 K2 G, putE AL k z T K = ((k, z) :: T2, K2, G) := ⟨_, _, _, rfl⟩
                have hok2 : OkE AL KE MO ((k, z) :: T2) K2 := by have h := HOk.out.put HPT.out HPK.out k HK100.out z (by have := HMO.out; omega); rw [hR] at h; exact h
                have HOk2 := Lib.hid hok2
                have HRR := Lib.hid hR
                have zM : z ≤ MO := hzm
                have z1 : 1 ≤ z := hz1
                clear hok2 hR
                refine (put_to H.out HMO.out (by have := HNI.out; omega) HKL.out.1 HKL.out.2 k HKB.out z hz1 hzm _ HRR.out).mono ?_
                rintro e w2 ⟨v2, c2, rfl, h2⟩
                have H := Lib.hid (h2.forget (O' := [.blk ob2 32 #[.int .i64 0, .string k, .int .i64 z]]) (fun p hp => List.mem_cons_of_mem _ hp))
                clear h2
                go_wp2_with fail
                refine (keysT_to H.out (k :: keysE T2) rfl).mono ?_
                rintro e w3 ⟨v3, c3, rfl, h3⟩
                have H := Lib.hid h3
                have hbk := h3.blk (List.mem_cons_of_mem _ (List.mem_cons_self ..))
                have q0 := hbk.cell 0
                have q1 := hbk.cell 1
                have q2 := hbk.cell 2
                clear hbk
                obtain ⟨b3, o3, rfl, q3⟩ : ∃ b3 o3, v3 = some ⟨b3, o3, none⟩ ∧ w3.cell? ⟨b3, o3, none⟩ = some (.string k) := by
                  obtain ⟨v, c, e, h⟩ := (h3.told (List.mem_cons_self ..)).ts.at_
                  injection e with e1 _ e3
                  subst e1 e3
                  rcases h with h0 | ⟨g', o', rfl, _, hq⟩
                  · simp at h0
                  · exact ⟨g', o', rfl, hq 0 (Nat.succ_pos _)⟩
                clear h3
                have hlen : (((k :: keysE T2).length : Nat) : Int) = ((keysE T2).length : Int) + 1 := by rw [List.length_cons]; omega
                go_wp2_with fail
                refine wp_region_held_drew (S := (fun w' => ∃ nn, w' = w3.drewN nn)) (by kernel_rfl) ?_ (fun hS => ?_)
                · exact ⟨1, rfl⟩
                refine tkY 0 ?_ rfl hS ?_ ?_
                rotate_left
                · rintro wz ⟨nz, rfl⟩
                  go_simp
                  all_goals first | with_reducible rfl | omega
                try simp only [Act.put, pu]
                refine tkY 1 (.bool true) rfl hS ?_ ?_
                · rintro wz ⟨nz, rfl⟩
                  go_simp
                  all_goals first | with_reducible rfl | omega
                try simp only [Act.put, pu]
                refine tkY 2 ?_ rfl hS ?_ ?_
                rotate_left
                · rintro wz ⟨nz, rfl⟩
                  go_simp
                  all_goals first | with_reducible rfl | omega
                try simp only [Act.put, pu]
                refine tkY 3 ?_ rfl hS ?_ ?_
                rotate_left
                · rintro wz ⟨nz, rfl⟩
                  go_simp
                  all_goals first | with_reducible rfl | omega
                try simp only [Act.put, pu]
                refine tkY 4 (.bool true) rfl hS ?_ ?_
                · rintro wz ⟨nz, rfl⟩
                  go_simp
                  all_goals first | with_reducible rfl | omega
                try simp only [Act.put, pu]
                refine tkY 5 (.bool true) rfl hS ?_ ?_
                · rintro wz ⟨nz, rfl⟩
                  go_simp
                  all_goals first | with_reducible rfl | omega
                try simp only [Act.put, pu]
                refine tkY 6 ?_ rfl hS ?_ ?_
                rotate_left
                · rintro wz ⟨nz, rfl⟩
                  go_simp
                  all_goals first | with_reducible rfl | omega
                try simp only [Act.put, pu]
                refine tkY 7 ?_ rfl hS ?_ ?_
                rotate_left
                · rintro wz ⟨nz, rfl⟩
                  go_simp
                  all_goals first | with_reducible rfl | omega
                try simp only [Act.put, pu]
                refine tkY 8 ?_ rfl hS ?_ ?_
                rotate_left
                · rintro wz ⟨nz, rfl⟩
                  go_simp
                  all_goals first | with_reducible rfl | omega
                try simp only [Act.put, pu]
                refine tkY 9 (.bool true) rfl hS ?_ ?_
                · rintro wz ⟨nz, rfl⟩
                  go_simp
                  all_goals first | with_reducible rfl | omega
                try simp only [Act.put, pu]
                refine tkY 10 (.bool true) rfl hS ?_ ?_
                · rintro wz ⟨nz, rfl⟩
                  go_simp
                  all_goals first | with_reducible rfl | omega
                try simp only [Act.put, pu]
                refine tkY 11 (.bool false) rfl hS ?_ ?_
                · rintro wz ⟨nz, rfl⟩
                  go_simp
                  all_goals first | with_reducible rfl | omega
                try simp only [Act.put, pu]
                refine tkY 12 (.bool false) rfl hS ?_ ?_
                · rintro wz ⟨nz, rfl⟩
                  go_simp
                  all_goals first | with_reducible rfl | omega
                try simp only [Act.put, pu]
                refine tkY 13 ?_ rfl hS ?_ ?_
                rotate_left
                · rintro wz ⟨nz, rfl⟩
                  go_simp
                  all_goals first | with_reducible rfl | omega
                try simp only [Act.put, pu]
                refine tkY 14 (.bool true) rfl hS ?_ ?_
                · rintro wz ⟨nz, rfl⟩
                  go_simp
                  all_goals first | with_reducible rfl | omega
                try simp only [Act.put, pu]
                refine tkY 15 (.bool true) rfl hS ?_ ?_
                · rintro wz ⟨nz, rfl⟩
                  go_simp
                  all_goals first | with_reducible rfl | omega
                try simp only [Act.put, pu]
                refine tkY 16 ?_ rfl hS ?_ ?_
                rotate_left
                · rintro wz ⟨nz, rfl⟩
                  go_simp
                  all_goals first | with_reducible rfl | omega
                try simp only [Act.put, pu]
                refine tkY 17 ?_ rfl hS ?_ ?_
                rotate_left
                · rintro wz ⟨nz, rfl⟩
                  go_simp
                  all_goals first | with_reducible rfl | omega
                try simp only [Act.put, pu]
                refine tkY 18 (.bool false) rfl hS ?_ ?_
                · rintro wz ⟨nz, rfl⟩
                  go_simp
                  all_goals first | with_reducible rfl | omega
                try simp only [Act.put, pu]
                refine tkY 19 (.bool false) rfl hS ?_ ?_
                · rintro wz ⟨nz, rfl⟩
                  go_simp
                  all_goals first | with_reducible rfl | omega
                try simp only [Act.put, pu]
                refine tkY 20 ?_ rfl hS ?_ ?_
                rotate_left
                · rintro wz ⟨nz, rfl⟩
                  go_simp
                  all_goals first | with_reducible rfl | omega
                try simp only [Act.put, pu]
                refine tkY 21 ?_ rfl hS ?_ ?_
                rotate_left
                · rintro wz ⟨nz, rfl⟩
                  go_simp
                  all_goals first | with_reducible rfl | omega
                try simp only [Act.put, pu]
                refine tkY 22 ?_ rfl hS ?_ ?_
                rotate_left
                · rintro wz ⟨nz, rfl⟩
                  go_simp
                  all_goals first | with_reducible rfl | omega
                try simp only [Act.put, pu]
                refine tkY 23 ?_ rfl hS ?_ ?_
                rotate_left
                · rintro wz ⟨nz, rfl⟩
                  go_simp
                  all_goals first | with_reducible rfl | omega
                try simp only [Act.put, pu]
                refine tkY 24 ?_ rfl hS ?_ ?_
                rotate_left
                · rintro wz ⟨nz, rfl⟩
                  go_simp
                  all_goals first | with_reducible rfl | omega
                try simp only [Act.put, pu]
                refine tkY 25 (.bool false) rfl hS ?_ ?_
                · rintro wz ⟨nz, rfl⟩
                  go_simp
                  all_goals first | with_reducible rfl | omega
                try simp only [Act.put, pu]
                refine tkY 26 (.bool false) rfl hS ?_ ?_
                · rintro wz ⟨nz, rfl⟩
                  go_simp
                  all_goals first | with_reducible rfl | omega
                try simp only [Act.put, pu]
                refine tkY 27 (.bool false) rfl hS ?_ ?_
                · rintro wz ⟨nz, rfl⟩
                  go_simp
                  all_goals first | with_reducible rfl | omega
                try simp only [Act.put, pu]
                refine tkY 28 (.bool false) rfl hS ?_ ?_
                · rintro wz ⟨nz, rfl⟩
                  go_simp
                  all_goals first | with_reducible rfl | omega
                try simp only [Act.put, pu]
                refine wpAnyH_done (by kernel_rfl) ?_ _
                clear hS
                have H := Lib.hid ((H.out.forget (O' := []) (fun p hp => by cases hp)).below (show Below w3.heap.size w3 w3.drew from below_drewN _ _ 1))
                obtain ⟨A, hA⟩ : ∃ A, keysE ((k, z) :: T2) = A := ⟨_, rfl⟩
                obtain ⟨B, hB⟩ : ∃ B, keysE K2 = B := ⟨_, rfl⟩
                obtain ⟨ST, hST⟩ : ∃ S, sumE ((k, z) :: T2) = S := ⟨_, rfl⟩
                obtain ⟨SK, hSK⟩ : ∃ S, sumE K2 = S := ⟨_, rfl⟩
                have hap := H.out.apart
                rw [hA, hB] at hap
                have HAP := Lib.hid hap
                have hp := H.out.pos
                have hlim := H.out.lens
                have hst0 := sum_nonneg hp.1
                have hsk0 := sum_nonneg hp.2
                have wS : IntKind.i64.wrap (ST + SK) = ST + SK := IntWalk.i64_in _ (by omega)
                have nS : ¬ (AL < ST + SK) := by have := HOk2.out.sa; omega
                have nK : ¬ (KE < SK) := by have := HOk2.out.sk; omega
                have HLA : Hid (A.length ≤ 1073741824 ∧ B.length ≤ 1073741824) := Lib.hid (by rw [← hA, ← hB]; unfold keysE; rw [List.length_map, List.length_map]; omega)
                have HA := Lib.hid hA
                have HB := Lib.hid hB
                have HST := Lib.hid hST
                have HSK := Lib.hid hSK
                clear hA hB hST hSK hap hp hlim hst0 hsk0
                go_wp2_with fail
                refine (keysT_to H.out A HA.out).mono ?_
                rintro e w5 ⟨v5, c5, rfl, h5⟩
                have H := Lib.hid h5
                clear h5
                go_wp2_with fail
                refine (keysK_to H.out B HB.out).mono ?_
                rintro e w6 ⟨v6, c6, rfl, h6⟩
                have H := Lib.hid h6
                clear h6
                go_wp2_with fail
                refine (bytesT_to H.out ST HST.out).mono ?_
                rintro e w7 ⟨rfl, h7⟩
                have H := Lib.hid h7
                clear h7
                go_wp2_with fail
                refine (bytesK_to H.out SK HSK.out).mono ?_
                rintro e w8 ⟨rfl, h8⟩
                have H := Lib.hid h8
                clear h8
                go_wp2_with fail
                refine (bytesK_to H.out SK HSK.out).mono ?_
                rintro e w9 ⟨rfl, h9⟩
                have H := Lib.hid h9
                clear h9 wS
                have HTA := Lib.hid (H.out.told (List.mem_cons_of_mem _ (List.mem_cons_self ..))).ts
                have HTB := Lib.hid (H.out.told (List.mem_cons_self ..)).ts
                have H := Lib.hid (H.out.forget (O' := []) (fun p hp => by cases hp))
                go_wp2_with fail
                go_loopg [23] A.length (fun gx u23 wx => ∃ (x : Nat), u23 = .int .i64 (x : Int) ∧ x + gx = A.length ∧ ∃ nn, wx = w9.drewN nn)
                case atStart => exact ⟨0, rfl, by omega, 0, rfl⟩
                case round =>
                  obtain ⟨x, rfl, hx, nn, rfl⟩ := hrel
                  cases gk with
                  | zero =>
                    have l1 : ¬ ((x : Int) < (A.length : Int)) := by omega
                    clear hx
                    go_wp2
                    go_roundg gko
                    case measure => exact Nat.lt_succ_self _
                    case rel => exact ⟨i1, (n + 1), ((k, z) :: T2), K2, rfl, HI1.out.1, HI1.out.2.1, HI1.out.2.2, (H.out.below (below_drewN _ _ _)), HOk2.out⟩
                  | succ gx =>
                    have hxl : x < A.length := by omega
                    have l1 : (x : Int) < (A.length : Int) := by omega
                    have l0x : (0 : Int) ≤ (x : Int) := by omega
                    obtain ⟨x1, hx1⟩ : ∃ x1, x + 1 = x1 := ⟨_, rfl⟩
                    have wx : IntKind.i64.wrap ((x : Int) + 1) = (x1 : Int) := by rw [show (x : Int) + 1 = (x1 : Int) by omega]; exact IntWalk.i64_in _ (by have := HLA.out; omega)
                    have HX1 : Hid (x1 + gx = A.length) := Lib.hid (by omega)
                    obtain ⟨ka, hka⟩ : ∃ y, A[x] = y := ⟨_, rfl⟩
                    have HMA : Hid (ka ∈ A) := Lib.hid (by rw [← hka]; exact List.getElem_mem _)
                    obtain ⟨bA, oA, rfl, qA⟩ : ∃ bA oA, v5 = some ⟨bA, oA, none⟩ ∧ w9.cell? ⟨bA, oA + x, none⟩ = some (.string ka) := by
                      obtain ⟨v, c, e, h⟩ := HTA.out.at_
                      injection e with e1 _ e3
                      subst e1 e3
                      rcases h with h0 | ⟨g', o', rfl, _, hq⟩
                      · omega
                      · exact ⟨g', o', rfl, by rw [hq x hxl, hka]⟩
                    clear hx hx1 hka hxl
                    go_wp2
                    go_loopg [24] B.length (fun gy u24 wy => ∃ (y : Nat), u24 = .int .i64 (y : Int) ∧ y + gy = B.length ∧ ∃ nn, wy = w9.drewN nn)
                    case atStart => exact ⟨0, rfl, by omega, nn, rfl⟩
                    case round =>
                      obtain ⟨y, rfl, hy, mm, rfl⟩ := hrel
                      cases gk with
                      | zero =>
                        have l2 : ¬ ((y : Int) < (B.length : Int)) := by omega
                        clear hy
                        go_wp2
                        go_roundg gx
                        case measure => exact Nat.lt_succ_self _
                        case rel => exact ⟨x1, rfl, HX1.out, _, rfl⟩
                      | succ gy =>
                        have hyl : y < B.length := by omega
                        have l2 : (y : Int) < (B.length : Int) := by omega
                        have l0y : (0 : Int) ≤ (y : Int) := by omega
                        obtain ⟨y1, hy1⟩ : ∃ y1, y + 1 = y1 := ⟨_, rfl⟩
                        have wy : IntKind.i64.wrap ((y : Int) + 1) = (y1 : Int) := by rw [show (y : Int) + 1 = (y1 : Int) by omega]; exact IntWalk.i64_in _ (by have := HLA.out; omega)
                        have HY1 : Hid (y1 + gy = B.length) := Lib.hid (by omega)
                        obtain ⟨kb, hkb⟩ : ∃ z, B[y] = z := ⟨_, rfl⟩
                        have hmb : kb ∈ B := by rw [← hkb]; exact List.getElem_mem _
                        obtain ⟨bB, oB, rfl, qB⟩ : ∃ bB oB, v6 = some ⟨bB, oB, none⟩ ∧ w9.cell? ⟨bB, oB + y, none⟩ = some (.string kb) := by
                          obtain ⟨v, c, e, h⟩ := HTB.out.at_
                          injection e with e1 _ e3
                          subst e1 e3
                          rcases h with h0 | ⟨g', o', rfl, _, hq⟩
                          · omega
                          · exact ⟨g', o', rfl, by rw [hq y hyl, hkb]⟩
                        have es : (ka.toList == kb.toList) = false := by rw [tl_dec]; exact decide_eq_false fun e => HAP.out ka HMA.out (e ▸ hmb)
                        clear hy hy1 hkb hyl hmb
                        go_wp2
                        go_quiet (fail)
                        go_wp2
                        go_roundg gy
                        case measure => exact Nat.lt_succ_self _
                        case rel => exact ⟨y1, rfl, HY1.out, by first | exact ⟨_, rfl⟩ | (rw [World.drewN_drewN]; exact ⟨_, rfl⟩)⟩
              · have zM : ¬ (z ≤ MO) := hzm
                have z1 : 1 ≤ z := hz1
                go_wp2_with fail
                obtain ⟨W1, hW1⟩ : ∃ W, wr.alloc (.cells #[.int .i64 0, .string k, .int .i64 z] 32) = W := ⟨_, rfl⟩
                rw [hW1]
                rw [hW1, hob2] at HBX
                have H := Lib.hid HBX.out
                have hbk := H.out.blk (List.mem_cons_self ..)
                have q0 := hbk.cell 0
                have q1 := hbk.cell 1
                have q2 := hbk.cell 2
                clear hbk hW1 HBX
                refine (ls_big H.out k z hz1 (by omega)).mono ?_
                rintro e w2 ⟨rfl, rfl⟩
                go_wp2_with fail
                refine (keysT_to H.out (keysE T) rfl).mono ?_
                rintro e w3 ⟨v3, c3, rfl, h3⟩
                have H := Lib.hid h3
                have hbk := h3.blk (List.mem_cons_of_mem _ (List.mem_cons_self ..))
                have q0 := hbk.cell 0
                have q1 := hbk.cell 1
                have q2 := hbk.cell 2
                clear hbk
                clear h3
                go_wp2_with fail
                refine wp_region_held_drew (S := (fun w' => ∃ nn, w' = w3.drewN nn)) (by kernel_rfl) ?_ (fun hS => ?_)
                · exact ⟨1, rfl⟩
                refine tkY 0 ?_ rfl hS ?_ ?_
                rotate_left
                · rintro wz ⟨nz, rfl⟩
                  go_simp
                  all_goals first | with_reducible rfl | omega
                try simp only [Act.put, pu]
                refine tkY 1 (.bool false) rfl hS ?_ ?_
                · rintro wz ⟨nz, rfl⟩
                  go_simp
                  all_goals first | with_reducible rfl | omega
                try simp only [Act.put, pu]
                refine tkY 2 ?_ rfl hS ?_ ?_
                rotate_left
                · rintro wz ⟨nz, rfl⟩
                  go_simp
                  all_goals first | with_reducible rfl | omega
                try simp only [Act.put, pu]
                refine tkY 3 ?_ rfl hS ?_ ?_
                rotate_left
                · rintro wz ⟨nz, rfl⟩
                  go_simp
                  all_goals first | with_reducible rfl | omega
                try simp only [Act.put, pu]
                refine tkY 4 (.bool true) rfl hS ?_ ?_
                · rintro wz ⟨nz, rfl⟩
                  go_simp
                  all_goals first | with_reducible rfl | omega
                try simp only [Act.put, pu]
                refine tkY 5 (.bool true) rfl hS ?_ ?_
                · rintro wz ⟨nz, rfl⟩
                  go_simp
                  all_goals first | with_reducible rfl | omega
                try simp only [Act.put, pu]
                refine tkY 6 ?_ rfl hS ?_ ?_
                rotate_left
                · rintro wz ⟨nz, rfl⟩
                  go_simp
                  all_goals first | with_reducible rfl | omega
                try simp only [Act.put, pu]
                refine tkY 7 ?_ rfl hS ?_ ?_
                rotate_left
                · rintro wz ⟨nz, rfl⟩
                  go_simp
                  all_goals first | with_reducible rfl | omega
                try simp only [Act.put, pu]
                refine tkY 8 ?_ rfl hS ?_ ?_
                rotate_left
                · rintro wz ⟨nz, rfl⟩
                  go_simp
                  all_goals first | with_reducible rfl | omega
                try simp only [Act.put, pu]
                refine tkY 9 (.bool false) rfl hS ?_ ?_
                · rintro wz ⟨nz, rfl⟩
                  go_simp
                  all_goals first | with_reducible rfl | omega
                try simp only [Act.put, pu]
                refine tkY 10 (.bool false) rfl hS ?_ ?_
                · rintro wz ⟨nz, rfl⟩
                  go_simp
                  all_goals first | with_reducible rfl | omega
                try simp only [Act.put, pu]
                refine tkY 11 (.bool false) rfl hS ?_ ?_
                · rintro wz ⟨nz, rfl⟩
                  go_simp
                  all_goals first | with_reducible rfl | omega
                try simp only [Act.put, pu]
                refine tkY 12 (.bool false) rfl hS ?_ ?_
                · rintro wz ⟨nz, rfl⟩
                  go_simp
                  all_goals first | with_reducible rfl | omega
                try simp only [Act.put, pu]
                refine tkY 13 ?_ rfl hS ?_ ?_
                rotate_left
                · rintro wz ⟨nz, rfl⟩
                  go_simp
                  all_goals first | with_reducible rfl | omega
                try simp only [Act.put, pu]
                refine tkY 14 (.bool false) rfl hS ?_ ?_
                · rintro wz ⟨nz, rfl⟩
                  go_simp
                  all_goals first | with_reducible rfl | omega
                try simp only [Act.put, pu]
                refine tkY 15 (.bool false) rfl hS ?_ ?_
                · rintro wz ⟨nz, rfl⟩
                  go_simp
                  all_goals first | with_reducible rfl | omega
                try simp only [Act.put, pu]
                refine tkN 16 rfl hS ?_
                try simp only [Act.put, pu]
                refine tkN 17 rfl hS ?_
                try simp only [Act.put, pu]
                refine tkN 18 rfl hS ?_
                try simp only [Act.put, pu]
                refine tkN 19 rfl hS ?_
                try simp only [Act.put, pu]
                refine tkN 20 rfl hS ?_
                try simp only [Act.put, pu]
                refine tkN 21 rfl hS ?_
                try simp only [Act.put, pu]
                refine tkN 22 rfl hS ?_
                try simp only [Act.put, pu]
                refine tkN 23 rfl hS ?_
                try simp only [Act.put, pu]
                refine tkN 24 rfl hS ?_
                try simp only [Act.put, pu]
                refine tkN 25 rfl hS ?_
                try simp only [Act.put, pu]
                refine tkN 26 rfl hS ?_
                try simp only [Act.put, pu]
                refine tkY 27 (.bool false) rfl hS ?_ ?_
                · rintro wz ⟨nz, rfl⟩
                  go_simp
                  all_goals first | with_reducible rfl | omega
                try simp only [Act.put, pu]
                refine tkY 28 (.bool false) rfl hS ?_ ?_
                · rintro wz ⟨nz, rfl⟩
                  go_simp
                  all_goals first | with_reducible rfl | omega
                try simp only [Act.put, pu]
                refine wpAnyH_done (by kernel_rfl) ?_ _
                clear hS
                have H := Lib.hid ((H.out.forget (O' := []) (fun p hp => by cases hp)).below (show Below w3.heap.size w3 w3.drew from below_drewN _ _ 1))
                obtain ⟨A, hA⟩ : ∃ A, keysE T = A := ⟨_, rfl⟩
                obtain ⟨B, hB⟩ : ∃ B, keysE K = B := ⟨_, rfl⟩
                obtain ⟨ST, hST⟩ : ∃ S, sumE T = S := ⟨_, rfl⟩
                obtain ⟨SK, hSK⟩ : ∃ S, sumE K = S := ⟨_, rfl⟩
                have hap := H.out.apart
                rw [hA, hB] at hap
                have HAP := Lib.hid hap
                have hp := H.out.pos
                have hlim := H.out.lens
                have hst0 := sum_nonneg hp.1
                have hsk0 := sum_nonneg hp.2
                have wS : IntKind.i64.wrap (ST + SK) = ST + SK := IntWalk.i64_in _ (by omega)
                have nS : ¬ (AL < ST + SK) := by have := HOk.out.sa; omega
                have nK : ¬ (KE < SK) := by have := HOk.out.sk; omega
                have HLA : Hid (A.length ≤ 1073741824 ∧ B.length ≤ 1073741824) := Lib.hid (by rw [← hA, ← hB]; unfold keysE; rw [List.length_map, List.length_map]; omega)
                have HA := Lib.hid hA
                have HB := Lib.hid hB
                have HST := Lib.hid hST
                have HSK := Lib.hid hSK
                clear hA hB hST hSK hap hp hlim hst0 hsk0
                go_wp2_with fail
                refine (keysT_to H.out A HA.out).mono ?_
                rintro e w5 ⟨v5, c5, rfl, h5⟩
                have H := Lib.hid h5
                clear h5
                go_wp2_with fail
                refine (keysK_to H.out B HB.out).mono ?_
                rintro e w6 ⟨v6, c6, rfl, h6⟩
                have H := Lib.hid h6
                clear h6
                go_wp2_with fail
                refine (bytesT_to H.out ST HST.out).mono ?_
                rintro e w7 ⟨rfl, h7⟩
                have H := Lib.hid h7
                clear h7
                go_wp2_with fail
                refine (bytesK_to H.out SK HSK.out).mono ?_
                rintro e w8 ⟨rfl, h8⟩
                have H := Lib.hid h8
                clear h8
                go_wp2_with fail
                refine (bytesK_to H.out SK HSK.out).mono ?_
                rintro e w9 ⟨rfl, h9⟩
                have H := Lib.hid h9
                clear h9 wS
                have HTA := Lib.hid (H.out.told (List.mem_cons_of_mem _ (List.mem_cons_self ..))).ts
                have HTB := Lib.hid (H.out.told (List.mem_cons_self ..)).ts
                have H := Lib.hid (H.out.forget (O' := []) (fun p hp => by cases hp))
                go_wp2_with fail
                go_loopg [23] A.length (fun gx u23 wx => ∃ (x : Nat), u23 = .int .i64 (x : Int) ∧ x + gx = A.length ∧ ∃ nn, wx = w9.drewN nn)
                case atStart => exact ⟨0, rfl, by omega, 0, rfl⟩
                case round =>
                  obtain ⟨x, rfl, hx, nn, rfl⟩ := hrel
                  cases gk with
                  | zero =>
                    have l1 : ¬ ((x : Int) < (A.length : Int)) := by omega
                    clear hx
                    go_wp2
                    go_roundg gko
                    case measure => exact Nat.lt_succ_self _
                    case rel => exact ⟨i1, n, T, K, rfl, HI1.out.1, HI1.out.2.1, by have := HI1.out.2.2; omega, (H.out.below (below_drewN _ _ _)), HOk.out⟩
                  | succ gx =>
                    have hxl : x < A.length := by omega
                    have l1 : (x : Int) < (A.length : Int) := by omega
                    have l0x : (0 : Int) ≤ (x : Int) := by omega
                    obtain ⟨x1, hx1⟩ : ∃ x1, x + 1 = x1 := ⟨_, rfl⟩
                    have wx : IntKind.i64.wrap ((x : Int) + 1) = (x1 : Int) := by rw [show (x : Int) + 1 = (x1 : Int) by omega]; exact IntWalk.i64_in _ (by have := HLA.out; omega)
                    have HX1 : Hid (x1 + gx = A.length) := Lib.hid (by omega)
                    obtain ⟨ka, hka⟩ : ∃ y, A[x] = y := ⟨_, rfl⟩
                    have HMA : Hid (ka ∈ A) := Lib.hid (by rw [← hka]; exact List.getElem_mem _)
                    obtain ⟨bA, oA, rfl, qA⟩ : ∃ bA oA, v5 = some ⟨bA, oA, none⟩ ∧ w9.cell? ⟨bA, oA + x, none⟩ = some (.string ka) := by
                      obtain ⟨v, c, e, h⟩ := HTA.out.at_
                      injection e with e1 _ e3
                      subst e1 e3
                      rcases h with h0 | ⟨g', o', rfl, _, hq⟩
                      · omega
                      · exact ⟨g', o', rfl, by rw [hq x hxl, hka]⟩
                    clear hx hx1 hka hxl
                    go_wp2
                    go_loopg [24] B.length (fun gy u24 wy => ∃ (y : Nat), u24 = .int .i64 (y : Int) ∧ y + gy = B.length ∧ ∃ nn, wy = w9.drewN nn)
                    case atStart => exact ⟨0, rfl, by omega, nn, rfl⟩
                    case round =>
                      obtain ⟨y, rfl, hy, mm, rfl⟩ := hrel
                      cases gk with
                      | zero =>
                        have l2 : ¬ ((y : Int) < (B.length : Int)) := by omega
                        clear hy
                        go_wp2
                        go_roundg gx
                        case measure => exact Nat.lt_succ_self _
                        case rel => exact ⟨x1, rfl, HX1.out, _, rfl⟩
                      | succ gy =>
                        have hyl : y < B.length := by omega
                        have l2 : (y : Int) < (B.length : Int) := by omega
                        have l0y : (0 : Int) ≤ (y : Int) := by omega
                        obtain ⟨y1, hy1⟩ : ∃ y1, y + 1 = y1 := ⟨_, rfl⟩
                        have wy : IntKind.i64.wrap ((y : Int) + 1) = (y1 : Int) := by rw [show (y : Int) + 1 = (y1 : Int) by omega]; exact IntWalk.i64_in _ (by have := HLA.out; omega)
                        have HY1 : Hid (y1 + gy = B.length) := Lib.hid (by omega)
                        obtain ⟨kb, hkb⟩ : ∃ z, B[y] = z := ⟨_, rfl⟩
                        have hmb : kb ∈ B := by rw [← hkb]; exact List.getElem_mem _
                        obtain ⟨bB, oB, rfl, qB⟩ : ∃ bB oB, v6 = some ⟨bB, oB, none⟩ ∧ w9.cell? ⟨bB, oB + y, none⟩ = some (.string kb) := by
                          obtain ⟨v, c, e, h⟩ := HTB.out.at_
                          injection e with e1 _ e3
                          subst e1 e3
                          rcases h with h0 | ⟨g', o', rfl, _, hq⟩
                          · omega
                          · exact ⟨g', o', rfl, by rw [hq y hyl, hkb]⟩
                        have es : (ka.toList == kb.toList) = false := by rw [tl_dec]; exact decide_eq_false fun e => HAP.out ka HMA.out (e ▸ hmb)
                        clear hy hy1 hkb hyl hmb
                        go_wp2
                        go_quiet (fail)
                        go_wp2
                        go_roundg gy
                        case measure => exact Nat.lt_succ_self _
                        case rel => exact ⟨y1, rfl, HY1.out, by first | exact ⟨_, rfl⟩ | (rw [World.drewN_drewN]; exact ⟨_, rfl⟩)⟩
            · have z1 : ¬ (1 ≤ z) := hz1
              go_wp2_with fail
              obtain ⟨W1, hW1⟩ : ∃ W, wr.alloc (.cells #[.int .i64 0, .string k, .int .i64 z] 32) = W := ⟨_, rfl⟩
              rw [hW1]
              rw [hW1, hob2] at HBX
              have H := Lib.hid HBX.out
              have hbk := H.out.blk (List.mem_cons_self ..)
              have q0 := hbk.cell 0
              have q1 := hbk.cell 1
              have q2 := hbk.cell 2
              clear hbk hW1 HBX
              refine (ls_low H.out k z (by omega)).mono ?_
              rintro e w2 ⟨rfl, rfl⟩
              go_wp2_with fail
              refine (keysT_to H.out (keysE T) rfl).mono ?_
              rintro e w3 ⟨v3, c3, rfl, h3⟩
              have H := Lib.hid h3
              have hbk := h3.blk (List.mem_cons_of_mem _ (List.mem_cons_self ..))
              have q0 := hbk.cell 0
              have q1 := hbk.cell 1
              have q2 := hbk.cell 2
              clear hbk
              clear h3
              go_wp2_with fail
              have z1 : ¬ (1 ≤ z) := by omega
              refine wp_region_held_drew (S := (fun w' => ∃ nn, w' = w3.drewN nn)) (by kernel_rfl) ?_ (fun hS => ?_)
              · exact ⟨1, rfl⟩
              refine tkY 0 ?_ rfl hS ?_ ?_
              rotate_left
              · rintro wz ⟨nz, rfl⟩
                go_simp
                all_goals first | with_reducible rfl | omega
              try simp only [Act.put, pu]
              refine tkY 1 (.bool false) rfl hS ?_ ?_
              · rintro wz ⟨nz, rfl⟩
                go_simp
                all_goals first | with_reducible rfl | omega
              try simp only [Act.put, pu]
              refine tkY 2 ?_ rfl hS ?_ ?_
              rotate_left
              · rintro wz ⟨nz, rfl⟩
                go_simp
                all_goals first | with_reducible rfl | omega
              try simp only [Act.put, pu]
              refine tkY 3 ?_ rfl hS ?_ ?_
              rotate_left
              · rintro wz ⟨nz, rfl⟩
                go_simp
                all_goals first | with_reducible rfl | omega
              try simp only [Act.put, pu]
              refine tkY 4 (.bool false) rfl hS ?_ ?_
              · rintro wz ⟨nz, rfl⟩
                go_simp
                all_goals first | with_reducible rfl | omega
              try simp only [Act.put, pu]
              refine tkY 5 (.bool false) rfl hS ?_ ?_
              · rintro wz ⟨nz, rfl⟩
                go_simp
                all_goals first | with_reducible rfl | omega
              try simp only [Act.put, pu]
              refine tkN 6 rfl hS ?_
              try simp only [Act.put, pu]
              refine tkN 7 rfl hS ?_
              try simp only [Act.put, pu]
              refine tkN 8 rfl hS ?_
              try simp only [Act.put, pu]
              refine tkN 9 rfl hS ?_
              try simp only [Act.put, pu]
              refine tkY 10 (.bool false) rfl hS ?_ ?_
              · rintro wz ⟨nz, rfl⟩
                go_simp
                all_goals first | with_reducible rfl | omega
              try simp only [Act.put, pu]
              refine tkY 11 (.bool false) rfl hS ?_ ?_
              · rintro wz ⟨nz, rfl⟩
                go_simp
                all_goals first | with_reducible rfl | omega
              try simp only [Act.put, pu]
              refine tkY 12 (.bool false) rfl hS ?_ ?_
              · rintro wz ⟨nz, rfl⟩
                go_simp
                all_goals first | with_reducible rfl | omega
              try simp only [Act.put, pu]
              refine tkY 13 ?_ rfl hS ?_ ?_
              rotate_left
              · rintro wz ⟨nz, rfl⟩
                go_simp
                all_goals first | with_reducible rfl | omega
              try simp only [Act.put, pu]
              refine tkY 14 (.bool false) rfl hS ?_ ?_
              · rintro wz ⟨nz, rfl⟩
                go_simp
                all_goals first | with_reducible rfl | omega
              try simp only [Act.put, pu]
              refine tkY 15 (.bool false) rfl hS ?_ ?_
              · rintro wz ⟨nz, rfl⟩
                go_simp
                all_goals first | with_reducible rfl | omega
              try simp only [Act.put, pu]
              refine tkN 16 rfl hS ?_
              try simp only [Act.put, pu]
              refine tkN 17 rfl hS ?_
              try simp only [Act.put, pu]
              refine tkN 18 rfl hS ?_
              try simp only [Act.put, pu]
              refine tkN 19 rfl hS ?_
              try simp only [Act.put, pu]
              refine tkN 20 rfl hS ?_
              try simp only [Act.put, pu]
              refine tkN 21 rfl hS ?_
              try simp only [Act.put, pu]
              refine tkN 22 rfl hS ?_
              try simp only [Act.put, pu]
              refine tkN 23 rfl hS ?_
              try simp only [Act.put, pu]
              refine tkN 24 rfl hS ?_
              try simp only [Act.put, pu]
              refine tkN 25 rfl hS ?_
              try simp only [Act.put, pu]
              refine tkN 26 rfl hS ?_
              try simp only [Act.put, pu]
              refine tkY 27 (.bool false) rfl hS ?_ ?_
              · rintro wz ⟨nz, rfl⟩
                go_simp
                all_goals first | with_reducible rfl | omega
              try simp only [Act.put, pu]
              refine tkY 28 (.bool false) rfl hS ?_ ?_
              · rintro wz ⟨nz, rfl⟩
                go_simp
                all_goals first | with_reducible rfl | omega
              try simp only [Act.put, pu]
              refine wpAnyH_done (by kernel_rfl) ?_ _
              clear hS
              have H := Lib.hid ((H.out.forget (O' := []) (fun p hp => by cases hp)).below (show Below w3.heap.size w3 w3.drew from below_drewN _ _ 1))
              obtain ⟨A, hA⟩ : ∃ A, keysE T = A := ⟨_, rfl⟩
              obtain ⟨B, hB⟩ : ∃ B, keysE K = B := ⟨_, rfl⟩
              obtain ⟨ST, hST⟩ : ∃ S, sumE T = S := ⟨_, rfl⟩
              obtain ⟨SK, hSK⟩ : ∃ S, sumE K = S := ⟨_, rfl⟩
              have hap := H.out.apart
              rw [hA, hB] at hap
              have HAP := Lib.hid hap
              have hp := H.out.pos
              have hlim := H.out.lens
              have hst0 := sum_nonneg hp.1
              have hsk0 := sum_nonneg hp.2
              have wS : IntKind.i64.wrap (ST + SK) = ST + SK := IntWalk.i64_in _ (by omega)
              have nS : ¬ (AL < ST + SK) := by have := HOk.out.sa; omega
              have nK : ¬ (KE < SK) := by have := HOk.out.sk; omega
              have HLA : Hid (A.length ≤ 1073741824 ∧ B.length ≤ 1073741824) := Lib.hid (by rw [← hA, ← hB]; unfold keysE; rw [List.length_map, List.length_map]; omega)
              have HA := Lib.hid hA
              have HB := Lib.hid hB
              have HST := Lib.hid hST
              have HSK := Lib.hid hSK
              clear hA hB hST hSK hap hp hlim hst0 hsk0
              go_wp2_with fail
              refine (keysT_to H.out A HA.out).mono ?_
              rintro e w5 ⟨v5, c5, rfl, h5⟩
              have H := Lib.hid h5
              clear h5
              go_wp2_with fail
              refine (keysK_to H.out B HB.out).mono ?_
              rintro e w6 ⟨v6, c6, rfl, h6⟩
              have H := Lib.hid h6
              clear h6
              go_wp2_with fail
              refine (bytesT_to H.out ST HST.out).mono ?_
              rintro e w7 ⟨rfl, h7⟩
              have H := Lib.hid h7
              clear h7
              go_wp2_with fail
              refine (bytesK_to H.out SK HSK.out).mono ?_
              rintro e w8 ⟨rfl, h8⟩
              have H := Lib.hid h8
              clear h8
              go_wp2_with fail
              refine (bytesK_to H.out SK HSK.out).mono ?_
              rintro e w9 ⟨rfl, h9⟩
              have H := Lib.hid h9
              clear h9 wS
              have HTA := Lib.hid (H.out.told (List.mem_cons_of_mem _ (List.mem_cons_self ..))).ts
              have HTB := Lib.hid (H.out.told (List.mem_cons_self ..)).ts
              have H := Lib.hid (H.out.forget (O' := []) (fun p hp => by cases hp))
              go_wp2_with fail
              go_loopg [23] A.length (fun gx u23 wx => ∃ (x : Nat), u23 = .int .i64 (x : Int) ∧ x + gx = A.length ∧ ∃ nn, wx = w9.drewN nn)
              case atStart => exact ⟨0, rfl, by omega, 0, rfl⟩
              case round =>
                obtain ⟨x, rfl, hx, nn, rfl⟩ := hrel
                cases gk with
                | zero =>
                  have l1 : ¬ ((x : Int) < (A.length : Int)) := by omega
                  clear hx
                  go_wp2
                  go_roundg gko
                  case measure => exact Nat.lt_succ_self _
                  case rel => exact ⟨i1, n, T, K, rfl, HI1.out.1, HI1.out.2.1, by have := HI1.out.2.2; omega, (H.out.below (below_drewN _ _ _)), HOk.out⟩
                | succ gx =>
                  have hxl : x < A.length := by omega
                  have l1 : (x : Int) < (A.length : Int) := by omega
                  have l0x : (0 : Int) ≤ (x : Int) := by omega
                  obtain ⟨x1, hx1⟩ : ∃ x1, x + 1 = x1 := ⟨_, rfl⟩
                  have wx : IntKind.i64.wrap ((x : Int) + 1) = (x1 : Int) := by rw [show (x : Int) + 1 = (x1 : Int) by omega]; exact IntWalk.i64_in _ (by have := HLA.out; omega)
                  have HX1 : Hid (x1 + gx = A.length) := Lib.hid (by omega)
                  obtain ⟨ka, hka⟩ : ∃ y, A[x] = y := ⟨_, rfl⟩
                  have HMA : Hid (ka ∈ A) := Lib.hid (by rw [← hka]; exact List.getElem_mem _)
                  obtain ⟨bA, oA, rfl, qA⟩ : ∃ bA oA, v5 = some ⟨bA, oA, none⟩ ∧ w9.cell? ⟨bA, oA + x, none⟩ = some (.string ka) := by
                    obtain ⟨v, c, e, h⟩ := HTA.out.at_
                    injection e with e1 _ e3
                    subst e1 e3
                    rcases h with h0 | ⟨g', o', rfl, _, hq⟩
                    · omega
                    · exact ⟨g', o', rfl, by rw [hq x hxl, hka]⟩
                  clear hx hx1 hka hxl
                  go_wp2
                  go_loopg [24] B.length (fun gy u24 wy => ∃ (y : Nat), u24 = .int .i64 (y : Int) ∧ y + gy = B.length ∧ ∃ nn, wy = w9.drewN nn)
                  case atStart => exact ⟨0, rfl, by omega, nn, rfl⟩
                  case round =>
                    obtain ⟨y, rfl, hy, mm, rfl⟩ := hrel
                    cases gk with
                    | zero =>
                      have l2 : ¬ ((y : Int) < (B.length : Int)) := by omega
                      clear hy
                      go_wp2
                      go_roundg gx
                      case measure => exact Nat.lt_succ_self _
                      case rel => exact ⟨x1, rfl, HX1.out, _, rfl⟩
                    | succ gy =>
                      have hyl : y < B.length := by omega
                      have l2 : (y : Int) < (B.length : Int) := by omega
                      have l0y : (0 : Int) ≤ (y : Int) := by omega
                      obtain ⟨y1, hy1⟩ : ∃ y1, y + 1 = y1 := ⟨_, rfl⟩
                      have wy : IntKind.i64.wrap ((y : Int) + 1) = (y1 : Int) := by rw [show (y : Int) + 1 = (y1 : Int) by omega]; exact IntWalk.i64_in _ (by have := HLA.out; omega)
                      have HY1 : Hid (y1 + gy = B.length) := Lib.hid (by omega)
                      obtain ⟨kb, hkb⟩ : ∃ z, B[y] = z := ⟨_, rfl⟩
                      have hmb : kb ∈ B := by rw [← hkb]; exact List.getElem_mem _
                      obtain ⟨bB, oB, rfl, qB⟩ : ∃ bB oB, v6 = some ⟨bB, oB, none⟩ ∧ w9.cell? ⟨bB, oB + y, none⟩ = some (.string kb) := by
                        obtain ⟨v, c, e, h⟩ := HTB.out.at_
                        injection e with e1 _ e3
                        subst e1 e3
                        rcases h with h0 | ⟨g', o', rfl, _, hq⟩
                        · omega
                        · exact ⟨g', o', rfl, by rw [hq y hyl, hkb]⟩
                      have es : (ka.toList == kb.toList) = false := by rw [tl_dec]; exact decide_eq_false fun e => HAP.out ka HMA.out (e ▸ hmb)
                      clear hy hy1 hkb hyl hmb
                      go_wp2
                      go_quiet (fail)
                      go_wp2
                      go_roundg gy
                      case measure => exact Nat.lt_succ_self _
                      case rel => exact ⟨y1, rfl, HY1.out, by first | exact ⟨_, rfl⟩ | (rw [World.drewN_drewN]; exact ⟨_, rfl⟩)⟩
          · by_cases e1 : kd = 1
            · subst e1
              have hh0 : ∃ o, hasS k T K = o := ⟨_, rfl⟩
              obtain ⟨o, hh⟩ := hh0
              cases o with
              | none =>
                go_wp2_with fail
                obtain ⟨W1, hW1⟩ : ∃ W, wr.alloc (.cells #[.int .i64 1, .string k, .int .i64 z] 32) = W := ⟨_, rfl⟩
                rw [hW1]
                rw [hW1, hob2] at HBX
                have H := Lib.hid HBX.out
                have hbk := H.out.blk (List.mem_cons_self ..)
                have q0 := hbk.cell 0
                have q1 := hbk.cell 1
                have q2 := hbk.cell 2
                clear hbk hW1 HBX
                refine (has_to H.out k HKB.out (.tuple #[.int .i64 0, .bool false]) (by rw [hh]; rfl)).mono ?_
                rintro e w2 ⟨rfl, rfl⟩
                go_wp2_with fail
                refine (ls_miss H.out k HKB.out hh).mono ?_
                rintro e w2 ⟨rfl, rfl⟩
                go_wp2_with fail
                refine (has_to H.out k HKB.out (.tuple #[.int .i64 0, .bool false]) (by rw [hh]; rfl)).mono ?_
                rintro e w2 ⟨rfl, rfl⟩
                have H := Lib.hid (H.out.forget (O' := []) (fun p hp => by cases hp))
                clear q0 q1 q2
                obtain ⟨A, hA⟩ : ∃ A, keysE T = A := ⟨_, rfl⟩
                obtain ⟨B, hB⟩ : ∃ B, keysE K = B := ⟨_, rfl⟩
                obtain ⟨ST, hST⟩ : ∃ S, sumE T = S := ⟨_, rfl⟩
                obtain ⟨SK, hSK⟩ : ∃ S, sumE K = S := ⟨_, rfl⟩
                have hap := H.out.apart
                rw [hA, hB] at hap
                have HAP := Lib.hid hap
                have hp := H.out.pos
                have hlim := H.out.lens
                have hst0 := sum_nonneg hp.1
                have hsk0 := sum_nonneg hp.2
                have wS : IntKind.i64.wrap (ST + SK) = ST + SK := IntWalk.i64_in _ (by omega)
                have nS : ¬ (AL < ST + SK) := by have := HOk.out.sa; omega
                have nK : ¬ (KE < SK) := by have := HOk.out.sk; omega
                have HLA : Hid (A.length ≤ 1073741824 ∧ B.length ≤ 1073741824) := Lib.hid (by rw [← hA, ← hB]; unfold keysE; rw [List.length_map, List.length_map]; omega)
                have HA := Lib.hid hA
                have HB := Lib.hid hB
                have HST := Lib.hid hST
                have HSK := Lib.hid hSK
                clear hA hB hST hSK hap hp hlim hst0 hsk0
                go_wp2_with fail
                refine (keysT_to H.out A HA.out).mono ?_
                rintro e w5 ⟨v5, c5, rfl, h5⟩
                have H := Lib.hid h5
                clear h5
                go_wp2_with fail
                refine (keysK_to H.out B HB.out).mono ?_
                rintro e w6 ⟨v6, c6, rfl, h6⟩
                have H := Lib.hid h6
                clear h6
                go_wp2_with fail
                refine (bytesT_to H.out ST HST.out).mono ?_
                rintro e w7 ⟨rfl, h7⟩
                have H := Lib.hid h7
                clear h7
                go_wp2_with fail
                refine (bytesK_to H.out SK HSK.out).mono ?_
                rintro e w8 ⟨rfl, h8⟩
                have H := Lib.hid h8
                clear h8
                go_wp2_with fail
                refine (bytesK_to H.out SK HSK.out).mono ?_
                rintro e w9 ⟨rfl, h9⟩
                have H := Lib.hid h9
                clear h9 wS
                have HTA := Lib.hid (H.out.told (List.mem_cons_of_mem _ (List.mem_cons_self ..))).ts
                have HTB := Lib.hid (H.out.told (List.mem_cons_self ..)).ts
                have H := Lib.hid (H.out.forget (O' := []) (fun p hp => by cases hp))
                go_wp2_with fail
                go_loopg [23] A.length (fun gx u23 wx => ∃ (x : Nat), u23 = .int .i64 (x : Int) ∧ x + gx = A.length ∧ ∃ nn, wx = w9.drewN nn)
                case atStart => exact ⟨0, rfl, by omega, 0, rfl⟩
                case round =>
                  obtain ⟨x, rfl, hx, nn, rfl⟩ := hrel
                  cases gk with
                  | zero =>
                    have l1 : ¬ ((x : Int) < (A.length : Int)) := by omega
                    clear hx
                    go_wp2
                    go_roundg gko
                    case measure => exact Nat.lt_succ_self _
                    case rel => exact ⟨i1, n, T, K, rfl, HI1.out.1, HI1.out.2.1, by have := HI1.out.2.2; omega, (H.out.below (below_drewN _ _ _)), HOk.out⟩
                  | succ gx =>
                    have hxl : x < A.length := by omega
                    have l1 : (x : Int) < (A.length : Int) := by omega
                    have l0x : (0 : Int) ≤ (x : Int) := by omega
                    obtain ⟨x1, hx1⟩ : ∃ x1, x + 1 = x1 := ⟨_, rfl⟩
                    have wx : IntKind.i64.wrap ((x : Int) + 1) = (x1 : Int) := by rw [show (x : Int) + 1 = (x1 : Int) by omega]; exact IntWalk.i64_in _ (by have := HLA.out; omega)
                    have HX1 : Hid (x1 + gx = A.length) := Lib.hid (by omega)
                    obtain ⟨ka, hka⟩ : ∃ y, A[x] = y := ⟨_, rfl⟩
                    have HMA : Hid (ka ∈ A) := Lib.hid (by rw [← hka]; exact List.getElem_mem _)
                    obtain ⟨bA, oA, rfl, qA⟩ : ∃ bA oA, v5 = some ⟨bA, oA, none⟩ ∧ w9.cell? ⟨bA, oA + x, none⟩ = some (.string ka) := by
                      obtain ⟨v, c, e, h⟩ := HTA.out.at_
                      injection e with e1 _ e3
                      subst e1 e3
                      rcases h with h0 | ⟨g', o', rfl, _, hq⟩
                      · omega
                      · exact ⟨g', o', rfl, by rw [hq x hxl, hka]⟩
                    clear hx hx1 hka hxl
                    go_wp2
                    go_loopg [24] B.length (fun gy u24 wy => ∃ (y : Nat), u24 = .int .i64 (y : Int) ∧ y + gy = B.length ∧ ∃ nn, wy = w9.drewN nn)
                    case atStart => exact ⟨0, rfl, by omega, nn, rfl⟩
                    case round =>
                      obtain ⟨y, rfl, hy, mm, rfl⟩ := hrel
                      cases gk with
                      | zero =>
                        have l2 : ¬ ((y : Int) < (B.length : Int)) := by omega
                        clear hy
                        go_wp2
                        go_roundg gx
                        case measure => exact Nat.lt_succ_self _
                        case rel => exact ⟨x1, rfl, HX1.out, _, rfl⟩
                      | succ gy =>
                        have hyl : y < B.length := by omega
                        have l2 : (y : Int) < (B.length : Int) := by omega
                        have l0y : (0 : Int) ≤ (y : Int) := by omega
                        obtain ⟨y1, hy1⟩ : ∃ y1, y + 1 = y1 := ⟨_, rfl⟩
                        have wy : IntKind.i64.wrap ((y : Int) + 1) = (y1 : Int) := by rw [show (y : Int) + 1 = (y1 : Int) by omega]; exact IntWalk.i64_in _ (by have := HLA.out; omega)
                        have HY1 : Hid (y1 + gy = B.length) := Lib.hid (by omega)
                        obtain ⟨kb, hkb⟩ : ∃ z, B[y] = z := ⟨_, rfl⟩
                        have hmb : kb ∈ B := by rw [← hkb]; exact List.getElem_mem _
                        obtain ⟨bB, oB, rfl, qB⟩ : ∃ bB oB, v6 = some ⟨bB, oB, none⟩ ∧ w9.cell? ⟨bB, oB + y, none⟩ = some (.string kb) := by
                          obtain ⟨v, c, e, h⟩ := HTB.out.at_
                          injection e with e1 _ e3
                          subst e1 e3
                          rcases h with h0 | ⟨g', o', rfl, _, hq⟩
                          · omega
                          · exact ⟨g', o', rfl, by rw [hq y hyl, hkb]⟩
                        have es : (ka.toList == kb.toList) = false := by rw [tl_dec]; exact decide_eq_false fun e => HAP.out ka HMA.out (e ▸ hmb)
                        clear hy hy1 hkb hyl hmb
                        go_wp2
                        go_quiet (fail)
                        go_wp2
                        go_roundg gy
                        case measure => exact Nat.lt_succ_self _
                        case rel => exact ⟨y1, rfl, HY1.out, by first | exact ⟨_, rfl⟩ | (rw [World.drewN_drewN]; exact ⟨_, rfl⟩)⟩
              | some zz =>
                go_wp2_with fail
                obtain ⟨W1, hW1⟩ : ∃ W, wr.alloc (.cells #[.int .i64 1, .string k, .int .i64 z] 32) = W := ⟨_, rfl⟩
                rw [hW1]
                rw [hW1, hob2] at HBX
                have H := Lib.hid HBX.out
                have hbk := H.out.blk (List.mem_cons_self ..)
                have q0 := hbk.cell 0
                have q1 := hbk.cell 1
                have q2 := hbk.cell 2
                clear hbk hW1 HBX
                obtain ⟨T2, K2, G, hR⟩ : ∃ T2 K2 G, touchE KE k zz T K = (T2, K2, G) := ⟨_, _, _, rfl⟩
                have hok2 : OkE AL KE MO T2 K2 := by have h := HOk.out.touch HKE0.out HPT.out HPK.out k HK100.out zz hh; rw [hR] at h; exact h
                have hh2 : (hasS k T2 K2).isSome = true := by have h := touch_has (ke := KE) (k := k) (z := zz) (T := T) (K := K); rw [hR] at h; exact h
                obtain ⟨z2, hz2⟩ := Option.isSome_iff_exists.1 hh2
                have HOk2 := Lib.hid hok2
                have HRR := Lib.hid hR
                have HH := Lib.hid hh
                have HH2 := Lib.hid hz2
                clear hok2 hR hh hz2 hh2
                refine (has_to H.out k HKB.out (.tuple #[.int .i64 zz, .bool true]) (by rw [HH.out]; rfl)).mono ?_
                rintro e w2 ⟨rfl, rfl⟩
                go_wp2_with fail
                refine (touch_to H.out HKE0.out HOk.out.sk k HKB.out zz HH.out _ HRR.out).mono ?_
                rintro e w2 ⟨v2, c2, rfl, h2⟩
                have H := Lib.hid h2
                have hbk := h2.blk (List.mem_cons_of_mem _ (List.mem_cons_self ..))
                have q0 := hbk.cell 0
                have q1 := hbk.cell 1
                have q2 := hbk.cell 2
                clear hbk
                clear h2
                go_wp2_with fail
                refine (has_to H.out k HKB.out (.tuple #[.int .i64 z2, .bool true]) (by rw [HH2.out]; rfl)).mono ?_
                rintro e w4 ⟨rfl, rfl⟩
                have H := Lib.hid (H.out.forget (O' := []) (fun p hp => by cases hp))
                clear q0 q1 q2
                obtain ⟨A, hA⟩ : ∃ A, keysE T2 = A := ⟨_, rfl⟩
                obtain ⟨B, hB⟩ : ∃ B, keysE K2 = B := ⟨_, rfl⟩
                obtain ⟨ST, hST⟩ : ∃ S, sumE T2 = S := ⟨_, rfl⟩
                obtain ⟨SK, hSK⟩ : ∃ S, sumE K2 = S := ⟨_, rfl⟩
                have hap := H.out.apart
                rw [hA, hB] at hap
                have HAP := Lib.hid hap
                have hp := H.out.pos
                have hlim := H.out.lens
                have hst0 := sum_nonneg hp.1
                have hsk0 := sum_nonneg hp.2
                have wS : IntKind.i64.wrap (ST + SK) = ST + SK := IntWalk.i64_in _ (by omega)
                have nS : ¬ (AL < ST + SK) := by have := HOk2.out.sa; omega
                have nK : ¬ (KE < SK) := by have := HOk2.out.sk; omega
                have HLA : Hid (A.length ≤ 1073741824 ∧ B.length ≤ 1073741824) := Lib.hid (by rw [← hA, ← hB]; unfold keysE; rw [List.length_map, List.length_map]; omega)
                have HA := Lib.hid hA
                have HB := Lib.hid hB
                have HST := Lib.hid hST
                have HSK := Lib.hid hSK
                clear hA hB hST hSK hap hp hlim hst0 hsk0
                go_wp2_with fail
                refine (keysT_to H.out A HA.out).mono ?_
                rintro e w5 ⟨v5, c5, rfl, h5⟩
                have H := Lib.hid h5
                clear h5
                go_wp2_with fail
                refine (keysK_to H.out B HB.out).mono ?_
                rintro e w6 ⟨v6, c6, rfl, h6⟩
                have H := Lib.hid h6
                clear h6
                go_wp2_with fail
                refine (bytesT_to H.out ST HST.out).mono ?_
                rintro e w7 ⟨rfl, h7⟩
                have H := Lib.hid h7
                clear h7
                go_wp2_with fail
                refine (bytesK_to H.out SK HSK.out).mono ?_
                rintro e w8 ⟨rfl, h8⟩
                have H := Lib.hid h8
                clear h8
                go_wp2_with fail
                refine (bytesK_to H.out SK HSK.out).mono ?_
                rintro e w9 ⟨rfl, h9⟩
                have H := Lib.hid h9
                clear h9 wS
                have HTA := Lib.hid (H.out.told (List.mem_cons_of_mem _ (List.mem_cons_self ..))).ts
                have HTB := Lib.hid (H.out.told (List.mem_cons_self ..)).ts
                have H := Lib.hid (H.out.forget (O' := []) (fun p hp => by cases hp))
                go_wp2_with fail
                go_loopg [23] A.length (fun gx u23 wx => ∃ (x : Nat), u23 = .int .i64 (x : Int) ∧ x + gx = A.length ∧ ∃ nn, wx = w9.drewN nn)
                case atStart => exact ⟨0, rfl, by omega, 0, rfl⟩
                case round =>
                  obtain ⟨x, rfl, hx, nn, rfl⟩ := hrel
                  cases gk with
                  | zero =>
                    have l1 : ¬ ((x : Int) < (A.length : Int)) := by omega
                    clear hx
                    go_wp2
                    go_roundg gko
                    case measure => exact Nat.lt_succ_self _
                    case rel => exact ⟨i1, n, T2, K2, rfl, HI1.out.1, HI1.out.2.1, by have := HI1.out.2.2; omega, (H.out.below (below_drewN _ _ _)), HOk2.out⟩
                  | succ gx =>
                    have hxl : x < A.length := by omega
                    have l1 : (x : Int) < (A.length : Int) := by omega
                    have l0x : (0 : Int) ≤ (x : Int) := by omega
                    obtain ⟨x1, hx1⟩ : ∃ x1, x + 1 = x1 := ⟨_, rfl⟩
                    have wx : IntKind.i64.wrap ((x : Int) + 1) = (x1 : Int) := by rw [show (x : Int) + 1 = (x1 : Int) by omega]; exact IntWalk.i64_in _ (by have := HLA.out; omega)
                    have HX1 : Hid (x1 + gx = A.length) := Lib.hid (by omega)
                    obtain ⟨ka, hka⟩ : ∃ y, A[x] = y := ⟨_, rfl⟩
                    have HMA : Hid (ka ∈ A) := Lib.hid (by rw [← hka]; exact List.getElem_mem _)
                    obtain ⟨bA, oA, rfl, qA⟩ : ∃ bA oA, v5 = some ⟨bA, oA, none⟩ ∧ w9.cell? ⟨bA, oA + x, none⟩ = some (.string ka) := by
                      obtain ⟨v, c, e, h⟩ := HTA.out.at_
                      injection e with e1 _ e3
                      subst e1 e3
                      rcases h with h0 | ⟨g', o', rfl, _, hq⟩
                      · omega
                      · exact ⟨g', o', rfl, by rw [hq x hxl, hka]⟩
                    clear hx hx1 hka hxl
                    go_wp2
                    go_loopg [24] B.length (fun gy u24 wy => ∃ (y : Nat), u24 = .int .i64 (y : Int) ∧ y + gy = B.length ∧ ∃ nn, wy = w9.drewN nn)
                    case atStart => exact ⟨0, rfl, by omega, nn, rfl⟩
                    case round =>
                      obtain ⟨y, rfl, hy, mm, rfl⟩ := hrel
                      cases gk with
                      | zero =>
                        have l2 : ¬ ((y : Int) < (B.length : Int)) := by omega
                        clear hy
                        go_wp2
                        go_roundg gx
                        case measure => exact Nat.lt_succ_self _
                        case rel => exact ⟨x1, rfl, HX1.out, _, rfl⟩
                      | succ gy =>
                        have hyl : y < B.length := by omega
                        have l2 : (y : Int) < (B.length : Int) := by omega
                        have l0y : (0 : Int) ≤ (y : Int) := by omega
                        obtain ⟨y1, hy1⟩ : ∃ y1, y + 1 = y1 := ⟨_, rfl⟩
                        have wy : IntKind.i64.wrap ((y : Int) + 1) = (y1 : Int) := by rw [show (y : Int) + 1 = (y1 : Int) by omega]; exact IntWalk.i64_in _ (by have := HLA.out; omega)
                        have HY1 : Hid (y1 + gy = B.length) := Lib.hid (by omega)
                        obtain ⟨kb, hkb⟩ : ∃ z, B[y] = z := ⟨_, rfl⟩
                        have hmb : kb ∈ B := by rw [← hkb]; exact List.getElem_mem _
                        obtain ⟨bB, oB, rfl, qB⟩ : ∃ bB oB, v6 = some ⟨bB, oB, none⟩ ∧ w9.cell? ⟨bB, oB + y, none⟩ = some (.string kb) := by
                          obtain ⟨v, c, e, h⟩ := HTB.out.at_
                          injection e with e1 _ e3
                          subst e1 e3
                          rcases h with h0 | ⟨g', o', rfl, _, hq⟩
                          · omega
                          · exact ⟨g', o', rfl, by rw [hq y hyl, hkb]⟩
                        have es : (ka.toList == kb.toList) = false := by rw [tl_dec]; exact decide_eq_false fun e => HAP.out ka HMA.out (e ▸ hmb)
                        clear hy hy1 hkb hyl hmb
                        go_wp2
                        go_quiet (fail)
                        go_wp2
                        go_roundg gy
                        case measure => exact Nat.lt_succ_self _
                        case rel => exact ⟨y1, rfl, HY1.out, by first | exact ⟨_, rfl⟩ | (rw [World.drewN_drewN]; exact ⟨_, rfl⟩)⟩
            · have e0b : (kd == 0) = false := beq_eq_false_iff_ne.2 e0
              have e1b : (kd == 1) = false := beq_eq_false_iff_ne.2 e1
              clear e0 e1
              go_wp2_with fail
              obtain ⟨W1, hW1⟩ : ∃ W, wr.alloc (.cells #[.int .i64 kd, .string k, .int .i64 z] 32) = W := ⟨_, rfl⟩
              rw [hW1]
              rw [hW1, hob2] at HBX
              have H := Lib.hid HBX.out
              have hbk := H.out.blk (List.mem_cons_self ..)
              have q0 := hbk.cell 0
              have q1 := hbk.cell 1
              have q2 := hbk.cell 2
              clear hbk hW1 HBX
              have H := Lib.hid (H.out.forget (O' := []) (fun p hp => by cases hp))
              obtain ⟨A, hA⟩ : ∃ A, keysE T = A := ⟨_, rfl⟩
              obtain ⟨B, hB⟩ : ∃ B, keysE K = B := ⟨_, rfl⟩
              obtain ⟨ST, hST⟩ : ∃ S, sumE T = S := ⟨_, rfl⟩
              obtain ⟨SK, hSK⟩ : ∃ S, sumE K = S := ⟨_, rfl⟩
              have hap := H.out.apart
              rw [hA, hB] at hap
              have HAP := Lib.hid hap
              have hp := H.out.pos
              have hlim := H.out.lens
              have hst0 := sum_nonneg hp.1
              have hsk0 := sum_nonneg hp.2
              have wS : IntKind.i64.wrap (ST + SK) = ST + SK := IntWalk.i64_in _ (by omega)
              have nS : ¬ (AL < ST + SK) := by have := HOk.out.sa; omega
              have nK : ¬ (KE < SK) := by have := HOk.out.sk; omega
              have HLA : Hid (A.length ≤ 1073741824 ∧ B.length ≤ 1073741824) := Lib.hid (by rw [← hA, ← hB]; unfold keysE; rw [List.length_map, List.length_map]; omega)
              have HA := Lib.hid hA
              have HB := Lib.hid hB
              have HST := Lib.hid hST
              have HSK := Lib.hid hSK
              clear hA hB hST hSK hap hp hlim hst0 hsk0
              refine (keysT_to H.out A HA.out).mono ?_
              rintro e w5 ⟨v5, c5, rfl, h5⟩
              have H := Lib.hid h5
              clear h5
              go_wp2_with fail
              refine (keysK_to H.out B HB.out).mono ?_
              rintro e w6 ⟨v6, c6, rfl, h6⟩
              have H := Lib.hid h6
              clear h6
              go_wp2_with fail
              refine (bytesT_to H.out ST HST.out).mono ?_
              rintro e w7 ⟨rfl, h7⟩
              have H := Lib.hid h7
              clear h7
              go_wp2_with fail
              refine (bytesK_to H.out SK HSK.out).mono ?_
              rintro e w8 ⟨rfl, h8⟩
              have H := Lib.hid h8
              clear h8
              go_wp2_with fail
              refine (bytesK_to H.out SK HSK.out).mono ?_
              rintro e w9 ⟨rfl, h9⟩
              have H := Lib.hid h9
              clear h9 wS
              have HTA := Lib.hid (H.out.told (List.mem_cons_of_mem _ (List.mem_cons_self ..))).ts
              have HTB := Lib.hid (H.out.told (List.mem_cons_self ..)).ts
              have H := Lib.hid (H.out.forget (O' := []) (fun p hp => by cases hp))
              go_wp2_with fail
              go_loopg [23] A.length (fun gx u23 wx => ∃ (x : Nat), u23 = .int .i64 (x : Int) ∧ x + gx = A.length ∧ ∃ nn, wx = w9.drewN nn)
              case atStart => exact ⟨0, rfl, by omega, 0, rfl⟩
              case round =>
                obtain ⟨x, rfl, hx, nn, rfl⟩ := hrel
                cases gk with
                | zero =>
                  have l1 : ¬ ((x : Int) < (A.length : Int)) := by omega
                  clear hx
                  go_wp2
                  go_roundg gko
                  case measure => exact Nat.lt_succ_self _
                  case rel => exact ⟨i1, n, T, K, rfl, HI1.out.1, HI1.out.2.1, by have := HI1.out.2.2; omega, (H.out.below (below_drewN _ _ _)), HOk.out⟩
                | succ gx =>
                  have hxl : x < A.length := by omega
                  have l1 : (x : Int) < (A.length : Int) := by omega
                  have l0x : (0 : Int) ≤ (x : Int) := by omega
                  obtain ⟨x1, hx1⟩ : ∃ x1, x + 1 = x1 := ⟨_, rfl⟩
                  have wx : IntKind.i64.wrap ((x : Int) + 1) = (x1 : Int) := by rw [show (x : Int) + 1 = (x1 : Int) by omega]; exact IntWalk.i64_in _ (by have := HLA.out; omega)
                  have HX1 : Hid (x1 + gx = A.length) := Lib.hid (by omega)
                  obtain ⟨ka, hka⟩ : ∃ y, A[x] = y := ⟨_, rfl⟩
                  have HMA : Hid (ka ∈ A) := Lib.hid (by rw [← hka]; exact List.getElem_mem _)
                  obtain ⟨bA, oA, rfl, qA⟩ : ∃ bA oA, v5 = some ⟨bA, oA, none⟩ ∧ w9.cell? ⟨bA, oA + x, none⟩ = some (.string ka) := by
                    obtain ⟨v, c, e, h⟩ := HTA.out.at_
                    injection e with e1 _ e3
                    subst e1 e3
                    rcases h with h0 | ⟨g', o', rfl, _, hq⟩
                    · omega
                    · exact ⟨g', o', rfl, by rw [hq x hxl, hka]⟩
                  clear hx hx1 hka hxl
                  go_wp2
                  go_loopg [24] B.length (fun gy u24 wy => ∃ (y : Nat), u24 = .int .i64 (y : Int) ∧ y + gy = B.length ∧ ∃ nn, wy = w9.drewN nn)
                  case atStart => exact ⟨0, rfl, by omega, nn, rfl⟩
                  case round =>
                    obtain ⟨y, rfl, hy, mm, rfl⟩ := hrel
                    cases gk with
                    | zero =>
                      have l2 : ¬ ((y : Int) < (B.length : Int)) := by omega
                      clear hy
                      go_wp2
                      go_roundg gx
                      case measure => exact Nat.lt_succ_self _
                      case rel => exact ⟨x1, rfl, HX1.out, _, rfl⟩
                    | succ gy =>
                      have hyl : y < B.length := by omega
                      have l2 : (y : Int) < (B.length : Int) := by omega
                      have l0y : (0 : Int) ≤ (y : Int) := by omega
                      obtain ⟨y1, hy1⟩ : ∃ y1, y + 1 = y1 := ⟨_, rfl⟩
                      have wy : IntKind.i64.wrap ((y : Int) + 1) = (y1 : Int) := by rw [show (y : Int) + 1 = (y1 : Int) by omega]; exact IntWalk.i64_in _ (by have := HLA.out; omega)
                      have HY1 : Hid (y1 + gy = B.length) := Lib.hid (by omega)
                      obtain ⟨kb, hkb⟩ : ∃ z, B[y] = z := ⟨_, rfl⟩
                      have hmb : kb ∈ B := by rw [← hkb]; exact List.getElem_mem _
                      obtain ⟨bB, oB, rfl, qB⟩ : ∃ bB oB, v6 = some ⟨bB, oB, none⟩ ∧ w9.cell? ⟨bB, oB + y, none⟩ = some (.string kb) := by
                        obtain ⟨v, c, e, h⟩ := HTB.out.at_
                        injection e with e1 _ e3
                        subst e1 e3
                        rcases h with h0 | ⟨g', o', rfl, _, hq⟩
                        · omega
                        · exact ⟨g', o', rfl, by rw [hq y hyl, hkb]⟩
                      have es : (ka.toList == kb.toList) = false := by rw [tl_dec]; exact decide_eq_false fun e => HAP.out ka HMA.out (e ▸ hmb)
                      clear hy hy1 hkb hyl hmb
                      go_wp2
                      go_quiet (fail)
                      go_wp2
                      go_roundg gy
                      case measure => exact Nat.lt_succ_self _
                      case rel => exact ⟨y1, rfl, HY1.out, by first | exact ⟨_, rfl⟩ | (rw [World.drewN_drewN]; exact ⟨_, rfl⟩)⟩
        · have k100 : (100 : Int) < (k.size : Int) := by omega
          clear h100
          go_wp2
          go_roundg gko
          case measure => exact Nat.lt_succ_self _
          case rel => exact ⟨i1, n, T, K, rfl, HI1.out.1, HI1.out.2.1, by have := HI1.out.2.2; omega, HBX.out.forget (O' := []) (fun p hp => by cases hp), HOk.out⟩
      · have l1 : ¬ ((i : Int) < (l.length : Int)) := by omega
        clear hlt hS hOk hi hil hni
        go_wp2_with fail
        refine (known_any _).mono ?_
        rintro e wk ⟨rfl, hk⟩
        have HK := Lib.hid hk
        clear hk
        go_wp2
        go_ret
        exact ⟨rfl, HS.out.bel.trans (HK.out.mono HS.out.bel.size)⟩
end Go.Proofs.Ytgiajbpeiebkhaa.SL
