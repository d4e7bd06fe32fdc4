/- SlruDrops' walk. -/
import Derived.Test.YtgiajbpeiebkhaaSld
namespace Go.Proofs.Ytgiajbpeiebkhaa.SL
open Go.ChangeShapes Go.WideShapes Go.ChangeAt Go.RowKit Go.Maps Go.ChangeMaps
set_option maxRecDepth 100000
set_option linter.unusedVariables false
set_option linter.unusedSimpArgs false

section
variable {w0 w : World} {g n : Nat} {al ke mo : Int} {T K : List En} {O : List Kp}
theorem bytesT_to' (h : LS w0 w g n al ke mo T K O) (z : Int) (hz : sumE T = z) : Calls Try.prog 22 #[ptr g, .bool false] w (NumP w0 g n al ke mo T K z O) := by subst hz; exact ls_bytesT h
theorem bytesK_to' (h : LS w0 w g n al ke mo T K O) (z : Int) (hz : sumE K = z) : Calls Try.prog 22 #[ptr g, .bool true] w (NumP w0 g n al ke mo T K z O) := by subst hz; exact ls_bytesK h
end
theorem ok30 : okB 30 12 15 := by unfold okB; omega
set_option maxHeartbeats 16000000 in
theorem drops_any (v0 : Value) (key : ByteArray) (w : World) (ho : FitsO w v0) :
    Calls Try.prog 7 #[v0, .string key] w fun e w' => e = .returned (.bool true) ∧ Below w.heap.size w w' := by
  obtain ⟨l, hl⟩ := ho
  obtain ⟨va, vc, rfl⟩ := hl.form
  have HL := Lib.hid hl
  clear hl
  go_enter Try.func7, Try.ntmps7
  go_wp2_with fail
  refine (ls_new w _ (Below.refl _ _) 30 12 15 ok30).mono ?_
  rintro e w1 ⟨g, rfl, h1⟩
  have H := Lib.hid h1
  have HNIL := Lib.hid (OkE.nil (mo := 15) ok30)
  clear h1
  by_cases hkey : key.size ≤ 100
  case neg =>
    have k100 : (100 : Int) < (key.size : Int) := by omega
    clear hkey
    go_wp2_with fail
    refine (known_any _).mono ?_
    rintro e wk ⟨rfl, hk⟩
    have HK := Lib.hid hk
    clear hk
    go_wp2
    go_ret
    exact ⟨rfl, H.out.bel.trans (HK.out.mono H.out.bel.size)⟩
  have k100 : ¬ ((100 : Int) < (key.size : Int)) := by omega
  have HKY : Hid (key.size ≤ 100 ∧ key.size ≤ 281474976710656) := Lib.hid (by omega)
  clear hkey
  go_wp2_with fail
  go_loopg [7] 40 (fun gk u7 wx => ∃ (i n : Nat) (T K : List En), u7 = .int .i64 (i : Int) ∧ i + gk = 40 ∧ i ≤ l.length ∧ n ≤ i ∧ LS w wx g n 30 12 15 T K [] ∧ OkE 30 12 15 T K)
  case atStart => exact ⟨0, 0, [], [], rfl, by omega, by omega, by omega, H.out, HNIL.out⟩
  case round =>
    obtain ⟨i, n, T, K, rfl, hi, hil, hni, hS, hOk⟩ := hrel
    have HS := Lib.hid hS
    have HOk := Lib.hid hOk
    have HNI : Hid (n ≤ 40) := Lib.hid (by omega)
    have HPT := Lib.hid hS.pos.1
    have HPK := Lib.hid hS.pos.2
    cases gk with
    | zero =>
      have hi60 : i = 40 := by omega
      subst hi60
      clear hi hni
      by_cases hlt : 40 < l.length
      · have l1 : (40 : Int) < (l.length : Int) := by omega
        have l1' : ((40 : Nat) : Int) < (l.length : Int) := by omega
        clear hlt hil
        have hod := HOk.out.drop HPT.out HPK.out key
        have hkl := kLe_of hod
        have HKL := Lib.hid hkl
        obtain ⟨T1, hT1⟩ : ∃ L, delE key T = L := ⟨_, rfl⟩
        obtain ⟨K1, hK1⟩ : ∃ L, delE key K = L := ⟨_, rfl⟩
        have hn1 : ∀ y ∈ T1, y.1 ≠ key := fun y hy => (del_ne (hT1 ▸ hy)).2
        have hn2 : ∀ y ∈ K1, y.1 ≠ key := fun y hy => (del_ne (hK1 ▸ hy)).2
        rw [hT1, hK1] at hod HKL
        obtain ⟨B1, hB1⟩ : ∃ b, (hasS key T K).isSome = b := ⟨_, rfl⟩
        obtain ⟨T2, K2, G, hR⟩ : ∃ T2 K2 G, putE 30 key 3 T1 K1 = ((key, 3) :: T2, K2, G) := ⟨_, _, _, rfl⟩
        obtain ⟨hsum, hm1, hm2⟩ := put_sum hn1 hn2 hR
        have hp1 : posE T1 := fun y hy => HPT.out y (del_ne (hT1 ▸ hy)).1
        have hp2 : posE K1 := fun y hy => HPK.out y (del_ne (hK1 ▸ hy)).1
        have hok2 : OkE 30 12 15 ((key, 3) :: T2) K2 := by have h := hod.put hp1 hp2 key HKY.out.1 3 (by omega); rw [hR] at h; exact h
        have hd1 : delE key ((key, 3) :: T2) = T2 := by
          have e : delE key ((key, (3 : Int)) :: T2) = delE key T2 := by unfold delE; rw [List.filter_cons, if_neg (by simp)]
          rw [e, del_no hm1]
        have hd2 : delE key K2 = K2 := del_no hm2
        have hs3 : (hasS key ((key, 3) :: T2) K2).isSome = true := has_mk ⟨(key, 3), .inl (by simp), rfl⟩
        have hs1 := sum_nonneg hp1
        have hs2 := sum_nonneg hp2
        have hsa := hod.sa
        obtain ⟨ST, hST⟩ : ∃ S, sumE T1 = S := ⟨_, rfl⟩
        obtain ⟨SK, hSK⟩ : ∃ S, sumE K1 = S := ⟨_, rfl⟩
        obtain ⟨UT, hUT⟩ : ∃ S, sumE ((key, (3 : Int)) :: T2) = S := ⟨_, rfl⟩
        obtain ⟨UK, hUK⟩ : ∃ S, sumE K2 = S := ⟨_, rfl⟩
        rw [hST, hSK] at hsum hsa
        rw [hUT, hUK] at hsum
        rw [hST] at hs1
        rw [hSK] at hs2
        have HB : Hid (0 ≤ ST ∧ 0 ≤ SK ∧ ST + SK ≤ 30) := Lib.hid ⟨hs1, hs2, hsa⟩
        have HSM := Lib.hid hsum
        have HT1 := Lib.hid hT1
        have HK1 := Lib.hid hK1
        have HB1 := Lib.hid hB1
        have HR := Lib.hid hR
        have HST := Lib.hid hST
        have HSK := Lib.hid hSK
        have HUT := Lib.hid hUT
        have HUK := Lib.hid hUK
        have HD1 := Lib.hid hd1
        have HD2 := Lib.hid hd2
        have HS3 := Lib.hid hs3
        have HM1 := Lib.hid hm1
        have HM2 := Lib.hid hm2
        have HOk2 := Lib.hid hok2
        have wS : IntKind.i64.wrap (ST + SK) = ST + SK := IntWalk.i64_in _ (by omega)
        have wS3 : IntKind.i64.wrap (ST + SK + 3) = ST + SK + 3 := IntWalk.i64_in _ (by omega)
        clear hod hkl hT1 hK1 hB1 hR hsum hn1 hn2 hp1 hp2 hok2 hd1 hd2 hs3 hs1 hs2 hsa hST hSK hUT hUK hm1 hm2 hS hOk
        go_wp2_with fail
        refine (drop_to HS.out key HKY.out.2 T1 K1 B1 HT1.out HK1.out HB1.out).mono ?_
        rintro e w2 ⟨rfl, h2⟩
        have H := Lib.hid h2
        clear h2
        go_wp2_with fail
        refine (bytesT_to' H.out ST HST.out).mono ?_
        rintro e w3 ⟨rfl, h3⟩
        have H := Lib.hid h3
        clear h3
        go_wp2_with fail
        refine (bytesK_to' H.out SK HSK.out).mono ?_
        rintro e w4 ⟨rfl, h4⟩
        have H := Lib.hid h4
        clear h4
        go_wp2_with fail
        refine (put_to H.out (by omega) (by have := HNI.out; omega) HKL.out.1 HKL.out.2 key HKY.out.2 3 (by omega) (by omega) _ HR.out).mono ?_
        rintro e w5 ⟨v5, c5, rfl, h5⟩
        have H := Lib.hid (h5.forget (O' := []) (fun p hp => by cases hp))
        clear h5
        by_cases hG : G.length = 0
        · have hG0 : G = [] := List.eq_nil_of_length_eq_zero hG
          have hu := HSM.out hG0
          rw [hG]
          clear hG hG0
          go_wp2_with fail
          refine (bytesT_to' H.out UT HUT.out).mono ?_
          rintro e w6 ⟨rfl, h6⟩
          have H := Lib.hid h6
          clear h6
          go_wp2_with fail
          refine (bytesK_to' H.out UK HUK.out).mono ?_
          rintro e w7 ⟨rfl, h7⟩
          have H := Lib.hid h7
          clear h7
          have wU : IntKind.i64.wrap (UT + UK) = ST + SK + 3 := by rw [hu]; exact wS3
          have wU' : wrap64 (UT + UK) = ST + SK + 3 := by rw [hu]; exact IntWalk.wrap64_in _ (by have := HB.out; omega)
          have wS3' : wrap64 (ST + SK + 3) = ST + SK + 3 := IntWalk.wrap64_in _ (by have := HB.out; omega)
          go_wp2_with fail
          refine (drop_to H.out key HKY.out.2 T2 K2 true HD1.out HD2.out HS3.out).mono ?_
          rintro e w8 ⟨rfl, h8⟩
          have H := Lib.hid h8
          clear h8
          go_wp2_with fail
          refine (ls_keysT H.out).mono ?_
          rintro e w9 ⟨v9, c9, rfl, h9⟩
          have H := Lib.hid h9
          clear h9
          go_wp2_with fail
          refine (ls_keysK H.out).mono ?_
          rintro e wa ⟨vA, cA, rfl, hA⟩
          have H := Lib.hid hA
          have HLN := Lib.hid hA.lens
          have HND := Lib.hid hA.nodup
          clear hA
          obtain ⟨L, hL⟩ : ∃ L, keysE T2 ++ keysE K2 = L := ⟨_, rfl⟩
          have HLE := Lib.hid hL
          clear hL
          go_wp2_with (at_builtin; refine wpList_app_to H.out (List.mem_cons_of_mem _ (List.mem_cons_self ..)) (H.out.told (List.mem_cons_self ..)).ts L HLE.out (by have := HLN.out.1; unfold keysE; rw [List.length_map, List.length_map]; omega) rfl _ _ rfl rfl rfl ?_; intro vL cL wb hb)
          have hL := HLE.out
          have H := Lib.hid hb
          have hkk : ∀ y ∈ L, y ≠ key ∧ y.size ≤ 281474976710656 := by
            intro y hy
            rw [← hL] at hy
            rcases List.mem_append.1 hy with hy | hy
            · obtain ⟨q, hq, rfl⟩ := List.mem_map.1 hy
              exact ⟨HM1.out q hq, by have := HOk2.out.kl q (.inl (List.mem_cons_of_mem _ hq)); omega⟩
            · obtain ⟨q, hq, rfl⟩ := List.mem_map.1 hy
              exact ⟨HM2.out q hq, by have := HOk2.out.kl q (.inr hq); omega⟩
          have HKK := Lib.hid hkk
          have HLL : Hid (L.length ≤ 1073741824) := Lib.hid (by rw [← hL, List.length_append]; unfold keysE; rw [List.length_map, List.length_map]; exact HLN.out.1)
          clear hb hkk hL
          go_wp2_with fail
          go_loopg [12] L.length (fun gx u12 wx => ∃ (x : Nat) (T K : List En), u12 = .int .i64 (x : Int) ∧ x + gx = L.length ∧ LS w wx g (n + 1) 30 12 15 T K [.txt (.slice vL L.length cL) L] ∧ keysE T ++ keysE K = L.drop x)
          case atStart => exact ⟨0, T2, K2, rfl, by omega, H.out, by rw [List.drop_zero]; exact HLE.out⟩
          case round =>
            obtain ⟨x, T, K, rfl, hx, hS, hTK⟩ := hrel
            have HS := Lib.hid hS
            cases gk with
            | zero =>
              have l1 : ¬ ((x : Int) < (L.length : Int)) := by omega
              have hxl : x = L.length := by omega
              rw [hxl, List.drop_length] at hTK
              obtain ⟨e1, e2⟩ := List.append_eq_nil_iff.1 hTK
              have eT := keys_emp e1
              have eK := keys_emp e2
              subst eT eK
              clear hx hxl hTK e1 e2 hS
              go_wp2_with fail
              refine (bytesT_to' HS.out 0 rfl).mono ?_
              rintro e x1 ⟨rfl, h⟩
              have H := Lib.hid h
              clear h
              go_wp2_with fail
              refine (bytesK_to' H.out 0 rfl).mono ?_
              rintro e x2 ⟨rfl, h⟩
              have H := Lib.hid h
              clear h
              go_wp2_with fail
              refine (ls_keysT H.out).mono ?_
              rintro e x3 ⟨y3, d3, rfl, h⟩
              have H := Lib.hid h
              clear h
              have en1 : (keysE []).length = 0 := rfl
              go_wp2_with fail
              refine (ls_keysK H.out).mono ?_
              rintro e x4 ⟨y4, d4, rfl, h⟩
              have H := Lib.hid h
              clear h
              go_wp2_with fail
              refine (known_any _).mono ?_
              rintro e wk ⟨rfl, hk⟩
              have HKN := Lib.hid hk
              clear hk
              go_wp2
              go_ret
              exact ⟨rfl, H.out.bel.trans (HKN.out.mono H.out.bel.size)⟩
            | succ gx =>
              have hxl : x < L.length := by omega
              have l1 : (x : Int) < (L.length : Int) := by omega
              have l0 : (0 : Int) ≤ (x : Int) := by omega
              obtain ⟨x1, hx1⟩ : ∃ x1, x + 1 = x1 := ⟨_, rfl⟩
              have wx : IntKind.i64.wrap ((x : Int) + 1) = (x1 : Int) := by rw [show (x : Int) + 1 = (x1 : Int) by omega]; exact IntWalk.i64_in _ (by have := HLL.out; omega)
              have HX1 : Hid (x1 + gx = L.length) := Lib.hid (by omega)
              rw [List.drop_eq_getElem_cons hxl] at hTK
              obtain ⟨k, hk⟩ : ∃ y, L[x] = y := ⟨_, rfl⟩
              obtain ⟨hne, hks⟩ := HKK.out k (by rw [← hk]; exact List.getElem_mem _)
              have HKS := Lib.hid hks
              rw [hk, hx1] at hTK
              obtain ⟨hst, his⟩ := drop_step hS.nodup.1 hS.nodup.2 hS.apart hTK
              have HST := Lib.hid hst
              have HIS := Lib.hid his
              have es : (k.toList == key.toList) = false := by rw [tl_dec]; exact decide_eq_false hne
              obtain ⟨bL, oL, rfl, qL⟩ : ∃ bL oL, vL = some ⟨bL, oL, none⟩ ∧ wr.cell? ⟨bL, oL + x, none⟩ = some (.string k) := by
                obtain ⟨v, c, e, h⟩ := (hS.told (List.mem_cons_self ..)).ts.at_
                injection e with e1 _ e3
                subst e1 e3
                rcases h with h0 | ⟨g', o', rfl, _, hq⟩
                · omega
                · exact ⟨g', o', rfl, by rw [hq x hxl, hk]⟩
              clear hx hx1 hk hxl hTK hne hks hst his hS
              go_wp2_with fail
              refine (drop_to HS.out k HKS.out _ _ true rfl rfl HIS.out).mono ?_
              rintro e x2 ⟨rfl, h⟩
              have H := Lib.hid h
              clear h
              go_wp2
              go_roundg gx
              case measure => exact Nat.lt_succ_self _
              case rel => exact ⟨x1, _, _, rfl, HX1.out, H.out, HST.out⟩
        · have hG1 : ¬ ((G.length : Int) = 0) := by omega
          have hG2 : ((G.length : Int) == 0) = false := by rw [beq_eq_false_iff_ne]; omega
          go_wp2_with fail
          refine (drop_to H.out key HKY.out.2 T2 K2 true HD1.out HD2.out HS3.out).mono ?_
          rintro e w8 ⟨rfl, h8⟩
          have H := Lib.hid h8
          clear h8
          go_wp2_with fail
          refine (ls_keysT H.out).mono ?_
          rintro e w9 ⟨v9, c9, rfl, h9⟩
          have H := Lib.hid h9
          clear h9
          go_wp2_with fail
          refine (ls_keysK H.out).mono ?_
          rintro e wa ⟨vA, cA, rfl, hA⟩
          have H := Lib.hid hA
          have HLN := Lib.hid hA.lens
          have HND := Lib.hid hA.nodup
          clear hA
          obtain ⟨L, hL⟩ : ∃ L, keysE T2 ++ keysE K2 = L := ⟨_, rfl⟩
          have HLE := Lib.hid hL
          clear hL
          go_wp2_with (at_builtin; refine wpList_app_to H.out (List.mem_cons_of_mem _ (List.mem_cons_self ..)) (H.out.told (List.mem_cons_self ..)).ts L HLE.out (by have := HLN.out.1; unfold keysE; rw [List.length_map, List.length_map]; omega) rfl _ _ rfl rfl rfl ?_; intro vL cL wb hb)
          have hL := HLE.out
          have H := Lib.hid hb
          have hkk : ∀ y ∈ L, y ≠ key ∧ y.size ≤ 281474976710656 := by
            intro y hy
            rw [← hL] at hy
            rcases List.mem_append.1 hy with hy | hy
            · obtain ⟨q, hq, rfl⟩ := List.mem_map.1 hy
              exact ⟨HM1.out q hq, by have := HOk2.out.kl q (.inl (List.mem_cons_of_mem _ hq)); omega⟩
            · obtain ⟨q, hq, rfl⟩ := List.mem_map.1 hy
              exact ⟨HM2.out q hq, by have := HOk2.out.kl q (.inr hq); omega⟩
          have HKK := Lib.hid hkk
          have HLL : Hid (L.length ≤ 1073741824) := Lib.hid (by rw [← hL, List.length_append]; unfold keysE; rw [List.length_map, List.length_map]; exact HLN.out.1)
          clear hb hkk hL
          go_wp2_with fail
          go_loopg [12] L.length (fun gx u12 wx => ∃ (x : Nat) (T K : List En), u12 = .int .i64 (x : Int) ∧ x + gx = L.length ∧ LS w wx g (n + 1) 30 12 15 T K [.txt (.slice vL L.length cL) L] ∧ keysE T ++ keysE K = L.drop x)
          case atStart => exact ⟨0, T2, K2, rfl, by omega, H.out, by rw [List.drop_zero]; exact HLE.out⟩
          case round =>
            obtain ⟨x, T, K, rfl, hx, hS, hTK⟩ := hrel
            have HS := Lib.hid hS
            cases gk with
            | zero =>
              have l1 : ¬ ((x : Int) < (L.length : Int)) := by omega
              have hxl : x = L.length := by omega
              rw [hxl, List.drop_length] at hTK
              obtain ⟨e1, e2⟩ := List.append_eq_nil_iff.1 hTK
              have eT := keys_emp e1
              have eK := keys_emp e2
              subst eT eK
              clear hx hxl hTK e1 e2 hS
              go_wp2_with fail
              refine (bytesT_to' HS.out 0 rfl).mono ?_
              rintro e x1 ⟨rfl, h⟩
              have H := Lib.hid h
              clear h
              go_wp2_with fail
              refine (bytesK_to' H.out 0 rfl).mono ?_
              rintro e x2 ⟨rfl, h⟩
              have H := Lib.hid h
              clear h
              go_wp2_with fail
              refine (ls_keysT H.out).mono ?_
              rintro e x3 ⟨y3, d3, rfl, h⟩
              have H := Lib.hid h
              clear h
              have en1 : (keysE []).length = 0 := rfl
              go_wp2_with fail
              refine (ls_keysK H.out).mono ?_
              rintro e x4 ⟨y4, d4, rfl, h⟩
              have H := Lib.hid h
              clear h
              go_wp2_with fail
              refine (known_any _).mono ?_
              rintro e wk ⟨rfl, hk⟩
              have HKN := Lib.hid hk
              clear hk
              go_wp2
              go_ret
              exact ⟨rfl, H.out.bel.trans (HKN.out.mono H.out.bel.size)⟩
            | succ gx =>
              have hxl : x < L.length := by omega
              have l1 : (x : Int) < (L.length : Int) := by omega
              have l0 : (0 : Int) ≤ (x : Int) := by omega
              obtain ⟨x1, hx1⟩ : ∃ x1, x + 1 = x1 := ⟨_, rfl⟩
              have wx : IntKind.i64.wrap ((x : Int) + 1) = (x1 : Int) := by rw [show (x : Int) + 1 = (x1 : Int) by omega]; exact IntWalk.i64_in _ (by have := HLL.out; omega)
              have HX1 : Hid (x1 + gx = L.length) := Lib.hid (by omega)
              rw [List.drop_eq_getElem_cons hxl] at hTK
              obtain ⟨k, hk⟩ : ∃ y, L[x] = y := ⟨_, rfl⟩
              obtain ⟨hne, hks⟩ := HKK.out k (by rw [← hk]; exact List.getElem_mem _)
              have HKS := Lib.hid hks
              rw [hk, hx1] at hTK
              obtain ⟨hst, his⟩ := drop_step hS.nodup.1 hS.nodup.2 hS.apart hTK
              have HST := Lib.hid hst
              have HIS := Lib.hid his
              have es : (k.toList == key.toList) = false := by rw [tl_dec]; exact decide_eq_false hne
              obtain ⟨bL, oL, rfl, qL⟩ : ∃ bL oL, vL = some ⟨bL, oL, none⟩ ∧ wr.cell? ⟨bL, oL + x, none⟩ = some (.string k) := by
                obtain ⟨v, c, e, h⟩ := (hS.told (List.mem_cons_self ..)).ts.at_
                injection e with e1 _ e3
                subst e1 e3
                rcases h with h0 | ⟨g', o', rfl, _, hq⟩
                · omega
                · exact ⟨g', o', rfl, by rw [hq x hxl, hk]⟩
              clear hx hx1 hk hxl hTK hne hks hst his hS
              go_wp2_with fail
              refine (drop_to HS.out k HKS.out _ _ true rfl rfl HIS.out).mono ?_
              rintro e x2 ⟨rfl, h⟩
              have H := Lib.hid h
              clear h
              go_wp2
              go_roundg gx
              case measure => exact Nat.lt_succ_self _
              case rel => exact ⟨x1, _, _, rfl, HX1.out, H.out, HST.out⟩
      · have l1 : ¬ ((40 : Int) < (l.length : Int)) := by omega
        have l1' : ¬ (((40 : Nat) : Int) < (l.length : Int)) := by omega
        clear hlt hil
        have hod := HOk.out.drop HPT.out HPK.out key
        have hkl := kLe_of hod
        have HKL := Lib.hid hkl
        obtain ⟨T1, hT1⟩ : ∃ L, delE key T = L := ⟨_, rfl⟩
        obtain ⟨K1, hK1⟩ : ∃ L, delE key K = L := ⟨_, rfl⟩
        have hn1 : ∀ y ∈ T1, y.1 ≠ key := fun y hy => (del_ne (hT1 ▸ hy)).2
        have hn2 : ∀ y ∈ K1, y.1 ≠ key := fun y hy => (del_ne (hK1 ▸ hy)).2
        rw [hT1, hK1] at hod HKL
        obtain ⟨B1, hB1⟩ : ∃ b, (hasS key T K).isSome = b := ⟨_, rfl⟩
        obtain ⟨T2, K2, G, hR⟩ : ∃ T2 K2 G, putE 30 key 3 T1 K1 = ((key, 3) :: T2, K2, G) := ⟨_, _, _, rfl⟩
        obtain ⟨hsum, hm1, hm2⟩ := put_sum hn1 hn2 hR
        have hp1 : posE T1 := fun y hy => HPT.out y (del_ne (hT1 ▸ hy)).1
        have hp2 : posE K1 := fun y hy => HPK.out y (del_ne (hK1 ▸ hy)).1
        have hok2 : OkE 30 12 15 ((key, 3) :: T2) K2 := by have h := hod.put hp1 hp2 key HKY.out.1 3 (by omega); rw [hR] at h; exact h
        have hd1 : delE key ((key, 3) :: T2) = T2 := by
          have e : delE key ((key, (3 : Int)) :: T2) = delE key T2 := by unfold delE; rw [List.filter_cons, if_neg (by simp)]
          rw [e, del_no hm1]
        have hd2 : delE key K2 = K2 := del_no hm2
        have hs3 : (hasS key ((key, 3) :: T2) K2).isSome = true := has_mk ⟨(key, 3), .inl (by simp), rfl⟩
        have hs1 := sum_nonneg hp1
        have hs2 := sum_nonneg hp2
        have hsa := hod.sa
        obtain ⟨ST, hST⟩ : ∃ S, sumE T1 = S := ⟨_, rfl⟩
        obtain ⟨SK, hSK⟩ : ∃ S, sumE K1 = S := ⟨_, rfl⟩
        obtain ⟨UT, hUT⟩ : ∃ S, sumE ((key, (3 : Int)) :: T2) = S := ⟨_, rfl⟩
        obtain ⟨UK, hUK⟩ : ∃ S, sumE K2 = S := ⟨_, rfl⟩
        rw [hST, hSK] at hsum hsa
        rw [hUT, hUK] at hsum
        rw [hST] at hs1
        rw [hSK] at hs2
        have HB : Hid (0 ≤ ST ∧ 0 ≤ SK ∧ ST + SK ≤ 30) := Lib.hid ⟨hs1, hs2, hsa⟩
        have HSM := Lib.hid hsum
        have HT1 := Lib.hid hT1
        have HK1 := Lib.hid hK1
        have HB1 := Lib.hid hB1
        have HR := Lib.hid hR
        have HST := Lib.hid hST
        have HSK := Lib.hid hSK
        have HUT := Lib.hid hUT
        have HUK := Lib.hid hUK
        have HD1 := Lib.hid hd1
        have HD2 := Lib.hid hd2
        have HS3 := Lib.hid hs3
        have HM1 := Lib.hid hm1
        have HM2 := Lib.hid hm2
        have HOk2 := Lib.hid hok2
        have wS : IntKind.i64.wrap (ST + SK) = ST + SK := IntWalk.i64_in _ (by omega)
        have wS3 : IntKind.i64.wrap (ST + SK + 3) = ST + SK + 3 := IntWalk.i64_in _ (by omega)
        clear hod hkl hT1 hK1 hB1 hR hsum hn1 hn2 hp1 hp2 hok2 hd1 hd2 hs3 hs1 hs2 hsa hST hSK hUT hUK hm1 hm2 hS hOk
        go_wp2_with fail
        refine (drop_to HS.out key HKY.out.2 T1 K1 B1 HT1.out HK1.out HB1.out).mono ?_
        rintro e w2 ⟨rfl, h2⟩
        have H := Lib.hid h2
        clear h2
        go_wp2_with fail
        refine (bytesT_to' H.out ST HST.out).mono ?_
        rintro e w3 ⟨rfl, h3⟩
        have H := Lib.hid h3
        clear h3
        go_wp2_with fail
        refine (bytesK_to' H.out SK HSK.out).mono ?_
        rintro e w4 ⟨rfl, h4⟩
        have H := Lib.hid h4
        clear h4
        go_wp2_with fail
        refine (put_to H.out (by omega) (by have := HNI.out; omega) HKL.out.1 HKL.out.2 key HKY.out.2 3 (by omega) (by omega) _ HR.out).mono ?_
        rintro e w5 ⟨v5, c5, rfl, h5⟩
        have H := Lib.hid (h5.forget (O' := []) (fun p hp => by cases hp))
        clear h5
        by_cases hG : G.length = 0
        · have hG0 : G = [] := List.eq_nil_of_length_eq_zero hG
          have hu := HSM.out hG0
          rw [hG]
          clear hG hG0
          go_wp2_with fail
          refine (bytesT_to' H.out UT HUT.out).mono ?_
          rintro e w6 ⟨rfl, h6⟩
          have H := Lib.hid h6
          clear h6
          go_wp2_with fail
          refine (bytesK_to' H.out UK HUK.out).mono ?_
          rintro e w7 ⟨rfl, h7⟩
          have H := Lib.hid h7
          clear h7
          have wU : IntKind.i64.wrap (UT + UK) = ST + SK + 3 := by rw [hu]; exact wS3
          have wU' : wrap64 (UT + UK) = ST + SK + 3 := by rw [hu]; exact IntWalk.wrap64_in _ (by have := HB.out; omega)
          have wS3' : wrap64 (ST + SK + 3) = ST + SK + 3 := IntWalk.wrap64_in _ (by have := HB.out; omega)
          go_wp2_with fail
          refine (drop_to H.out key HKY.out.2 T2 K2 true HD1.out HD2.out HS3.out).mono ?_
          rintro e w8 ⟨rfl, h8⟩
          have H := Lib.hid h8
          clear h8
          go_wp2_with fail
          refine (ls_keysT H.out).mono ?_
          rintro e w9 ⟨v9, c9, rfl, h9⟩
          have H := Lib.hid h9
          clear h9
          go_wp2_with fail
          refine (ls_keysK H.out).mono ?_
          rintro e wa ⟨vA, cA, rfl, hA⟩
          have H := Lib.hid hA
          have HLN := Lib.hid hA.lens
          have HND := Lib.hid hA.nodup
          clear hA
          obtain ⟨L, hL⟩ : ∃ L, keysE T2 ++ keysE K2 = L := ⟨_, rfl⟩
          have HLE := Lib.hid hL
          clear hL
          go_wp2_with (at_builtin; refine wpList_app_to H.out (List.mem_cons_of_mem _ (List.mem_cons_self ..)) (H.out.told (List.mem_cons_self ..)).ts L HLE.out (by have := HLN.out.1; unfold keysE; rw [List.length_map, List.length_map]; omega) rfl _ _ rfl rfl rfl ?_; intro vL cL wb hb)
          have hL := HLE.out
          have H := Lib.hid hb
          have hkk : ∀ y ∈ L, y ≠ key ∧ y.size ≤ 281474976710656 := by
            intro y hy
            rw [← hL] at hy
            rcases List.mem_append.1 hy with hy | hy
            · obtain ⟨q, hq, rfl⟩ := List.mem_map.1 hy
              exact ⟨HM1.out q hq, by have := HOk2.out.kl q (.inl (List.mem_cons_of_mem _ hq)); omega⟩
            · obtain ⟨q, hq, rfl⟩ := List.mem_map.1 hy
              exact ⟨HM2.out q hq, by have := HOk2.out.kl q (.inr hq); omega⟩
          have HKK := Lib.hid hkk
          have HLL : Hid (L.length ≤ 1073741824) := Lib.hid (by rw [← hL, List.length_append]; unfold keysE; rw [List.length_map, List.length_map]; exact HLN.out.1)
          clear hb hkk hL
          go_wp2_with fail
          go_loopg [12] L.length (fun gx u12 wx => ∃ (x : Nat) (T K : List En), u12 = .int .i64 (x : Int) ∧ x + gx = L.length ∧ LS w wx g (n + 1) 30 12 15 T K [.txt (.slice vL L.length cL) L] ∧ keysE T ++ keysE K = L.drop x)
          case atStart => exact ⟨0, T2, K2, rfl, by omega, H.out, by rw [List.drop_zero]; exact HLE.out⟩
          case round =>
            obtain ⟨x, T, K, rfl, hx, hS, hTK⟩ := hrel
            have HS := Lib.hid hS
            cases gk with
            | zero =>
              have l1 : ¬ ((x : Int) < (L.length : Int)) := by omega
              have hxl : x = L.length := by omega
              rw [hxl, List.drop_length] at hTK
              obtain ⟨e1, e2⟩ := List.append_eq_nil_iff.1 hTK
              have eT := keys_emp e1
              have eK := keys_emp e2
              subst eT eK
              clear hx hxl hTK e1 e2 hS
              go_wp2_with fail
              refine (bytesT_to' HS.out 0 rfl).mono ?_
              rintro e x1 ⟨rfl, h⟩
              have H := Lib.hid h
              clear h
              go_wp2_with fail
              refine (bytesK_to' H.out 0 rfl).mono ?_
              rintro e x2 ⟨rfl, h⟩
              have H := Lib.hid h
              clear h
              go_wp2_with fail
              refine (ls_keysT H.out).mono ?_
              rintro e x3 ⟨y3, d3, rfl, h⟩
              have H := Lib.hid h
              clear h
              have en1 : (keysE []).length = 0 := rfl
              go_wp2_with fail
              refine (ls_keysK H.out).mono ?_
              rintro e x4 ⟨y4, d4, rfl, h⟩
              have H := Lib.hid h
              clear h
              go_wp2_with fail
              refine (known_any _).mono ?_
              rintro e wk ⟨rfl, hk⟩
              have HKN := Lib.hid hk
              clear hk
              go_wp2
              go_ret
              exact ⟨rfl, H.out.bel.trans (HKN.out.mono H.out.bel.size)⟩
            | succ gx =>
              have hxl : x < L.length := by omega
              have l1 : (x : Int) < (L.length : Int) := by omega
              have l0 : (0 : Int) ≤ (x : Int) := by omega
              obtain ⟨x1, hx1⟩ : ∃ x1, x + 1 = x1 := ⟨_, rfl⟩
              have wx : IntKind.i64.wrap ((x : Int) + 1) = (x1 : Int) := by rw [show (x : Int) + 1 = (x1 : Int) by omega]; exact IntWalk.i64_in _ (by have := HLL.out; omega)
              have HX1 : Hid (x1 + gx = L.length) := Lib.hid (by omega)
              rw [List.drop_eq_getElem_cons hxl] at hTK
              obtain ⟨k, hk⟩ : ∃ y, L[x] = y := ⟨_, rfl⟩
              obtain ⟨hne, hks⟩ := HKK.out k (by rw [← hk]; exact List.getElem_mem _)
              have HKS := Lib.hid hks
              rw [hk, hx1] at hTK
              obtain ⟨hst, his⟩ := drop_step hS.nodup.1 hS.nodup.2 hS.apart hTK
              have HST := Lib.hid hst
              have HIS := Lib.hid his
              have es : (k.toList == key.toList) = false := by rw [tl_dec]; exact decide_eq_false hne
              obtain ⟨bL, oL, rfl, qL⟩ : ∃ bL oL, vL = some ⟨bL, oL, none⟩ ∧ wr.cell? ⟨bL, oL + x, none⟩ = some (.string k) := by
                obtain ⟨v, c, e, h⟩ := (hS.told (List.mem_cons_self ..)).ts.at_
                injection e with e1 _ e3
                subst e1 e3
                rcases h with h0 | ⟨g', o', rfl, _, hq⟩
                · omega
                · exact ⟨g', o', rfl, by rw [hq x hxl, hk]⟩
              clear hx hx1 hk hxl hTK hne hks hst his hS
              go_wp2_with fail
              refine (drop_to HS.out k HKS.out _ _ true rfl rfl HIS.out).mono ?_
              rintro e x2 ⟨rfl, h⟩
              have H := Lib.hid h
              clear h
              go_wp2
              go_roundg gx
              case measure => exact Nat.lt_succ_self _
              case rel => exact ⟨x1, _, _, rfl, HX1.out, H.out, HST.out⟩
        · have hG1 : ¬ ((G.length : Int) = 0) := by omega
          have hG2 : ((G.length : Int) == 0) = false := by rw [beq_eq_false_iff_ne]; omega
          go_wp2_with fail
          refine (drop_to H.out key HKY.out.2 T2 K2 true HD1.out HD2.out HS3.out).mono ?_
          rintro e w8 ⟨rfl, h8⟩
          have H := Lib.hid h8
          clear h8
          go_wp2_with fail
          refine (ls_keysT H.out).mono ?_
          rintro e w9 ⟨v9, c9, rfl, h9⟩
          have H := Lib.hid h9
          clear h9
          go_wp2_with fail
          refine (ls_keysK H.out).mono ?_
          rintro e wa ⟨vA, cA, rfl, hA⟩
          have H := Lib.hid hA
          have HLN := Lib.hid hA.lens
          have HND := Lib.hid hA.nodup
          clear hA
          obtain ⟨L, hL⟩ : ∃ L, keysE T2 ++ keysE K2 = L := ⟨_, rfl⟩
          have HLE := Lib.hid hL
          clear hL
          go_wp2_with (at_builtin; refine wpList_app_to H.out (List.mem_cons_of_mem _ (List.mem_cons_self ..)) (H.out.told (List.mem_cons_self ..)).ts L HLE.out (by have := HLN.out.1; unfold keysE; rw [List.length_map, List.length_map]; omega) rfl _ _ rfl rfl rfl ?_; intro vL cL wb hb)
          have hL := HLE.out
          have H := Lib.hid hb
          have hkk : ∀ y ∈ L, y ≠ key ∧ y.size ≤ 281474976710656 := by
            intro y hy
            rw [← hL] at hy
            rcases List.mem_append.1 hy with hy | hy
            · obtain ⟨q, hq, rfl⟩ := List.mem_map.1 hy
              exact ⟨HM1.out q hq, by have := HOk2.out.kl q (.inl (List.mem_cons_of_mem _ hq)); omega⟩
            · obtain ⟨q, hq, rfl⟩ := List.mem_map.1 hy
              exact ⟨HM2.out q hq, by have := HOk2.out.kl q (.inr hq); omega⟩
          have HKK := Lib.hid hkk
          have HLL : Hid (L.length ≤ 1073741824) := Lib.hid (by rw [← hL, List.length_append]; unfold keysE; rw [List.length_map, List.length_map]; exact HLN.out.1)
          clear hb hkk hL
          go_wp2_with fail
          go_loopg [12] L.length (fun gx u12 wx => ∃ (x : Nat) (T K : List En), u12 = .int .i64 (x : Int) ∧ x + gx = L.length ∧ LS w wx g (n + 1) 30 12 15 T K [.txt (.slice vL L.length cL) L] ∧ keysE T ++ keysE K = L.drop x)
          case atStart => exact ⟨0, T2, K2, rfl, by omega, H.out, by rw [List.drop_zero]; exact HLE.out⟩
          case round =>
            obtain ⟨x, T, K, rfl, hx, hS, hTK⟩ := hrel
            have HS := Lib.hid hS
            cases gk with
            | zero =>
              have l1 : ¬ ((x : Int) < (L.length : Int)) := by omega
              have hxl : x = L.length := by omega
              rw [hxl, List.drop_length] at hTK
              obtain ⟨e1, e2⟩ := List.append_eq_nil_iff.1 hTK
              have eT := keys_emp e1
              have eK := keys_emp e2
              subst eT eK
              clear hx hxl hTK e1 e2 hS
              go_wp2_with fail
              refine (bytesT_to' HS.out 0 rfl).mono ?_
              rintro e x1 ⟨rfl, h⟩
              have H := Lib.hid h
              clear h
              go_wp2_with fail
              refine (bytesK_to' H.out 0 rfl).mono ?_
              rintro e x2 ⟨rfl, h⟩
              have H := Lib.hid h
              clear h
              go_wp2_with fail
              refine (ls_keysT H.out).mono ?_
              rintro e x3 ⟨y3, d3, rfl, h⟩
              have H := Lib.hid h
              clear h
              have en1 : (keysE []).length = 0 := rfl
              go_wp2_with fail
              refine (ls_keysK H.out).mono ?_
              rintro e x4 ⟨y4, d4, rfl, h⟩
              have H := Lib.hid h
              clear h
              go_wp2_with fail
              refine (known_any _).mono ?_
              rintro e wk ⟨rfl, hk⟩
              have HKN := Lib.hid hk
              clear hk
              go_wp2
              go_ret
              exact ⟨rfl, H.out.bel.trans (HKN.out.mono H.out.bel.size)⟩
            | succ gx =>
              have hxl : x < L.length := by omega
              have l1 : (x : Int) < (L.length : Int) := by omega
              have l0 : (0 : Int) ≤ (x : Int) := by omega
              obtain ⟨x1, hx1⟩ : ∃ x1, x + 1 = x1 := ⟨_, rfl⟩
              have wx : IntKind.i64.wrap ((x : Int) + 1) = (x1 : Int) := by rw [show (x : Int) + 1 = (x1 : Int) by omega]; exact IntWalk.i64_in _ (by have := HLL.out; omega)
              have HX1 : Hid (x1 + gx = L.length) := Lib.hid (by omega)
              rw [List.drop_eq_getElem_cons hxl] at hTK
              obtain ⟨k, hk⟩ : ∃ y, L[x] = y := ⟨_, rfl⟩
              obtain ⟨hne, hks⟩ := HKK.out k (by rw [← hk]; exact List.getElem_mem _)
              have HKS := Lib.hid hks
              rw [hk, hx1] at hTK
              obtain ⟨hst, his⟩ := drop_step hS.nodup.1 hS.nodup.2 hS.apart hTK
              have HST := Lib.hid hst
              have HIS := Lib.hid his
              have es : (k.toList == key.toList) = false := by rw [tl_dec]; exact decide_eq_false hne
              obtain ⟨bL, oL, rfl, qL⟩ : ∃ bL oL, vL = some ⟨bL, oL, none⟩ ∧ wr.cell? ⟨bL, oL + x, none⟩ = some (.string k) := by
                obtain ⟨v, c, e, h⟩ := (hS.told (List.mem_cons_self ..)).ts.at_
                injection e with e1 _ e3
                subst e1 e3
                rcases h with h0 | ⟨g', o', rfl, _, hq⟩
                · omega
                · exact ⟨g', o', rfl, by rw [hq x hxl, hk]⟩
              clear hx hx1 hk hxl hTK hne hks hst his hS
              go_wp2_with fail
              refine (drop_to HS.out k HKS.out _ _ true rfl rfl HIS.out).mono ?_
              rintro e x2 ⟨rfl, h⟩
              have H := Lib.hid h
              clear h
              go_wp2
              go_roundg gx
              case measure => exact Nat.lt_succ_self _
              case rel => exact ⟨x1, _, _, rfl, HX1.out, H.out, HST.out⟩
    | succ gko =>
      have i60 : (i : Int) < 40 := by omega
      by_cases hlt : i < l.length
      · have l1 : (i : Int) < (l.length : Int) := by omega
        have l0 : (0 : Int) ≤ (i : Int) := by omega
        obtain ⟨i1, hi1⟩ : ∃ i1, i + 1 = i1 := ⟨_, rfl⟩
        have wk : IntKind.i64.wrap ((i : Int) + 1) = (i1 : Int) := by rw [show (i : Int) + 1 = (i1 : Int) by omega]; exact IntWalk.i64_in _ (by omega)
        have HI1 : Hid (i1 + gko = 40 ∧ i1 ≤ l.length ∧ n + 1 ≤ i1) := Lib.hid ⟨by omega, by omega, by omega⟩
        obtain ⟨ob, oo, oc, he, hcp, hx⟩ := HL.out.inv (by omega)
        injection he with he1 _ he3
        subst he1 he3
        obtain ⟨op, hop0⟩ : ∃ o, l[i] = o := ⟨_, rfl⟩
        obtain ⟨⟨q0, q1⟩, x0, x1, x2⟩ := hx i op (by rw [List.getElem?_eq_getElem hlt, hop0])
        obtain ⟨kd, k, z⟩ := op
        simp only at x0 x1 x2 q0 q1
        have HOP : Hid (∀ wz : World, Below w.heap.size w wz → wz.cell? ⟨ob, oo + i * 3, none⟩ = some (.int .i64 kd) ∧ wz.cell? ⟨ob, oo + i * 3 + 1, none⟩ = some (.string k) ∧ wz.cell? ⟨ob, oo + i * 3 + 2, none⟩ = some (.int .i64 z)) := Lib.hid fun wz hb => ⟨(hb.cell (World.block_lt_of_cell? _ _ x0)).trans x0, (hb.cell (World.block_lt_of_cell? _ _ x1)).trans x1, (hb.cell (World.block_lt_of_cell? _ _ x2)).trans x2⟩
        have HKL := Lib.hid (kLe_of hOk)
        clear x0 x1 x2
        obtain ⟨x0, x1, x2⟩ := HOP.out wr hS.bel
        clear hS hOk hi hil hni hlt hi1 hcp hx hop0 q0 q1
        by_cases h100 : k.size ≤ 100
        · have k1 : ((k.size : Int) ≤ 100) := by omega
          have HK100 : Hid (k.size ≤ 100 ∧ k.size ≤ 281474976710656) := Lib.hid (by omega)
          clear h100
          by_cases e0 : kd = 0
          · subst e0
            by_cases hz1 : 1 ≤ z
            · by_cases hzm : z ≤ 15
              · obtain ⟨T2, K2, G, hR⟩ : ∃ T2 K2 G, putE 30 k z T K = ((k, z) :: T2, K2, G) := ⟨_, _, _, rfl⟩
                have HOk2 : Hid (OkE 30 12 15 ((k, z) :: T2) K2) := Lib.hid (by have h := HOk.out.put HPT.out HPK.out k HK100.out.1 z (by omega); rw [hR] at h; exact h)
                have HRR := Lib.hid hR
                have HZ1 := Lib.hid hz1
                have HZM := Lib.hid hzm
                clear hR hz1 hzm
                go_wp2_with fail
                refine wp_region_held_drew (S := (fun w' => Below w.heap.size w w')) (by kernel_rfl) ?_ (fun hS => ?_)
                · exact HS.out.bel.drew
                refine tkY 0 ?_ rfl hS ?_ ?_
                rotate_left
                · intro wz hSz
                  obtain ⟨y0, y1, y2⟩ := HOP.out wz hSz
                  go_simp
                  all_goals with_reducible rfl
                try simp only [Act.put, pu]
                refine tkY 1 ?_ rfl hS ?_ ?_
                rotate_left
                · intro wz hSz
                  obtain ⟨y0, y1, y2⟩ := HOP.out wz hSz
                  go_simp
                  all_goals with_reducible rfl
                try simp only [Act.put, pu]
                refine tkY 2 ?_ rfl hS ?_ ?_
                rotate_left
                · intro wz hSz
                  obtain ⟨y0, y1, y2⟩ := HOP.out wz hSz
                  go_simp
                  all_goals with_reducible rfl
                try simp only [Act.put, pu]
                refine tkY 3 ?_ rfl hS ?_ ?_
                rotate_left
                · intro wz hSz
                  obtain ⟨y0, y1, y2⟩ := HOP.out wz hSz
                  go_simp
                  all_goals with_reducible rfl
                try simp only [Act.put, pu]
                refine tkY 4 ?_ rfl hS ?_ ?_
                rotate_left
                · intro wz hSz
                  obtain ⟨y0, y1, y2⟩ := HOP.out wz hSz
                  go_simp
                  all_goals with_reducible rfl
                try simp only [Act.put, pu]
                refine tkY 5 ?_ rfl hS ?_ ?_
                rotate_left
                · intro wz hSz
                  obtain ⟨y0, y1, y2⟩ := HOP.out wz hSz
                  go_simp
                  all_goals with_reducible rfl
                try simp only [Act.put, pu]
                refine tkY 6 ?_ rfl hS ?_ ?_
                rotate_left
                · intro wz hSz
                  obtain ⟨y0, y1, y2⟩ := HOP.out wz hSz
                  go_simp
                  all_goals with_reducible rfl
                try simp only [Act.put, pu]
                refine tkY 7 ?_ rfl hS ?_ ?_
                rotate_left
                · intro wz hSz
                  obtain ⟨y0, y1, y2⟩ := HOP.out wz hSz
                  go_simp
                  all_goals with_reducible rfl
                try simp only [Act.put, pu]
                refine tkY 8 ?_ rfl hS ?_ ?_
                rotate_left
                · intro wz hSz
                  obtain ⟨y0, y1, y2⟩ := HOP.out wz hSz
                  go_simp
                  all_goals with_reducible rfl
                try simp only [Act.put, pu]
                refine tkY 9 ?_ rfl hS ?_ ?_
                rotate_left
                · intro wz hSz
                  obtain ⟨y0, y1, y2⟩ := HOP.out wz hSz
                  go_simp
                  all_goals with_reducible rfl
                try simp only [Act.put, pu]
                refine tkY 10 ?_ rfl hS ?_ ?_
                rotate_left
                · intro wz hSz
                  obtain ⟨y0, y1, y2⟩ := HOP.out wz hSz
                  go_simp
                  all_goals with_reducible rfl
                try simp only [Act.put, pu]
                refine wpAnyH_ready (rs := [11]) (by kernel_rfl) (by simp) (AllReadyH.cons rfl (fun K' hK' => ?_) AllReadyH.nil)
                go_simp
                refine (put_to (HS.out.below (show Below wr.heap.size wr wr.drew from below_drewN _ _ 1)) (by omega) (by have := HNI.out; omega) HKL.out.1 HKL.out.2 k HK100.out.2 z HZ1.out HZM.out _ HRR.out).mono ?_
                rintro e w2 ⟨v2, c2, rfl, h2⟩
                refine hK'.out _ _ ?_ (fun hSn => ?_)
                · exact h2.bel
                clear hK' K' hS hSn
                try simp only [Act.put, pu]
                refine wpAnyH_done (by kernel_rfl) ?_ _
                have H := Lib.hid (h2.forget (O' := []) (fun p hp => by cases hp))
                clear h2
                obtain ⟨y0, y1, y2⟩ := HOP.out w2 H.out.bel
                go_wp2
                go_roundg gko
                case measure => exact Nat.lt_succ_self _
                case rel => exact ⟨i1, n + 1, (k, z) :: T2, K2, rfl, HI1.out.1, HI1.out.2.1, HI1.out.2.2, H.out, HOk2.out⟩
              · go_wp2_with fail
                refine wp_region_held_drew (S := (fun w' => Below w.heap.size w w')) (by kernel_rfl) ?_ (fun hS => ?_)
                · exact HS.out.bel.drew
                refine tkY 0 ?_ rfl hS ?_ ?_
                rotate_left
                · intro wz hSz
                  obtain ⟨y0, y1, y2⟩ := HOP.out wz hSz
                  go_simp
                  all_goals with_reducible rfl
                try simp only [Act.put, pu]
                refine tkY 1 ?_ rfl hS ?_ ?_
                rotate_left
                · intro wz hSz
                  obtain ⟨y0, y1, y2⟩ := HOP.out wz hSz
                  go_simp
                  all_goals with_reducible rfl
                try simp only [Act.put, pu]
                refine tkY 2 ?_ rfl hS ?_ ?_
                rotate_left
                · intro wz hSz
                  obtain ⟨y0, y1, y2⟩ := HOP.out wz hSz
                  go_simp
                  all_goals with_reducible rfl
                try simp only [Act.put, pu]
                refine tkY 3 ?_ rfl hS ?_ ?_
                rotate_left
                · intro wz hSz
                  obtain ⟨y0, y1, y2⟩ := HOP.out wz hSz
                  go_simp
                  all_goals with_reducible rfl
                try simp only [Act.put, pu]
                refine tkY 4 ?_ rfl hS ?_ ?_
                rotate_left
                · intro wz hSz
                  obtain ⟨y0, y1, y2⟩ := HOP.out wz hSz
                  go_simp
                  all_goals with_reducible rfl
                try simp only [Act.put, pu]
                refine tkY 5 ?_ rfl hS ?_ ?_
                rotate_left
                · intro wz hSz
                  obtain ⟨y0, y1, y2⟩ := HOP.out wz hSz
                  go_simp
                  all_goals with_reducible rfl
                try simp only [Act.put, pu]
                refine tkY 6 ?_ rfl hS ?_ ?_
                rotate_left
                · intro wz hSz
                  obtain ⟨y0, y1, y2⟩ := HOP.out wz hSz
                  go_simp
                  all_goals with_reducible rfl
                try simp only [Act.put, pu]
                refine tkY 7 ?_ rfl hS ?_ ?_
                rotate_left
                · intro wz hSz
                  obtain ⟨y0, y1, y2⟩ := HOP.out wz hSz
                  go_simp
                  all_goals with_reducible rfl
                try simp only [Act.put, pu]
                refine tkY 8 ?_ rfl hS ?_ ?_
                rotate_left
                · intro wz hSz
                  obtain ⟨y0, y1, y2⟩ := HOP.out wz hSz
                  go_simp
                  all_goals with_reducible rfl
                try simp only [Act.put, pu]
                refine tkY 9 ?_ rfl hS ?_ ?_
                rotate_left
                · intro wz hSz
                  obtain ⟨y0, y1, y2⟩ := HOP.out wz hSz
                  go_simp
                  all_goals with_reducible rfl
                try simp only [Act.put, pu]
                refine tkY 10 ?_ rfl hS ?_ ?_
                rotate_left
                · intro wz hSz
                  obtain ⟨y0, y1, y2⟩ := HOP.out wz hSz
                  go_simp
                  all_goals with_reducible rfl
                try simp only [Act.put, pu]
                refine wpAnyH_ready (rs := [11]) (by kernel_rfl) (by simp) (AllReadyH.cons rfl (fun K' hK' => ?_) AllReadyH.nil)
                go_simp
                refine (ls_big (HS.out.below (show Below wr.heap.size wr wr.drew from below_drewN _ _ 1)) k z hz1 (by omega)).mono ?_
                rintro e w2 ⟨rfl, rfl⟩
                refine hK'.out _ _ ?_ (fun hSn => ?_)
                · exact HS.out.bel.drew
                clear hK' K' hS hSn
                try simp only [Act.put, pu]
                refine wpAnyH_done (by kernel_rfl) ?_ _
                obtain ⟨y0, y1, y2⟩ := HOP.out wr.drew HS.out.bel.drew
                go_wp2
                go_roundg gko
                case measure => exact Nat.lt_succ_self _
                case rel => exact ⟨i1, n, T, K, rfl, HI1.out.1, HI1.out.2.1, by have := HI1.out.2.2; omega, (HS.out.below (show Below wr.heap.size wr wr.drew from below_drewN _ _ 1)), HOk.out⟩
            · go_wp2_with fail
              refine wp_region_held_drew (S := (fun w' => Below w.heap.size w w')) (by kernel_rfl) ?_ (fun hS => ?_)
              · exact HS.out.bel.drew
              refine tkY 0 ?_ rfl hS ?_ ?_
              rotate_left
              · intro wz hSz
                obtain ⟨y0, y1, y2⟩ := HOP.out wz hSz
                go_simp
                all_goals with_reducible rfl
              try simp only [Act.put, pu]
              refine tkY 1 ?_ rfl hS ?_ ?_
              rotate_left
              · intro wz hSz
                obtain ⟨y0, y1, y2⟩ := HOP.out wz hSz
                go_simp
                all_goals with_reducible rfl
              try simp only [Act.put, pu]
              refine tkY 2 ?_ rfl hS ?_ ?_
              rotate_left
              · intro wz hSz
                obtain ⟨y0, y1, y2⟩ := HOP.out wz hSz
                go_simp
                all_goals with_reducible rfl
              try simp only [Act.put, pu]
              refine tkY 3 ?_ rfl hS ?_ ?_
              rotate_left
              · intro wz hSz
                obtain ⟨y0, y1, y2⟩ := HOP.out wz hSz
                go_simp
                all_goals with_reducible rfl
              try simp only [Act.put, pu]
              refine tkY 4 ?_ rfl hS ?_ ?_
              rotate_left
              · intro wz hSz
                obtain ⟨y0, y1, y2⟩ := HOP.out wz hSz
                go_simp
                all_goals with_reducible rfl
              try simp only [Act.put, pu]
              refine tkY 5 ?_ rfl hS ?_ ?_
              rotate_left
              · intro wz hSz
                obtain ⟨y0, y1, y2⟩ := HOP.out wz hSz
                go_simp
                all_goals with_reducible rfl
              try simp only [Act.put, pu]
              refine tkY 6 ?_ rfl hS ?_ ?_
              rotate_left
              · intro wz hSz
                obtain ⟨y0, y1, y2⟩ := HOP.out wz hSz
                go_simp
                all_goals with_reducible rfl
              try simp only [Act.put, pu]
              refine tkY 7 ?_ rfl hS ?_ ?_
              rotate_left
              · intro wz hSz
                obtain ⟨y0, y1, y2⟩ := HOP.out wz hSz
                go_simp
                all_goals with_reducible rfl
              try simp only [Act.put, pu]
              refine tkY 8 ?_ rfl hS ?_ ?_
              rotate_left
              · intro wz hSz
                obtain ⟨y0, y1, y2⟩ := HOP.out wz hSz
                go_simp
                all_goals with_reducible rfl
              try simp only [Act.put, pu]
              refine tkY 9 ?_ rfl hS ?_ ?_
              rotate_left
              · intro wz hSz
                obtain ⟨y0, y1, y2⟩ := HOP.out wz hSz
                go_simp
                all_goals with_reducible rfl
              try simp only [Act.put, pu]
              refine tkY 10 ?_ rfl hS ?_ ?_
              rotate_left
              · intro wz hSz
                obtain ⟨y0, y1, y2⟩ := HOP.out wz hSz
                go_simp
                all_goals with_reducible rfl
              try simp only [Act.put, pu]
              refine wpAnyH_ready (rs := [11]) (by kernel_rfl) (by simp) (AllReadyH.cons rfl (fun K' hK' => ?_) AllReadyH.nil)
              go_simp
              refine (ls_low (HS.out.below (show Below wr.heap.size wr wr.drew from below_drewN _ _ 1)) k z (by omega)).mono ?_
              rintro e w2 ⟨rfl, rfl⟩
              refine hK'.out _ _ ?_ (fun hSn => ?_)
              · exact HS.out.bel.drew
              clear hK' K' hS hSn
              try simp only [Act.put, pu]
              refine wpAnyH_done (by kernel_rfl) ?_ _
              obtain ⟨y0, y1, y2⟩ := HOP.out wr.drew HS.out.bel.drew
              go_wp2
              go_roundg gko
              case measure => exact Nat.lt_succ_self _
              case rel => exact ⟨i1, n, T, K, rfl, HI1.out.1, HI1.out.2.1, by have := HI1.out.2.2; omega, (HS.out.below (show Below wr.heap.size wr wr.drew from below_drewN _ _ 1)), HOk.out⟩
          · by_cases e1 : kd = 1
            · subst e1
              obtain ⟨o, hh⟩ : ∃ o, hasS k T K = o := ⟨_, rfl⟩
              cases o with
              | none =>
                go_wp2_with fail
                refine (ls_miss HS.out k HK100.out.2 hh).mono ?_
                rintro e w2 ⟨rfl, rfl⟩
                go_wp2
                go_roundg gko
                case measure => exact Nat.lt_succ_self _
                case rel => exact ⟨i1, n, T, K, rfl, HI1.out.1, HI1.out.2.1, by have := HI1.out.2.2; omega, HS.out, HOk.out⟩
              | some zz =>
                obtain ⟨T2, K2, G, hR⟩ : ∃ T2 K2 G, touchE 12 k zz T K = (T2, K2, G) := ⟨_, _, _, rfl⟩
                have HOk2 : Hid (OkE 30 12 15 T2 K2) := Lib.hid (by have h := HOk.out.touch (by omega) HPT.out HPK.out k HK100.out.1 zz hh; rw [hR] at h; exact h)
                have HRR := Lib.hid hR
                have HH := Lib.hid hh
                clear hR hh
                go_wp2_with fail
                refine (touch_to HS.out (by omega) HOk.out.sk k HK100.out.2 zz HH.out _ HRR.out).mono ?_
                rintro e w2 ⟨v2, c2, rfl, h2⟩
                have H := Lib.hid (h2.forget (O' := []) (fun p hp => by cases hp))
                clear h2
                go_wp2
                go_roundg gko
                case measure => exact Nat.lt_succ_self _
                case rel => exact ⟨i1, n, T2, K2, rfl, HI1.out.1, HI1.out.2.1, by have := HI1.out.2.2; omega, H.out, HOk2.out⟩
            · have e0b : (kd == 0) = false := beq_eq_false_iff_ne.2 e0
              have e1b : (kd == 1) = false := beq_eq_false_iff_ne.2 e1
              clear e0 e1
              go_wp2
              go_roundg gko
              case measure => exact Nat.lt_succ_self _
              case rel => exact ⟨i1, n, T, K, rfl, HI1.out.1, HI1.out.2.1, by have := HI1.out.2.2; omega, HS.out, HOk.out⟩
        · have k1 : ¬ ((k.size : Int) ≤ 100) := by omega
          clear h100
          go_wp2
          go_roundg gko
          case measure => exact Nat.lt_succ_self _
          case rel => exact ⟨i1, n, T, K, rfl, HI1.out.1, HI1.out.2.1, by have := HI1.out.2.2; omega, HS.out, HOk.out⟩
      · have l1 : ¬ ((i : Int) < (l.length : Int)) := by omega
        clear hlt hi hil hni
        have hod := HOk.out.drop HPT.out HPK.out key
        have hkl := kLe_of hod
        have HKL := Lib.hid hkl
        obtain ⟨T1, hT1⟩ : ∃ L, delE key T = L := ⟨_, rfl⟩
        obtain ⟨K1, hK1⟩ : ∃ L, delE key K = L := ⟨_, rfl⟩
        have hn1 : ∀ y ∈ T1, y.1 ≠ key := fun y hy => (del_ne (hT1 ▸ hy)).2
        have hn2 : ∀ y ∈ K1, y.1 ≠ key := fun y hy => (del_ne (hK1 ▸ hy)).2
        rw [hT1, hK1] at hod HKL
        obtain ⟨B1, hB1⟩ : ∃ b, (hasS key T K).isSome = b := ⟨_, rfl⟩
        obtain ⟨T2, K2, G, hR⟩ : ∃ T2 K2 G, putE 30 key 3 T1 K1 = ((key, 3) :: T2, K2, G) := ⟨_, _, _, rfl⟩
        obtain ⟨hsum, hm1, hm2⟩ := put_sum hn1 hn2 hR
        have hp1 : posE T1 := fun y hy => HPT.out y (del_ne (hT1 ▸ hy)).1
        have hp2 : posE K1 := fun y hy => HPK.out y (del_ne (hK1 ▸ hy)).1
        have hok2 : OkE 30 12 15 ((key, 3) :: T2) K2 := by have h := hod.put hp1 hp2 key HKY.out.1 3 (by omega); rw [hR] at h; exact h
        have hd1 : delE key ((key, 3) :: T2) = T2 := by
          have e : delE key ((key, (3 : Int)) :: T2) = delE key T2 := by unfold delE; rw [List.filter_cons, if_neg (by simp)]
          rw [e, del_no hm1]
        have hd2 : delE key K2 = K2 := del_no hm2
        have hs3 : (hasS key ((key, 3) :: T2) K2).isSome = true := has_mk ⟨(key, 3), .inl (by simp), rfl⟩
        have hs1 := sum_nonneg hp1
        have hs2 := sum_nonneg hp2
        have hsa := hod.sa
        obtain ⟨ST, hST⟩ : ∃ S, sumE T1 = S := ⟨_, rfl⟩
        obtain ⟨SK, hSK⟩ : ∃ S, sumE K1 = S := ⟨_, rfl⟩
        obtain ⟨UT, hUT⟩ : ∃ S, sumE ((key, (3 : Int)) :: T2) = S := ⟨_, rfl⟩
        obtain ⟨UK, hUK⟩ : ∃ S, sumE K2 = S := ⟨_, rfl⟩
        rw [hST, hSK] at hsum hsa
        rw [hUT, hUK] at hsum
        rw [hST] at hs1
        rw [hSK] at hs2
        have HB : Hid (0 ≤ ST ∧ 0 ≤ SK ∧ ST + SK ≤ 30) := Lib.hid ⟨hs1, hs2, hsa⟩
        have HSM := Lib.hid hsum
        have HT1 := Lib.hid hT1
        have HK1 := Lib.hid hK1
        have HB1 := Lib.hid hB1
        have HR := Lib.hid hR
        have HST := Lib.hid hST
        have HSK := Lib.hid hSK
        have HUT := Lib.hid hUT
        have HUK := Lib.hid hUK
        have HD1 := Lib.hid hd1
        have HD2 := Lib.hid hd2
        have HS3 := Lib.hid hs3
        have HM1 := Lib.hid hm1
        have HM2 := Lib.hid hm2
        have HOk2 := Lib.hid hok2
        have wS : IntKind.i64.wrap (ST + SK) = ST + SK := IntWalk.i64_in _ (by omega)
        have wS3 : IntKind.i64.wrap (ST + SK + 3) = ST + SK + 3 := IntWalk.i64_in _ (by omega)
        clear hod hkl hT1 hK1 hB1 hR hsum hn1 hn2 hp1 hp2 hok2 hd1 hd2 hs3 hs1 hs2 hsa hST hSK hUT hUK hm1 hm2 hS hOk
        go_wp2_with fail
        refine (drop_to HS.out key HKY.out.2 T1 K1 B1 HT1.out HK1.out HB1.out).mono ?_
        rintro e w2 ⟨rfl, h2⟩
        have H := Lib.hid h2
        clear h2
        go_wp2_with fail
        refine (bytesT_to' H.out ST HST.out).mono ?_
        rintro e w3 ⟨rfl, h3⟩
        have H := Lib.hid h3
        clear h3
        go_wp2_with fail
        refine (bytesK_to' H.out SK HSK.out).mono ?_
        rintro e w4 ⟨rfl, h4⟩
        have H := Lib.hid h4
        clear h4
        go_wp2_with fail
        refine (put_to H.out (by omega) (by have := HNI.out; omega) HKL.out.1 HKL.out.2 key HKY.out.2 3 (by omega) (by omega) _ HR.out).mono ?_
        rintro e w5 ⟨v5, c5, rfl, h5⟩
        have H := Lib.hid (h5.forget (O' := []) (fun p hp => by cases hp))
        clear h5
        by_cases hG : G.length = 0
        · have hG0 : G = [] := List.eq_nil_of_length_eq_zero hG
          have hu := HSM.out hG0
          rw [hG]
          clear hG hG0
          go_wp2_with fail
          refine (bytesT_to' H.out UT HUT.out).mono ?_
          rintro e w6 ⟨rfl, h6⟩
          have H := Lib.hid h6
          clear h6
          go_wp2_with fail
          refine (bytesK_to' H.out UK HUK.out).mono ?_
          rintro e w7 ⟨rfl, h7⟩
          have H := Lib.hid h7
          clear h7
          have wU : IntKind.i64.wrap (UT + UK) = ST + SK + 3 := by rw [hu]; exact wS3
          have wU' : wrap64 (UT + UK) = ST + SK + 3 := by rw [hu]; exact IntWalk.wrap64_in _ (by have := HB.out; omega)
          have wS3' : wrap64 (ST + SK + 3) = ST + SK + 3 := IntWalk.wrap64_in _ (by have := HB.out; omega)
          go_wp2_with fail
          refine (drop_to H.out key HKY.out.2 T2 K2 true HD1.out HD2.out HS3.out).mono ?_
          rintro e w8 ⟨rfl, h8⟩
          have H := Lib.hid h8
          clear h8
          go_wp2_with fail
          refine (ls_keysT H.out).mono ?_
          rintro e w9 ⟨v9, c9, rfl, h9⟩
          have H := Lib.hid h9
          clear h9
          go_wp2_with fail
          refine (ls_keysK H.out).mono ?_
          rintro e wa ⟨vA, cA, rfl, hA⟩
          have H := Lib.hid hA
          have HLN := Lib.hid hA.lens
          have HND := Lib.hid hA.nodup
          clear hA
          obtain ⟨L, hL⟩ : ∃ L, keysE T2 ++ keysE K2 = L := ⟨_, rfl⟩
          have HLE := Lib.hid hL
          clear hL
          go_wp2_with (at_builtin; refine wpList_app_to H.out (List.mem_cons_of_mem _ (List.mem_cons_self ..)) (H.out.told (List.mem_cons_self ..)).ts L HLE.out (by have := HLN.out.1; unfold keysE; rw [List.length_map, List.length_map]; omega) rfl _ _ rfl rfl rfl ?_; intro vL cL wb hb)
          have hL := HLE.out
          have H := Lib.hid hb
          have hkk : ∀ y ∈ L, y ≠ key ∧ y.size ≤ 281474976710656 := by
            intro y hy
            rw [← hL] at hy
            rcases List.mem_append.1 hy with hy | hy
            · obtain ⟨q, hq, rfl⟩ := List.mem_map.1 hy
              exact ⟨HM1.out q hq, by have := HOk2.out.kl q (.inl (List.mem_cons_of_mem _ hq)); omega⟩
            · obtain ⟨q, hq, rfl⟩ := List.mem_map.1 hy
              exact ⟨HM2.out q hq, by have := HOk2.out.kl q (.inr hq); omega⟩
          have HKK := Lib.hid hkk
          have HLL : Hid (L.length ≤ 1073741824) := Lib.hid (by rw [← hL, List.length_append]; unfold keysE; rw [List.length_map, List.length_map]; exact HLN.out.1)
          clear hb hkk hL
          go_wp2_with fail
          go_loopg [12] L.length (fun gx u12 wx => ∃ (x : Nat) (T K : List En), u12 = .int .i64 (x : Int) ∧ x + gx = L.length ∧ LS w wx g (n + 1) 30 12 15 T K [.txt (.slice vL L.length cL) L] ∧ keysE T ++ keysE K = L.drop x)
          case atStart => exact ⟨0, T2, K2, rfl, by omega, H.out, by rw [List.drop_zero]; exact HLE.out⟩
          case round =>
            obtain ⟨x, T, K, rfl, hx, hS, hTK⟩ := hrel
            have HS := Lib.hid hS
            cases gk with
            | zero =>
              have l1 : ¬ ((x : Int) < (L.length : Int)) := by omega
              have hxl : x = L.length := by omega
              rw [hxl, List.drop_length] at hTK
              obtain ⟨e1, e2⟩ := List.append_eq_nil_iff.1 hTK
              have eT := keys_emp e1
              have eK := keys_emp e2
              subst eT eK
              clear hx hxl hTK e1 e2 hS
              go_wp2_with fail
              refine (bytesT_to' HS.out 0 rfl).mono ?_
              rintro e x1 ⟨rfl, h⟩
              have H := Lib.hid h
              clear h
              go_wp2_with fail
              refine (bytesK_to' H.out 0 rfl).mono ?_
              rintro e x2 ⟨rfl, h⟩
              have H := Lib.hid h
              clear h
              go_wp2_with fail
              refine (ls_keysT H.out).mono ?_
              rintro e x3 ⟨y3, d3, rfl, h⟩
              have H := Lib.hid h
              clear h
              have en1 : (keysE []).length = 0 := rfl
              go_wp2_with fail
              refine (ls_keysK H.out).mono ?_
              rintro e x4 ⟨y4, d4, rfl, h⟩
              have H := Lib.hid h
              clear h
              go_wp2_with fail
              refine (known_any _).mono ?_
              rintro e wk ⟨rfl, hk⟩
              have HKN := Lib.hid hk
              clear hk
              go_wp2
              go_ret
              exact ⟨rfl, H.out.bel.trans (HKN.out.mono H.out.bel.size)⟩
            | succ gx =>
              have hxl : x < L.length := by omega
              have l1 : (x : Int) < (L.length : Int) := by omega
              have l0 : (0 : Int) ≤ (x : Int) := by omega
              obtain ⟨x1, hx1⟩ : ∃ x1, x + 1 = x1 := ⟨_, rfl⟩
              have wx : IntKind.i64.wrap ((x : Int) + 1) = (x1 : Int) := by rw [show (x : Int) + 1 = (x1 : Int) by omega]; exact IntWalk.i64_in _ (by have := HLL.out; omega)
              have HX1 : Hid (x1 + gx = L.length) := Lib.hid (by omega)
              rw [List.drop_eq_getElem_cons hxl] at hTK
              obtain ⟨k, hk⟩ : ∃ y, L[x] = y := ⟨_, rfl⟩
              obtain ⟨hne, hks⟩ := HKK.out k (by rw [← hk]; exact List.getElem_mem _)
              have HKS := Lib.hid hks
              rw [hk, hx1] at hTK
              obtain ⟨hst, his⟩ := drop_step hS.nodup.1 hS.nodup.2 hS.apart hTK
              have HST := Lib.hid hst
              have HIS := Lib.hid his
              have es : (k.toList == key.toList) = false := by rw [tl_dec]; exact decide_eq_false hne
              obtain ⟨bL, oL, rfl, qL⟩ : ∃ bL oL, vL = some ⟨bL, oL, none⟩ ∧ wr.cell? ⟨bL, oL + x, none⟩ = some (.string k) := by
                obtain ⟨v, c, e, h⟩ := (hS.told (List.mem_cons_self ..)).ts.at_
                injection e with e1 _ e3
                subst e1 e3
                rcases h with h0 | ⟨g', o', rfl, _, hq⟩
                · omega
                · exact ⟨g', o', rfl, by rw [hq x hxl, hk]⟩
              clear hx hx1 hk hxl hTK hne hks hst his hS
              go_wp2_with fail
              refine (drop_to HS.out k HKS.out _ _ true rfl rfl HIS.out).mono ?_
              rintro e x2 ⟨rfl, h⟩
              have H := Lib.hid h
              clear h
              go_wp2
              go_roundg gx
              case measure => exact Nat.lt_succ_self _
              case rel => exact ⟨x1, _, _, rfl, HX1.out, H.out, HST.out⟩
        · have hG1 : ¬ ((G.length : Int) = 0) := by omega
          have hG2 : ((G.length : Int) == 0) = false := by rw [beq_eq_false_iff_ne]; omega
          go_wp2_with fail
          refine (drop_to H.out key HKY.out.2 T2 K2 true HD1.out HD2.out HS3.out).mono ?_
          rintro e w8 ⟨rfl, h8⟩
          have H := Lib.hid h8
          clear h8
          go_wp2_with fail
          refine (ls_keysT H.out).mono ?_
          rintro e w9 ⟨v9, c9, rfl, h9⟩
          have H := Lib.hid h9
          clear h9
          go_wp2_with fail
          refine (ls_keysK H.out).mono ?_
          rintro e wa ⟨vA, cA, rfl, hA⟩
          have H := Lib.hid hA
          have HLN := Lib.hid hA.lens
          have HND := Lib.hid hA.nodup
          clear hA
          obtain ⟨L, hL⟩ : ∃ L, keysE T2 ++ keysE K2 = L := ⟨_, rfl⟩
          have HLE := Lib.hid hL
          clear hL
          go_wp2_with (at_builtin; refine wpList_app_to H.out (List.mem_cons_of_mem _ (List.mem_cons_self ..)) (H.out.told (List.mem_cons_self ..)).ts L HLE.out (by have := HLN.out.1; unfold keysE; rw [List.length_map, List.length_map]; omega) rfl _ _ rfl rfl rfl ?_; intro vL cL wb hb)
          have hL := HLE.out
          have H := Lib.hid hb
          have hkk : ∀ y ∈ L, y ≠ key ∧ y.size ≤ 281474976710656 := by
            intro y hy
            rw [← hL] at hy
            rcases List.mem_append.1 hy with hy | hy
            · obtain ⟨q, hq, rfl⟩ := List.mem_map.1 hy
              exact ⟨HM1.out q hq, by have := HOk2.out.kl q (.inl (List.mem_cons_of_mem _ hq)); omega⟩
            · obtain ⟨q, hq, rfl⟩ := List.mem_map.1 hy
              exact ⟨HM2.out q hq, by have := HOk2.out.kl q (.inr hq); omega⟩
          have HKK := Lib.hid hkk
          have HLL : Hid (L.length ≤ 1073741824) := Lib.hid (by rw [← hL, List.length_append]; unfold keysE; rw [List.length_map, List.length_map]; exact HLN.out.1)
          clear hb hkk hL
          go_wp2_with fail
          go_loopg [12] L.length (fun gx u12 wx => ∃ (x : Nat) (T K : List En), u12 = .int .i64 (x : Int) ∧ x + gx = L.length ∧ LS w wx g (n + 1) 30 12 15 T K [.txt (.slice vL L.length cL) L] ∧ keysE T ++ keysE K = L.drop x)
          case atStart => exact ⟨0, T2, K2, rfl, by omega, H.out, by rw [List.drop_zero]; exact HLE.out⟩
          case round =>
            obtain ⟨x, T, K, rfl, hx, hS, hTK⟩ := hrel
            have HS := Lib.hid hS
            cases gk with
            | zero =>
              have l1 : ¬ ((x : Int) < (L.length : Int)) := by omega
              have hxl : x = L.length := by omega
              rw [hxl, List.drop_length] at hTK
              obtain ⟨e1, e2⟩ := List.append_eq_nil_iff.1 hTK
              have eT := keys_emp e1
              have eK := keys_emp e2
              subst eT eK
              clear hx hxl hTK e1 e2 hS
              go_wp2_with fail
              refine (bytesT_to' HS.out 0 rfl).mono ?_
              rintro e x1 ⟨rfl, h⟩
              have H := Lib.hid h
              clear h
              go_wp2_with fail
              refine (bytesK_to' H.out 0 rfl).mono ?_
              rintro e x2 ⟨rfl, h⟩
              have H := Lib.hid h
              clear h
              go_wp2_with fail
              refine (ls_keysT H.out).mono ?_
              rintro e x3 ⟨y3, d3, rfl, h⟩
              have H := Lib.hid h
              clear h
              have en1 : (keysE []).length = 0 := rfl
              go_wp2_with fail
              refine (ls_keysK H.out).mono ?_
              rintro e x4 ⟨y4, d4, rfl, h⟩
              have H := Lib.hid h
              clear h
              go_wp2_with fail
              refine (known_any _).mono ?_
              rintro e wk ⟨rfl, hk⟩
              have HKN := Lib.hid hk
              clear hk
              go_wp2
              go_ret
              exact ⟨rfl, H.out.bel.trans (HKN.out.mono H.out.bel.size)⟩
            | succ gx =>
              have hxl : x < L.length := by omega
              have l1 : (x : Int) < (L.length : Int) := by omega
              have l0 : (0 : Int) ≤ (x : Int) := by omega
              obtain ⟨x1, hx1⟩ : ∃ x1, x + 1 = x1 := ⟨_, rfl⟩
              have wx : IntKind.i64.wrap ((x : Int) + 1) = (x1 : Int) := by rw [show (x : Int) + 1 = (x1 : Int) by omega]; exact IntWalk.i64_in _ (by have := HLL.out; omega)
              have HX1 : Hid (x1 + gx = L.length) := Lib.hid (by omega)
              rw [List.drop_eq_getElem_cons hxl] at hTK
              obtain ⟨k, hk⟩ : ∃ y, L[x] = y := ⟨_, rfl⟩
              obtain ⟨hne, hks⟩ := HKK.out k (by rw [← hk]; exact List.getElem_mem _)
              have HKS := Lib.hid hks
              rw [hk, hx1] at hTK
              obtain ⟨hst, his⟩ := drop_step hS.nodup.1 hS.nodup.2 hS.apart hTK
              have HST := Lib.hid hst
              have HIS := Lib.hid his
              have es : (k.toList == key.toList) = false := by rw [tl_dec]; exact decide_eq_false hne
              obtain ⟨bL, oL, rfl, qL⟩ : ∃ bL oL, vL = some ⟨bL, oL, none⟩ ∧ wr.cell? ⟨bL, oL + x, none⟩ = some (.string k) := by
                obtain ⟨v, c, e, h⟩ := (hS.told (List.mem_cons_self ..)).ts.at_
                injection e with e1 _ e3
                subst e1 e3
                rcases h with h0 | ⟨g', o', rfl, _, hq⟩
                · omega
                · exact ⟨g', o', rfl, by rw [hq x hxl, hk]⟩
              clear hx hx1 hk hxl hTK hne hks hst his hS
              go_wp2_with fail
              refine (drop_to HS.out k HKS.out _ _ true rfl rfl HIS.out).mono ?_
              rintro e x2 ⟨rfl, h⟩
              have H := Lib.hid h
              clear h
              go_wp2
              go_roundg gx
              case measure => exact Nat.lt_succ_self _
              case rel => exact ⟨x1, _, _, rfl, HX1.out, H.out, HST.out⟩
end Go.Proofs.Ytgiajbpeiebkhaa.SL
