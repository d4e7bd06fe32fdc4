/- LineFull's walk. No condition. -/
import Derived.Test.YtckodebcigmkgaaLnp
namespace Go.Proofs.Ytckodebcigmkgaa.LN
open Go.ChangeShapes Go.WideShapes Go.ChangeAt Go.RowKit
open Go.Proofs.Ytckodebcigmkgaa.SL Go.Proofs.Ytckodebcigmkgaa.RW
set_option maxRecDepth 100000
set_option linter.unusedVariables false
set_option linter.unusedSimpArgs false

set_option maxHeartbeats 32000000 in
theorem full_any (q : Int) (hq : 0 ≤ q ∧ q ≤ 255) (v : Value) (L : List Int) (w : World) (hv : NR .u8 255 w v L) :
    Calls Try.prog 5 #[.int .u8 q, v] w (RdP (.bool true) w) := by
  obtain ⟨m, hm⟩ : ∃ m : Nat, 1 + q % 20 = (m : Int) := ⟨(1 + q % 20).toNat, by omega⟩
  have hmr : 1 ≤ m ∧ m ≤ 20 := by omega
  have HMR := Lib.hid hmr
  obtain ⟨va, vc, rfl⟩ := hv.form
  obtain ⟨n, hn⟩ : ∃ n, L.length = n := ⟨_, rfl⟩
  rw [hn] at hv ⊢
  obtain ⟨N, hN⟩ : ∃ N, min n 100 = N := ⟨_, rfl⟩
  have HNN := Lib.hid hN
  have HN := Lib.hid hn
  have HV := Lib.hid hv
  clear hv hn hN
  go_enter Try.func5, Try.ntmps5
  go_wp2_with fail
  try rw [hm]
  refine (ln_new w m (by omega) (by omega)).mono ?_
  rintro e w1 ⟨a, rfl, hl, hb⟩
  have HL := Lib.hid hl
  have HB := Lib.hid hb
  clear hl hb
  go_wp2
  go_loopg [8] N (fun gk u8 wx => ∃ (i : Nat) (l : List Wt), u8 = .int .i64 (i : Int) ∧ i + gk = N ∧ LN w.heap.size wx a m l ∧ Nd l ∧ Below w.heap.size w wx)
  case atStart => exact ⟨0, [], rfl, by omega, HL.out, Nd.nil, HB.out⟩
  case round =>
    obtain ⟨i, l, rfl, hi, hl, hnd, hb⟩ := hrel
    clear HL HB
    have HL := Lib.hid hl
    have HB := Lib.hid hb
    have HD := Lib.hid hnd
    clear hl hb hnd
    cases gk with
    | zero =>
      by_cases h1 : i < n
      · have l1 : (i : Int) < (n : Int) := by omega
        have l2 : ¬ (i : Int) < 100 := by have := HNN.out; omega
        clear hi hm hmr hq h1
        go_wp2_with fail
        refine (known_any _).mono ?_
        rintro e wz ⟨rfl, hb⟩
        have HB := Lib.hid (HB.out.trans (hb.mono HB.out.size))
        clear hb
        go_wp2
        go_ret
        exact ⟨rfl, HB.out⟩
      · have l1 : ¬ (i : Int) < (n : Int) := by omega
        clear hi hm hmr hq h1
        go_wp2_with fail
        refine (known_any _).mono ?_
        rintro e wz ⟨rfl, hb⟩
        have HB := Lib.hid (HB.out.trans (hb.mono HB.out.size))
        clear hb
        go_wp2
        go_ret
        exact ⟨rfl, HB.out⟩
    | succ g1 =>
      have l1 : (i : Int) < (n : Int) := by have := HNN.out; omega
      have l2 : (i : Int) < 100 := by have := HNN.out; omega
      have l0 : (0 : Int) ≤ (i : Int) := by omega
      have hil : i < L.length := by have := HN.out; omega
      obtain ⟨gb, off, cap, he, hc, hx⟩ := HV.out.inv (by omega)
      rw [HN.out] at he
      injection he with e1 _ e3
      subst e1 e3
      obtain ⟨x, hxx⟩ : ∃ x, L[i] = x := ⟨_, rfl⟩
      obtain ⟨hx1, hx2⟩ := hx i x (by rw [List.getElem?_eq_getElem hil, hxx])
      have HX : Hid (∀ W, Below w.heap.size w W → W.cell? ⟨gb, off + i, none⟩ = some (.int .u8 x)) := Lib.hid (fun W hW => (hW.cell (p := ⟨gb, off + i, none⟩) (World.block_lt_of_cell? _ _ hx2)).trans hx2)
      obtain ⟨i1, hi1⟩ : ∃ j, i + 1 = j := ⟨_, rfl⟩
      have wk : IntKind.i64.wrap ((i : Int) + 1) = (i1 : Int) := by rw [show (i : Int) + 1 = (i1 : Int) by omega]; exact IntWalk.i64_in _ (by have := HNN.out; omega)
      have HI : Hid (i1 + g1 = N) := Lib.hid (by omega)
      have HP := Lib.hid (ln_place HL.out x)
      obtain ⟨P, hP⟩ : ∃ P, placeS l x = P := ⟨_, rfl⟩
      rw [hP] at HP
      have HPP := Lib.hid hP
      obtain ⟨k, hk⟩ : ∃ k, l.length = k := ⟨_, rfl⟩
      have HK := Lib.hid hk
      have hkm : k ≤ m := by have := HL.out.len.1; omega
      have HKM := Lib.hid hkm
      have x0 := HX.out _ HB.out
      clear hi hi1 hm hmr hq hil hc hx hxx hx2 hP hk hkm
      go_wp2_with fail
      refine HP.out.mono ?_
      rintro e w2 ⟨rfl, hb⟩
      have HL := Lib.hid (HL.out.below hb)
      have HB := Lib.hid (HB.out.trans (hb.mono HB.out.size))
      clear hb HP x0
      have HA := Lib.hid (ln_all HL.out)
      go_wp2_with fail
      refine HA.out.mono ?_
      rintro e w3 ⟨r3, rfl, h3, hb⟩
      obtain ⟨ra, rc, hr3⟩ := h3.form
      rw [List.length_map, HK.out] at hr3
      subst hr3
      have HL := Lib.hid (HL.out.below hb)
      have HB := Lib.hid (HB.out.trans (hb.mono HB.out.size))
      clear hb h3 HA
      have HJ := Lib.hid (ln_join HL.out x 7)
      have x0 := HX.out _ HB.out
      have HNJ := Lib.hid (HD.out.join m x 7)
      by_cases hp : 0 ≤ P
      · rw [show joinS m l x 7 = (l, 9) by unfold joinS; rw [if_neg (by omega), if_pos (by rw [HPP.out]; exact hp)]] at HJ HNJ
        have HLV := Lib.hid (HD.out.leave_len (id := x) (by rw [HPP.out]; exact hp))
        have HG := Lib.hid (leave_gone (l := l) (id := x))
        have HDV : Hid (Nd (leaveS l x).1) := Lib.hid (HD.out.stay _)
        have hy : (leaveS l x).2 = true := by rw [leave_yes, HPP.out]; exact decide_eq_true hp
        have HY := Lib.hid hy
        obtain ⟨l1', hl1⟩ : ∃ l1, (leaveS l x).1 = l1 := ⟨_, rfl⟩
        rw [hl1] at HLV HG HDV
        have HL1 := Lib.hid hl1
        have l5 : ¬ ((m : Int) < (k : Int)) := by have := HKM.out; omega
        obtain ⟨k0, hk0⟩ : ∃ k0 : Nat, l1'.length = k0 := ⟨_, rfl⟩
        have HK0 := Lib.hid hk0
        have hkk : (k : Int) - 1 = (k0 : Int) := by have := HLV.out; have := HK.out; omega
        have wk2 : IntKind.i64.wrap ((k : Int) - 1) = (k0 : Int) := by rw [hkk]; exact IntWalk.i64_in _ (by have := HKM.out; have := HMR.out; omega)
        have hk1 : k0 + 1 = k := by have := HLV.out; have := HK.out; omega
        have HK1 := Lib.hid hk1
        clear hy hl1 hk0 hkk hk1
        go_wp2_with fail
        refine HJ.out.mono ?_
        rintro e w4 ⟨rfl, hs⟩
        have HL := Lib.hid hs.lb
        have HB := Lib.hid (HB.out.trans hs.bel)
        clear hs HJ x0
        have HA := Lib.hid (ln_all HL.out)
        go_wp2_with fail
        refine HA.out.mono ?_
        rintro e w5 ⟨r5, rfl, h5, hb⟩
        obtain ⟨rb, rd, hr5⟩ := h5.form
        rw [List.length_map, HK.out] at hr5
        subst hr5
        have HL := Lib.hid (HL.out.below hb)
        have HB := Lib.hid (HB.out.trans (hb.mono HB.out.size))
        clear hb h5 HA
        have HLE := Lib.hid (ln_leave HL.out x)
        have x0 := HX.out _ HB.out
        go_wp2_with fail
        refine HLE.out.mono ?_
        rintro e w6 ⟨rfl, hs⟩
        have HL := Lib.hid (show LN w.heap.size w6 a m l1' by rw [← HL1.out]; exact hs.lb)
        have HB := Lib.hid (HB.out.trans hs.bel)
        clear hs HLE x0
        have HJ := Lib.hid (ln_join HL.out x 7)
        have hpn : placeS l1' x = -1 := place_none HG.out
        rw [show joinS m l1' x 7 = (l1' ++ [(x, 7)], 0) by
          unfold joinS
          rw [if_neg (by omega), hpn, if_neg (by decide), if_neg (by have := HKM.out; have := HK1.out; have := HK0.out; omega)]] at HJ
        have HD : Hid (Nd (l1' ++ [(x, 7)])) := Lib.hid (by
          have := HDV.out.join m x 7
          unfold joinS at this
          rw [if_neg (by omega), hpn, if_neg (by decide), if_neg (by have := HKM.out; have := HK1.out; have := HK0.out; omega)] at this
          exact this)
        have x0 := HX.out _ HB.out
        clear hpn
        go_wp2_with fail
        refine HJ.out.mono ?_
        rintro e w7 ⟨rfl, hs⟩
        have HL := Lib.hid hs.lb
        have HB := Lib.hid (HB.out.trans hs.bel)
        clear hs HJ x0
        have HP := Lib.hid (ln_place HL.out x)
        rw [place_end HG.out, HK0.out] at HP
        have x0 := HX.out _ HB.out
        go_wp2_with fail
        refine HP.out.mono ?_
        rintro e w8 ⟨rfl, hb⟩
        have HL := Lib.hid (HL.out.below hb)
        have HB := Lib.hid (HB.out.trans (hb.mono HB.out.size))
        clear hb HP x0
        go_wp2
        go_roundg g1
        case measure => exact Nat.lt_succ_self _
        case rel => exact ⟨i1, _, rfl, HI.out, HL.out, HD.out, HB.out⟩
      · by_cases hmk : m ≤ k
        · have hj : joinS m l x 7 = (l, 11) := by unfold joinS; rw [if_neg (by omega), if_neg (by rw [HPP.out]; exact hp), if_pos (by rw [HK.out]; exact hmk)]
          rw [hj] at HJ HNJ
          have l5 : ¬ ((m : Int) < (k : Int)) := by have := HKM.out; omega
          have l6 : (m : Int) ≤ (k : Int) := by omega
          have hp2 : P < 0 := by omega
          clear hj hmk hp
          go_wp2_with fail
          refine HJ.out.mono ?_
          rintro e w4 ⟨rfl, hs⟩
          have HL := Lib.hid hs.lb
          have HB := Lib.hid (HB.out.trans hs.bel)
          clear hs HJ x0
          have HA := Lib.hid (ln_all HL.out)
          go_wp2_with fail
          refine HA.out.mono ?_
          rintro e w5 ⟨r5, rfl, h5, hb⟩
          obtain ⟨rb, rd, hr5⟩ := h5.form
          rw [List.length_map, HK.out] at hr5
          subst hr5
          have HL := Lib.hid (HL.out.below hb)
          have HB := Lib.hid (HB.out.trans (hb.mono HB.out.size))
          clear hb h5 HA
          go_wp2
          go_roundg g1
          case measure => exact Nat.lt_succ_self _
          case rel => exact ⟨i1, _, rfl, HI.out, HL.out, HD.out, HB.out⟩
        · have hj : joinS m l x 7 = (l ++ [(x, 7)], 0) := by unfold joinS; rw [if_neg (by omega), if_neg (by rw [HPP.out]; exact hp), if_neg (by rw [HK.out]; exact hmk)]
          rw [hj] at HJ HNJ
          obtain ⟨k1, hk1⟩ : ∃ k1, (l ++ [(x, 7)]).length = k1 := ⟨_, rfl⟩
          have HK1 := Lib.hid hk1
          have l5 : ¬ ((m : Int) < (k1 : Int)) := by rw [List.length_append] at hk1; have := HK.out; simp at hk1; omega
          have l6 : ¬ (m : Int) ≤ (k : Int) := by omega
          have hp2 : P < 0 := by omega
          obtain ⟨l2', hl2⟩ : ∃ l2, l ++ [(x, 7)] = l2 := ⟨_, rfl⟩
          rw [hl2] at HJ HNJ HK1
          clear hj hmk hp hk1 hl2
          go_wp2_with fail
          refine HJ.out.mono ?_
          rintro e w4 ⟨rfl, hs⟩
          have HL := Lib.hid hs.lb
          have HB := Lib.hid (HB.out.trans hs.bel)
          have HD := HNJ
          clear hs HJ x0
          have HA := Lib.hid (ln_all HL.out)
          go_wp2_with fail
          refine HA.out.mono ?_
          rintro e w5 ⟨r5, rfl, h5, hb⟩
          obtain ⟨rb, rd, hr5⟩ := h5.form
          rw [List.length_map, HK1.out] at hr5
          subst hr5
          have HL := Lib.hid (HL.out.below hb)
          have HB := Lib.hid (HB.out.trans (hb.mono HB.out.size))
          clear hb h5 HA
          go_wp2
          go_roundg g1
          case measure => exact Nat.lt_succ_self _
          case rel => exact ⟨i1, _, rfl, HI.out, HL.out, HD.out, HB.out⟩
theorem full_law (q : Int) (v : Value) (w : World) (hq : (Lit.int .u8 q).wf = true) (hv : FitsU8 w v) :
    Calls Try.prog 5 #[.int .u8 q, v] w (RdP (.bool true) w) := by
  obtain ⟨L, hv⟩ := hv
  exact full_any q (wf8 q hq) v L w hv
end Go.Proofs.Ytckodebcigmkgaa.LN
