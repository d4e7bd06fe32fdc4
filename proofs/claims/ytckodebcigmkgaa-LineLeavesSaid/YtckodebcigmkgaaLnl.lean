/- LineLeaves' walk. No condition. -/
import Derived.Test.YtckodebcigmkgaaLnp
namespace Go.Proofs.Ytckodebcigmkgaa.LN
open Go.ChangeShapes Go.WideShapes Go.ChangeAt Go.RowKit
open Go.Proofs.Ytckodebcigmkgaa.SL Go.Proofs.Ytckodebcigmkgaa.RW
set_option maxRecDepth 100000
set_option linter.unusedVariables false
set_option linter.unusedSimpArgs false

abbrev U5 : Nat → Int := fun _ => 5
set_option maxHeartbeats 16000000 in
theorem leaves_any (n q : Int) (hn : 0 ≤ n ∧ n ≤ 255) (hq : 0 ≤ q ∧ q ≤ 255) (w : World) :
    Calls Try.prog 7 #[.int .u8 n, .int .u8 q] w (RdP (.bool true) w) := by
  obtain ⟨m, hm⟩ : ∃ m : Nat, 1 + n % 60 = (m : Int) := ⟨(1 + n % 60).toNat, by omega⟩
  have hmr : 1 ≤ m ∧ m ≤ 60 := by omega
  obtain ⟨x, hx⟩ : ∃ x : Nat, q % (m : Int) = (x : Int) := ⟨(q % (m : Int)).toNat, by
    have := Int.emod_nonneg q (show (m : Int) ≠ 0 by omega)
    omega⟩
  have hxr : x < m := by
    have := Int.emod_lt_of_pos q (show (0 : Int) < m by omega)
    omega
  obtain ⟨r, hr⟩ : ∃ r, m = x + 1 + r := ⟨m - (x + 1), by omega⟩
  have HMR := Lib.hid hmr
  have HR := Lib.hid hr
  have HXR := Lib.hid hxr
  clear hr
  go_enter Try.func7, Try.ntmps7
  go_wp2_with fail
  refine (ln_new w 10000 (by omega) (by omega)).mono ?_
  rintro e w1 ⟨a, rfl, hl, hb⟩
  have HL := Lib.hid hl
  have HB := Lib.hid hb
  clear hl hb
  go_wp2
  go_loopg [9] m (fun gk u9 wx => ∃ i : Nat, u9 = .int .i64 (i : Int) ∧ i + gk = m ∧ LN w.heap.size wx a 10000 (sq U5 0 i) ∧ Below w.heap.size w wx)
  case atStart => exact ⟨0, rfl, by omega, HL.out, HB.out⟩
  case round =>
    obtain ⟨i, rfl, hi, hl, hb⟩ := hrel
    clear HL HB
    have HL := Lib.hid hl
    have HB := Lib.hid hb
    clear hl hb
    cases gk with
    | succ g1 =>
      have HJ := Lib.hid (ln_join HL.out (i : Int) 5)
      rw [join_sq (U := U5) (t := 5) ⟨by omega, by omega⟩ (by omega) rfl] at HJ
      have l1 : (i : Int) < (m : Int) := by omega
      obtain ⟨i1, hi1⟩ : ∃ j, i + 1 = j := ⟨_, rfl⟩
      rw [hi1] at HJ
      have wk : IntKind.i64.wrap ((i : Int) + 1) = (i1 : Int) := by rw [show (i : Int) + 1 = (i1 : Int) by omega]; exact IntWalk.i64_in _ (by omega)
      have HI : Hid (i1 + g1 = m) := Lib.hid (by omega)
      clear hi hi1 hm hmr hx hxr hn hq
      go_wp2_with fail
      refine HJ.out.mono ?_
      rintro e w3 ⟨rfl, hs⟩
      have HL := Lib.hid hs.lb
      have HB := Lib.hid (HB.out.trans hs.bel)
      clear hs
      go_wp2
      go_roundg g1
      case measure => exact Nat.lt_succ_self _
      case rel => exact ⟨i1, rfl, HI.out, HL.out, HB.out⟩
    | zero =>
      have hie : i = m := by omega
      subst hie
      have l1 : ¬ ((i : Int) < (i : Int)) := by omega
      have HV := Lib.hid (ln_leave HL.out (x : Int))
      rw [show leaveS (sq U5 0 i) (x : Int) = (lv U5 x r, true) by rw [HR.out]; exact leave_sq x r] at HV
      have l2 : ¬ (i : Int) = 0 := by omega
      obtain ⟨i2, hi2⟩ : ∃ i2, x + r = i2 := ⟨_, rfl⟩
      have HI2 := Lib.hid hi2
      have wk2 : IntKind.i64.wrap ((i : Int) - 1) = (i2 : Int) := by rw [show (i : Int) - 1 = (i2 : Int) by have := HR.out; omega]; exact IntWalk.i64_in _ (by have := HR.out; omega)
      clear hi hm hmr hxr hn hi2
      go_wp2_with fail
      refine HV.out.mono ?_
      rintro e w3 ⟨rfl, hs⟩
      have HL := Lib.hid hs.lb
      have HB := Lib.hid (HB.out.trans hs.bel)
      have HV := Lib.hid (ln_leave hs.lb (x : Int))
      rw [leave_lv] at HV
      clear hs
      go_wp2_with fail
      refine HV.out.mono ?_
      rintro e w4 ⟨rfl, hs⟩
      have HL := Lib.hid hs.lb
      have HB := Lib.hid (HB.out.trans hs.bel)
      have HV := Lib.hid (ln_all hs.lb)
      clear hs
      go_wp2_with fail
      refine HV.out.mono ?_
      rintro e w5 ⟨r5, rfl, hi5, hb⟩
      obtain ⟨ra, rc, hr5⟩ := hi5.form
      rw [List.length_map, lv_len, HI2.out] at hr5
      subst hr5
      have HL := Lib.hid (HL.out.below hb)
      have HB := Lib.hid (HB.out.trans (hb.mono HB.out.size))
      clear hi5 hb HV
      go_wp2
      go_loopg [10] i (fun gk u10 wx => ∃ j : Nat, u10 = .int .i64 (j : Int) ∧ j + gk = i ∧ LN w.heap.size wx a 10000 (lv U5 x r) ∧ Below w.heap.size w wx)
      case atStart => exact ⟨0, rfl, by omega, HL.out, HB.out⟩
      case round =>
        obtain ⟨j, rfl, hj, hl, hb⟩ := hrel
        clear HL HB
        have HL := Lib.hid hl
        have HB := Lib.hid hb
        clear hl hb
        cases gk with
        | succ g1 =>
          have HP := Lib.hid (ln_place HL.out (j : Int))
          rw [place_lv (by have := HR.out; omega)] at HP
          have l3 : (j : Int) < (i : Int) := by omega
          obtain ⟨j1, hj1⟩ : ∃ k, j + 1 = k := ⟨_, rfl⟩
          have wk3 : IntKind.i64.wrap ((j : Int) + 1) = (j1 : Int) := by rw [show (j : Int) + 1 = (j1 : Int) by omega]; exact IntWalk.i64_in _ (by have := HMR.out; omega)
          have HJ : Hid (j1 + g1 = i) := Lib.hid (by omega)
          by_cases e1 : j = x
          · subst e1
            rw [if_pos rfl] at HP
            have l4 : ¬ (j : Int) < (j : Int) := by omega
            clear hj hj1
            go_wp2_with fail
            refine HP.out.mono ?_
            rintro e w6 ⟨rfl, hb⟩
            have HL := Lib.hid (HL.out.below hb)
            have HB := Lib.hid (HB.out.trans (hb.mono HB.out.size))
            clear hb HP
            go_wp2
            go_roundg g1
            case measure => exact Nat.lt_succ_self _
            case rel => exact ⟨j1, rfl, HJ.out, HL.out, HB.out⟩
          · by_cases e2 : x < j
            · rw [if_neg e1, if_pos e2] at HP
              have l4 : (x : Int) < (j : Int) := by omega
              have l5 : ¬ (j : Int) = (x : Int) := by omega
              obtain ⟨j0, hj0⟩ : ∃ k : Nat, (j : Int) - 1 = (k : Int) := ⟨j - 1, by omega⟩
              rw [hj0] at HP
              have wk4 : IntKind.i64.wrap ((j : Int) - 1) = (j0 : Int) := by rw [hj0]; exact IntWalk.i64_in _ (by have := HMR.out; omega)
              clear hj hj1 e1 e2 hj0
              go_wp2_with fail
              refine HP.out.mono ?_
              rintro e w6 ⟨rfl, hb⟩
              have HL := Lib.hid (HL.out.below hb)
              have HB := Lib.hid (HB.out.trans (hb.mono HB.out.size))
              clear hb HP
              go_wp2
              go_roundg g1
              case measure => exact Nat.lt_succ_self _
              case rel => exact ⟨j1, rfl, HJ.out, HL.out, HB.out⟩
            · rw [if_neg e1, if_neg e2] at HP
              have l4 : ¬ (x : Int) < (j : Int) := by omega
              have l5 : ¬ (j : Int) = (x : Int) := by omega
              clear hj hj1 e1 e2
              go_wp2_with fail
              refine HP.out.mono ?_
              rintro e w6 ⟨rfl, hb⟩
              have HL := Lib.hid (HL.out.below hb)
              have HB := Lib.hid (HB.out.trans (hb.mono HB.out.size))
              clear hb HP
              go_wp2
              go_roundg g1
              case measure => exact Nat.lt_succ_self _
              case rel => exact ⟨j1, rfl, HJ.out, HL.out, HB.out⟩
        | zero =>
          have l3 : ¬ ((j : Int) < (i : Int)) := by omega
          clear hj
          go_wp2_with fail
          refine (known_any _).mono ?_
          rintro e wz ⟨rfl, hb⟩
          have HB := Lib.hid (HB.out.trans (hb.mono HB.out.size))
          clear hb
          go_wp2
          go_ret
          exact ⟨rfl, HB.out⟩
theorem leaves_law (n q : Int) (w : World) (hn : (Lit.int .u8 n).wf = true) (hq : (Lit.int .u8 q).wf = true) :
    Calls Try.prog 7 #[.int .u8 n, .int .u8 q] w (RdP (.bool true) w) := leaves_any n q (wf8 n hn) (wf8 q hq) w
end Go.Proofs.Ytckodebcigmkgaa.LN
