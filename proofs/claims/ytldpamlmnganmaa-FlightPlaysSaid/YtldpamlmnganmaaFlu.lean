/- FlightLeaves' walk. No condition. -/
import Derived.Test.YtldpamlmnganmaaFlu0
namespace Go.Proofs.Ytldpamlmnganmaa.FL
open Go.ChangeShapes Go.WideShapes Go.ChangeAt Go.RowKit Go.Maps Go.ChangeMaps
open Go.Proofs.Ytldpamlmnganmaa.SL
set_option maxRecDepth 100000
set_option linter.unusedVariables false
set_option linter.unusedSimpArgs false

theorem wf8 (x : Int) (h : (Lit.int .u8 x).wf = true) : 0 ≤ x ∧ x ≤ 255 := by
  simp [Lit.wf, IntKind.min, IntKind.max, IntKind.signed, IntKind.bits] at h
  omega
set_option maxHeartbeats 8000000 in
theorem leaves_long (k : Ky) (n q : Int) (w : World) (hky : kyB k) (hs : shK k = false) :
    Calls Try.prog 5 #[kyV k, .int .u8 n, .int .u8 q] w fun e w' => e = .returned (.bool true) ∧ Below w.heap.size w w' := by
  obtain ⟨kb, hkb⟩ : ∃ b, w.heap.size = b := ⟨_, rfl⟩
  obtain ⟨W0, hW0⟩ : ∃ W, w.alloc (.cells (kC k) 30) = W := ⟨_, rfl⟩
  have hb0 : Below w.heap.size w W0 := by rw [← hW0]; exact (Below.refl _ _).alloc (Nat.le_refl _) _
  have kk0 : Bk W0 kb 30 (kC k) := by rw [← hW0, ← hkb]; exact Bk.new _ _ _
  have HB := Lib.hid hb0
  have HKK := Lib.hid kk0
  clear hb0 kk0
  go_enter Try.func5, Try.ntmps5
  go_wp2_with fail
  try rw [hW0]
  try rw [hkb]
  refine (lb_new W0).mono ?_
  rintro e w1 ⟨a, rfl, hlb, hb⟩
  clear hW0
  have HKK := Lib.hid (HKK.out.heap (hb.block _ HKK.out.lt))
  have HL : Hid (LB w.heap.size w1 a 0 []) := Lib.hid (by
    obtain ⟨C, h1, h2⟩ := hlb
    exact ⟨C, h1, fun b hb => Nat.le_trans HB.out.size (h2 b hb)⟩)
  have HB := Lib.hid (HB.out.trans (hb.mono HB.out.size))
  have HSH := Lib.hid (short_any k hky w1)
  clear hlb hb hkb hky
  rw [hs] at HSH
  clear hs
  obtain ⟨db, ro, fm, no⟩ := k
  have a0 : w1.cell? ⟨kb, 0, none⟩ = some (.string db) := HKK.out.cell 0
  have a1 : w1.cell? ⟨kb, 1, none⟩ = some (.string ro) := HKK.out.cell 1
  have a2 : w1.cell? ⟨kb, 2, none⟩ = some (.int .i64 fm) := HKK.out.cell 2
  have a3 : w1.cell? ⟨kb, 3, none⟩ = some (.string no) := HKK.out.cell 3
  go_wp2_with fail
  refine HSH.out.mono ?_
  rintro e w2 ⟨rfl, hb⟩
  have HB := Lib.hid (HB.out.trans (hb.mono HB.out.size))
  clear hb a0 a1 a2 a3
  go_wp2_with fail
  refine (known_any _).mono ?_
  rintro e wz ⟨rfl, hb⟩
  have HB := Lib.hid (HB.out.trans (hb.mono HB.out.size))
  clear hb
  go_wp2
  go_ret
  exact ⟨rfl, HB.out⟩
set_option maxHeartbeats 16000000 in
theorem leaves_any (k : Ky) (n q : Int) (hn : 0 ≤ n ∧ n ≤ 255) (hq : 0 ≤ q ∧ q ≤ 255) (w : World) (hky : kyB k) (hs : shK k = true) :
    Calls Try.prog 5 #[kyV k, .int .u8 n, .int .u8 q] w fun e w' => e = .returned (.bool true) ∧ Below w.heap.size w w' := by
  have HFI := Lib.hid (hky.fit hs)
  obtain ⟨m, hm⟩ : ∃ m : Nat, 1 + n % 20 = (m : Int) := ⟨(1 + n % 20).toNat, by omega⟩
  have hmr : 1 ≤ m ∧ m ≤ 20 := by omega
  obtain ⟨x, hx⟩ : ∃ x : Nat, q % (m : Int) = (x : Int) := ⟨(q % (m : Int)).toNat, by
    have := Int.emod_nonneg q (show (m : Int) ≠ 0 by omega)
    omega⟩
  have hxr : x < m := by
    have := Int.emod_lt_of_pos q (show (0 : Int) < m by omega)
    omega
  obtain ⟨kb, hkb⟩ : ∃ b, w.heap.size = b := ⟨_, rfl⟩
  obtain ⟨W0, hW0⟩ : ∃ W, w.alloc (.cells (kC k) 30) = W := ⟨_, rfl⟩
  have hb0 : Below w.heap.size w W0 := by rw [← hW0]; exact (Below.refl _ _).alloc (Nat.le_refl _) _
  have kk0 : Bk W0 kb 30 (kC k) := by rw [← hW0, ← hkb]; exact Bk.new _ _ _
  have HB := Lib.hid hb0
  have HKK := Lib.hid kk0
  clear hb0 kk0
  go_enter Try.func5, Try.ntmps5
  go_wp2_with fail
  try rw [hW0]
  try rw [hkb]
  refine (lb_new W0).mono ?_
  rintro e w1 ⟨a, rfl, hlb, hb⟩
  clear hW0
  have HKK := Lib.hid (HKK.out.heap (hb.block _ HKK.out.lt))
  have HL : Hid (LB w.heap.size w1 a 0 []) := Lib.hid (by
    obtain ⟨C, h1, h2⟩ := hlb
    exact ⟨C, h1, fun b hb => Nat.le_trans HB.out.size (h2 b hb)⟩)
  have HB := Lib.hid (HB.out.trans (hb.mono HB.out.size))
  have HSH := Lib.hid (short_any k hky w1)
  clear hlb hb hkb hky
  rw [hs] at HSH
  clear hs
  obtain ⟨db, ro, fm, no⟩ := k
  have a0 : w1.cell? ⟨kb, 0, none⟩ = some (.string db) := HKK.out.cell 0
  have a1 : w1.cell? ⟨kb, 1, none⟩ = some (.string ro) := HKK.out.cell 1
  have a2 : w1.cell? ⟨kb, 2, none⟩ = some (.int .i64 fm) := HKK.out.cell 2
  have a3 : w1.cell? ⟨kb, 3, none⟩ = some (.string no) := HKK.out.cell 3
  go_wp2_with fail
  refine HSH.out.mono ?_
  rintro e w2 ⟨rfl, hb⟩
  have HKK := Lib.hid (HKK.out.heap (hb.block _ HKK.out.lt))
  have HL := Lib.hid (HL.out.below hb)
  have HB := Lib.hid (HB.out.trans (hb.mono HB.out.size))
  clear hb a0 a1 a2 a3 HSH
  go_wp2
  go_loopg [9] m (fun gk u9 wx => ∃ i : Nat, u9 = .int .i64 (i : Int) ∧ i + gk = m ∧ LB w.heap.size wx a i (flS (db, ro, fm, no) i) ∧ Bk wx kb 30 (kC (db, ro, fm, no)) ∧ Below w.heap.size w wx)
  case atStart => exact ⟨0, rfl, by omega, HL.out, HKK.out, HB.out⟩
  case round =>
    obtain ⟨i, rfl, hi, hlb, hkk, hb⟩ := hrel
    clear HL HKK HB
    have HL := Lib.hid hlb
    have HKK := Lib.hid hkk
    have HB := Lib.hid hb
    clear hlb hkk hb
    have a0 : wr.cell? ⟨kb, 0, none⟩ = some (.string db) := HKK.out.cell 0
    have a1 : wr.cell? ⟨kb, 1, none⟩ = some (.string ro) := HKK.out.cell 1
    have a2 : wr.cell? ⟨kb, 2, none⟩ = some (.int .i64 fm) := HKK.out.cell 2
    have a3 : wr.cell? ⟨kb, 3, none⟩ = some (.string no) := HKK.out.cell 3
    cases gk with
    | succ gk1 =>
      have HASK := Lib.hid (lb_ask HL.out (by omega) _ HFI.out (i : Int) ⟨by omega, by omega⟩)
      rw [ask_upto] at HASK
      have l1 : (i : Int) < (m : Int) := by omega
      obtain ⟨i1, hi1⟩ : ∃ j, i + 1 = j := ⟨_, rfl⟩
      rw [hi1] at HASK
      have wk : IntKind.i64.wrap ((i : Int) + 1) = (i1 : Int) := by rw [show (i : Int) + 1 = (i1 : Int) by omega]; exact IntWalk.i64_in _ (by omega)
      have HI : Hid (i1 + gk1 = m) := Lib.hid (by omega)
      clear hi hi1 hm hmr hx hxr hn hq
      go_wp2_with fail
      refine HASK.out.mono ?_
      rintro e w3 ⟨rfl, hs⟩
      have HKK := Lib.hid (hs.kf.bk HKK.out)
      have HL := Lib.hid hs.lb
      have HB := Lib.hid (HB.out.trans hs.bel)
      clear hs a0 a1 a2 a3
      go_wp2
      go_roundg gk1
      case measure => exact Nat.lt_succ_self _
      case rel => exact ⟨i1, rfl, HI.out, HL.out, HKK.out, HB.out⟩
    | zero =>
      have hie : i = m := by omega
      subst hie
      have l1 : ¬ ((i : Int) < (i : Int)) := by omega
      have HMR := Lib.hid hmr
      clear hi hm
      have hm0 : ¬ ((i : Int) = 0) := by omega
      rcases Nat.eq_zero_or_pos x with hx0 | hxp
      · have hx1 : q % (i : Int) = 0 := by rw [hx, hx0]; rfl
        obtain ⟨m1, hm1⟩ : ∃ m1, i = m1 + 1 := ⟨i - 1, by omega⟩
        have HE := Lib.hid hm1
        have HLE := Lib.hid (lb_leave HL.out (by omega) 0 ⟨by omega, by omega⟩)
        rw [show leaveS (flS (db, ro, fm, no) i) 0 = ([], (upto m1).map (· + 1), true) by rw [hm1]; exact leave_zero _ _] at HLE
        have wk2 : IntKind.i64.wrap ((i : Int) - 1) = (m1 : Int) := by rw [show (i : Int) - 1 = (m1 : Int) by omega]; exact IntWalk.i64_in _ (by omega)
        clear hx hx0 hxr hm1 hmr hn a0 a1 a2 a3
        go_wp2_with fail
        refine HLE.out.mono ?_
        rintro e w3 ⟨v1, rfl, hi1, hs⟩
        have HKK := Lib.hid (hs.kf.bk HKK.out)
        have HL := Lib.hid hs.lb
        have HB := Lib.hid (HB.out.trans hs.bel)
        have HIS := Lib.hid hi1
        have HLE2 := Lib.hid (lb_leave hs.lb (by have := HMR.out; omega) 0 ⟨by omega, by omega⟩)
        rw [show leaveS [] 0 = ([], [], false) from rfl] at HLE2
        obtain ⟨va, vc, hv⟩ := hi1.form
        rw [List.length_map, upto_len] at hv
        subst hv
        clear hs hi1 HLE
        go_wp2_with fail
        refine HLE2.out.mono ?_
        rintro e w4 ⟨v2, rfl, hi2, hs⟩
        obtain ⟨va2, vc2, rfl⟩ := hi2.form
        have HIS := Lib.hid (HIS.out.ki hs.kf.ki)
        have HKK := Lib.hid (hs.kf.bk HKK.out)
        have HL := Lib.hid hs.lb
        have HB := Lib.hid (HB.out.trans hs.bel)
        have HLD : Hid (Calls Try.prog 19 #[ptr a, kyV (db, ro, fm, no)] w4 (RdP (.tuple #[.int .i64 0, .bool false]) w4)) := Lib.hid (lb_lead hs.lb _ HFI.out)
        have a0 : w4.cell? ⟨kb, 0, none⟩ = some (.string db) := HKK.out.cell 0
        have a1 : w4.cell? ⟨kb, 1, none⟩ = some (.string ro) := HKK.out.cell 1
        have a2 : w4.cell? ⟨kb, 2, none⟩ = some (.int .i64 fm) := HKK.out.cell 2
        have a3 : w4.cell? ⟨kb, 3, none⟩ = some (.string no) := HKK.out.cell 3
        clear hs hi2 HLE2
        go_wp2_with fail
        refine HLD.out.mono ?_
        rintro e w5 ⟨rfl, hb⟩
        have HIS := Lib.hid (HIS.out.below hb)
        have HL := Lib.hid (HL.out.below hb)
        have HB := Lib.hid (HB.out.trans (hb.mono HB.out.size))
        clear hb a0 a1 a2 a3 HLD
        go_wp2
        go_loopg [20] m1 (fun gk u20 wx => ∃ j : Nat, u20 = .int .i64 (j : Int) ∧ j + gk = m1 ∧ LB w.heap.size wx a i [] ∧ IS wx (.slice va m1 vc) ((upto m1).map (· + 1)) ∧ Below w.heap.size w wx)
        case atStart => exact ⟨0, rfl, by omega, HL.out, HIS.out, HB.out⟩
        case round =>
          obtain ⟨j, rfl, hj, hlb, his, hb⟩ := hrel
          clear HL HIS HB
          have HL := Lib.hid hlb
          have HIS := Lib.hid his
          have HB := Lib.hid hb
          clear hlb his hb
          cases gk with
          | succ gk1 =>
            have hjl : j < m1 := by omega
            obtain ⟨b, off, cp, he, hcp, hx⟩ := HIS.out.at_ (by rw [List.length_map, upto_len]; omega)
            rw [List.length_map, upto_len] at he
            injection he with e1 _ e2
            subst e1 e2
            obtain ⟨j1, hj1⟩ : ∃ j1, j + 1 = j1 := ⟨_, rfl⟩
            have x0 := hx j (j1 : Int) (by
              rw [List.getElem?_map, upto_at hjl]
              show some ((j : Int) + 1) = _
              congr 1
              omega)
            have HW := Lib.hid (lb_waits HL.out (j1 : Int) ⟨by omega, by have := HMR.out; have := HE.out; omega⟩)
            rw [wait_nil] at HW
            obtain ⟨zk, hzk⟩ : ∃ k, zKy = k := ⟨_, rfl⟩
            rw [hzk] at HW
            obtain ⟨y0, y1, y2, y3⟩ := zk
            have l0 : (0 : Int) ≤ (j : Int) := by omega
            have l2 : (j : Int) < (m1 : Int) := by omega
            have wk : IntKind.i64.wrap ((j : Int) + 1) = (j1 : Int) := by rw [show (j : Int) + 1 = (j1 : Int) by omega]; exact IntWalk.i64_in _ (by have := HMR.out; have := HE.out; omega)
            have HJ : Hid (j1 + gk1 = m1) := Lib.hid (by omega)
            clear hjl hx hcp hj hj1 hzk
            go_wp2_with fail
            refine HW.out.mono ?_
            rintro e w6 ⟨rfl, hb⟩
            have b7 : Below w6.heap.size w6 (w6.alloc (.cells (kC (y0, y1, y2, y3)) 30)) := (Below.refl _ _).alloc (Nat.le_refl _) _
            have HIS := Lib.hid ((HIS.out.below hb).below b7)
            have HL := Lib.hid ((HL.out.below hb).below b7)
            have HB := Lib.hid ((HB.out.trans (hb.mono HB.out.size)).alloc (Nat.le_trans HB.out.size hb.size) (.cells (kC (y0, y1, y2, y3)) 30))
            have x1 : (w6.alloc (.cells (kC (y0, y1, y2, y3)) 30)).cell? ⟨b, off + j, none⟩ = some (nV (j1 : Int)) := (b7.cell (p := ⟨b, off + j, none⟩) (Nat.lt_of_lt_of_le (World.block_lt_of_cell? _ _ x0) hb.size)).trans ((hb.cell (p := ⟨b, off + j, none⟩) (World.block_lt_of_cell? _ _ x0)).trans x0)
            clear hb b7 HW
            obtain ⟨W7, hW7⟩ : ∃ W, w6.alloc (.cells (kC (y0, y1, y2, y3)) 30) = W := ⟨_, rfl⟩
            rw [hW7] at x1 HIS HL HB
            go_wp2
            go_roundg gk1
            case measure => exact Nat.lt_succ_self _
            case rel => exact ⟨j1, rfl, HJ.out, HL.out, HIS.out, HB.out⟩
          | zero =>
            have l2 : ¬ ((j : Int) < (m1 : Int)) := by omega
            clear hj
            go_wp2_with fail
            refine (known_any _).mono ?_
            rintro e wz ⟨rfl, hb⟩
            have HB := Lib.hid (HB.out.trans (hb.mono HB.out.size))
            clear hb
            go_wp2
            go_ret
            exact ⟨rfl, HB.out⟩
      · have h1 : ¬ ((x : Int) = 0) := by omega
        have h2 : (0 : Int) < (x : Int) := by omega
        obtain ⟨L, hL⟩ : ∃ L, (upto i).filter (fun y => decide (y ≠ (x : Int))) = L := ⟨_, rfl⟩
        have HLL : Hid (L.length = i - 1) := Lib.hid (by rw [← hL]; exact filter_len i ⟨by omega, by omega⟩)
        have HLE := Lib.hid (lb_leave HL.out (by omega) (x : Int) ⟨by omega, by omega⟩)
        rw [leave_more _ ⟨h2, by omega⟩, hL] at HLE
        have HOF : Hid (leaveS [((db, ro, fm, no), L)] (x : Int) = ([((db, ro, fm, no), L)], [], false)) := Lib.hid (leave_none _ _ (by rw [← hL]; exact of_quit _ _ _))
        have HX : Hid (I9 (x : Int)) := Lib.hid ⟨by omega, by omega⟩
        obtain ⟨hd, hhd⟩ : ∃ h, L.headD 0 = h := ⟨_, rfl⟩
        have HHD := Lib.hid hhd
        obtain ⟨m2, hm2⟩ : ∃ m2, L.tail.length = m2 := ⟨_, rfl⟩
        have HM2 := Lib.hid hm2
        have wk2 : IntKind.i64.wrap ((i : Int) - 2) = (m2 : Int) := by
          have := HLL.out
          rw [List.length_tail] at hm2
          rw [show (i : Int) - 2 = (m2 : Int) by omega]
          exact IntWalk.i64_in _ (by omega)
        clear hxp hxr hmr hn a0 a1 a2 a3 hL hhd hm2
        go_wp2_with fail
        refine HLE.out.mono ?_
        rintro e w3 ⟨v1, rfl, hi1, hs⟩
        have HKK := Lib.hid (hs.kf.bk HKK.out)
        have HB := Lib.hid (HB.out.trans hs.bel)
        have HLE2 := Lib.hid (lb_leave hs.lb (by have := HMR.out; omega) (x : Int) HX.out)
        rw [HOF.out] at HLE2
        obtain ⟨va, vc, rfl⟩ := hi1.form
        clear hs hi1 HLE
        go_wp2_with fail
        refine HLE2.out.mono ?_
        rintro e w4 ⟨v2, rfl, hi2, hs⟩
        obtain ⟨va2, vc2, rfl⟩ := hi2.form
        have HKK := Lib.hid (hs.kf.bk HKK.out)
        have HL := Lib.hid hs.lb
        have HB := Lib.hid (HB.out.trans hs.bel)
        have HLD := Lib.hid (lb_lead hs.lb _ HFI.out)
        rw [lead_one, HHD.out] at HLD
        have a0 : w4.cell? ⟨kb, 0, none⟩ = some (.string db) := HKK.out.cell 0
        have a1 : w4.cell? ⟨kb, 1, none⟩ = some (.string ro) := HKK.out.cell 1
        have a2 : w4.cell? ⟨kb, 2, none⟩ = some (.int .i64 fm) := HKK.out.cell 2
        have a3 : w4.cell? ⟨kb, 3, none⟩ = some (.string no) := HKK.out.cell 3
        clear hs hi2 HLE2
        go_wp2_with fail
        refine HLD.out.mono ?_
        rintro e w5 ⟨rfl, hb⟩
        have HKK := Lib.hid (HKK.out.heap (hb.block _ HKK.out.lt))
        have HL := Lib.hid (HL.out.below hb)
        have HB := Lib.hid (HB.out.trans (hb.mono HB.out.size))
        have HLA := Lib.hid (lb_land HL.out (by have := HMR.out; omega) _ HFI.out)
        rw [land_one, HHD.out] at HLA
        clear hb a0 a1 a2 a3 HLD
        have a0 : w5.cell? ⟨kb, 0, none⟩ = some (.string db) := HKK.out.cell 0
        have a1 : w5.cell? ⟨kb, 1, none⟩ = some (.string ro) := HKK.out.cell 1
        have a2 : w5.cell? ⟨kb, 2, none⟩ = some (.int .i64 fm) := HKK.out.cell 2
        have a3 : w5.cell? ⟨kb, 3, none⟩ = some (.string no) := HKK.out.cell 3
        go_wp2_with fail
        refine HLA.out.mono ?_
        rintro e w6 ⟨v3, rfl, hi3, hs⟩
        obtain ⟨va3, vc3, hv⟩ := hi3.form
        rw [HM2.out] at hv
        subst hv
        have HB := Lib.hid (HB.out.trans hs.bel)
        clear hs hi3 a0 a1 a2 a3 HLA
        go_wp2_with fail
        refine (known_any _).mono ?_
        rintro e wz ⟨rfl, hb⟩
        have HB := Lib.hid (HB.out.trans (hb.mono HB.out.size))
        clear hb
        go_wp2
        go_ret
        exact ⟨rfl, HB.out⟩
theorem leaves_law (v : Value) (n q : Int) (w : World) (hf : FitsK w v) (hn : (Lit.int .u8 n).wf = true) (hq : (Lit.int .u8 q).wf = true) :
    Calls Try.prog 5 #[v, .int .u8 n, .int .u8 q] w fun e w' => e = .returned (.bool true) ∧ Below w.heap.size w w' := by
  obtain ⟨k, rfl, hk⟩ := hf
  cases hs : shK k with
  | false => exact leaves_long k n q w hk hs
  | true => exact leaves_any k n q (wf8 n hn) (wf8 q hq) w hk hs
end Go.Proofs.Ytldpamlmnganmaa.FL
